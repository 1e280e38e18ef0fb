import Derived.Test.YtbocejiclellfaaGreatDoorQ09Hpc
import Derived.Test.YtbocejiclellfaaGreatDoorQ03Clw
import Derived.Test.YtbocejiclellfaaGreatDoorQ07Rpl
import Derived.Test.YtbocejiclellfaaGreatDoorQ05Flt
import Derived.Test.YtbocejiclellfaaGreatDoorQ08Rma
import Derived.StillTailTactics
import Derived.Deep.DeepCutAuto
import Derived.Test.YtbocejiclellfaaGreatDoorQ00IKit

/- Order, plain. -/
set_option linter.unusedSimpArgs false
set_option linter.unusedVariables false
set_option maxRecDepth 100000
namespace Go.Proofs.YtbocejiclellfaaGreatDoor
open Go.RowKit

theorem swL_perm {h : List Int} {i j : Nat} (hi : i < h.length) (hj : j < h.length) : (swL h i j).Perm h := by
  have k := Array.swap_perm (xs := h.toArray) (i := i) (j := j) (by simpa using hi) (by simpa using hj)
  have e : (h.toArray.swap i j (by simpa using hi) (by simpa using hj)).toList = swL h i j := by
    unfold swL
    rw [List.getElem?_eq_getElem hi, List.getElem?_eq_getElem hj]
    simp [Array.swap]
  rw [← e]
  exact k.toList
theorem upF_perm : ∀ (f : Nat) (h : List Int) (j : Nat), j < h.length → (upF f h j).Perm h
  | 0, h, j, _ => List.Perm.refl _
  | f + 1, h, j, hj => by
    unfold upF
    split
    · exact List.Perm.refl _
    · split
      · have hp : (j - 1) / 2 < h.length := by omega
        exact (upF_perm f _ _ (by rw [swL_len]; exact hp)).trans (swL_perm hp hj)
      · exact List.Perm.refl _
theorem pushL_perm (h : List Int) (x : Int) : (pushL h x).Perm (h ++ [x]) := upF_perm _ _ _ (by simp)
theorem downF_perm : ∀ (f : Nat) (h : List Int) (i m : Nat), m ≤ h.length → (downF f h i m).Perm h
  | 0, h, i, m, _ => List.Perm.refl _
  | f + 1, h, i, m, hm => by
    unfold downF
    split
    · exact List.Perm.refl _
    · rename_i hc
      split
      · have := chJ_le h i m (by omega)
        exact (downF_perm f _ _ _ (by rw [swL_len]; exact hm)).trans (swL_perm (by omega) (by omega))
      · exact List.Perm.refl _
theorem popL_spec {h : List Int} {x : Int} (hx : h[0]? = some x) : downF (h.length - 1) (swL h 0 (h.length - 1)) 0 (h.length - 1) = popL h ++ [x] := by
  have hpos : 0 < h.length := (List.getElem?_eq_some_iff.1 hx).1
  obtain ⟨L, hL⟩ : ∃ L, h.length - 1 = L := ⟨_, rfl⟩
  obtain ⟨y, hy⟩ := at_lt (show L < h.length by omega)
  have hlen : (downF L (swL h 0 L) 0 L).length = h.length := by rw [downF_len, swL_len]
  have hat : (downF L (swL h 0 L) 0 L)[L]? = some x := by
    rw [downF_at _ _ _ _ _ (Nat.le_refl _)]
    unfold swL
    rw [hx, hy]
    simp only [Option.getD_some]
    have h1 : L < (h.set 0 y).length := by rw [List.length_set]; omega
    rw [List.getElem?_set_self h1]
  have h1 := take_snoc hat
  rw [List.take_of_length_le (by omega)] at h1
  unfold popL
  rw [hL, h1, List.dropLast_concat]
theorem popL_perm {h : List Int} {x : Int} (hx : h[0]? = some x) : (popL h ++ [x]).Perm h := by
  have hpos : 0 < h.length := (List.getElem?_eq_some_iff.1 hx).1
  rw [← popL_spec hx]
  exact (downF_perm _ _ _ _ (by rw [swL_len]; omega)).trans (swL_perm hpos (by omega))
theorem pushL_len (h : List Int) (x : Int) : (pushL h x).length = h.length + 1 := by
  rw [(pushL_perm h x).length_eq]
  simp
theorem popL_len {h : List Int} {x : Int} (hx : h[0]? = some x) : (popL h).length + 1 = h.length := by
  have := (popL_perm hx).length_eq
  simpa using this

/-- Behind k numbers: how many right above each, and which of them wait for none. -/
def ordI (Es : List En) : Nat → List Int × List Int
  | 0 => (List.replicate Es.length 0, [])
  | k + 1 => ((ordI Es k).1.set k ((nxE Es k).length : Int), if (nxE Es k).length = 0 then pushL (ordI Es k).2 (k : Int) else (ordI Es k).2)
theorem ordI_len (Es : List En) : ∀ k, (ordI Es k).1.length = Es.length ∧ (ordI Es k).2.length ≤ k
  | 0 => by simp [ordI]
  | k + 1 => by
    have h := ordI_len Es k
    unfold ordI
    refine ⟨by simpa using h.1, ?_⟩
    simp only
    split
    · rw [pushL_len]; omega
    · omega
/-- Those right below one have one less to wait for. -/
def dec1 (ws h : List Int) (u : Int) : List Int × List Int := (ws.set u.toNat (ws[u.toNat]?.getD 0 - 1), if ws[u.toNat]?.getD 0 - 1 = 0 then pushL h u else h)
def decF : List Int → List Int → List Int → List Int × List Int
  | [], ws, h => (ws, h)
  | u :: us, ws, h => decF us (dec1 ws h u).1 (dec1 ws h u).2
def mainF (Es : List En) : Nat → List Int → List Int → List Int → List Int
  | 0, _, _, o => o
  | f + 1, ws, h, o => match h[0]? with
    | none => o
    | some x => mainF Es f (decF ((belowL Es)[x.toNat]?.getD []) ws (popL h)).1 (decF ((belowL Es)[x.toNat]?.getD []) ws (popL h)).2 (o ++ [x])
/-- What Order answers. -/
def ordL (Es : List En) : List Int := mainF Es (Es.length + 1) (ordI Es Es.length).1 (ordI Es Es.length).2 []
/-- What holds of those that may come next, and those that have come. -/
structure OI (n D : Nat) (ws h o : List Int) : Prop where
  len : ws.length = n
  nd : (h ++ o).Nodup
  lo : ∀ y ∈ h ++ o, 0 ≤ y ∧ y < (n : Int) ∧ ws[y.toNat]?.getD 0 ≤ 0
  wb : ∀ (i : Nat) (c : Int), ws[i]? = some c → -(D : Int) ≤ c ∧ c ≤ 1000
theorem OI.le {n D : Nat} {ws h o : List Int} (k : OI n D ws h o) : h.length + o.length ≤ n := by
  have := nodup_le n (h ++ o) k.nd (fun i hi => ⟨(k.lo i hi).1, (k.lo i hi).2.1⟩)
  simpa using this
theorem OI.pop {n D : Nat} {ws h o : List Int} {x : Int} (k : OI n D ws h o) (hx : h[0]? = some x) : OI n D ws (popL h) (o ++ [x]) := by
  have hp : (popL h ++ (o ++ [x])).Perm (h ++ o) := by
    refine List.Perm.trans ?_ ((popL_perm hx).append_right o)
    rw [List.append_assoc]
    exact List.Perm.append_left _ List.perm_append_comm
  exact ⟨k.len, hp.nodup_iff.2 k.nd, fun y hy => k.lo y (hp.mem_iff.1 hy), k.wb⟩
theorem OI.dec {n D : Nat} {ws h o : List Int} {u : Int} (k : OI n D ws h o) (h0 : 0 ≤ u) (hu : u < (n : Int)) : OI n (D + 1) (dec1 ws h u).1 (dec1 ws h u).2 o := by
  obtain ⟨j, rfl⟩ := Int.eq_ofNat_of_zero_le h0
  have hj : j < ws.length := by rw [k.len]; omega
  obtain ⟨c, hc⟩ := at_lt hj
  have hcb := k.wb j c hc
  unfold dec1
  simp only [Int.toNat_natCast, hc, Option.getD_some]
  have hset : ∀ y : Int, 0 ≤ y → (ws.set j (c - 1))[y.toNat]?.getD 0 = if y = (j : Int) then c - 1 else ws[y.toNat]?.getD 0 := fun y hy => by
    by_cases e : y = (j : Int)
    · subst e
      rw [if_pos rfl, Int.toNat_natCast, List.getElem?_set_self hj]
      rfl
    · rw [if_neg e, List.getElem?_set_ne (by omega)]
  have hwb : ∀ (i : Nat) (d : Int), (ws.set j (c - 1))[i]? = some d → -((D + 1 : Nat) : Int) ≤ d ∧ d ≤ 1000 := fun i d hd => by
    by_cases e : i = j
    · subst e
      rw [List.getElem?_set_self hj] at hd
      injection hd with hd
      omega
    · rw [List.getElem?_set_ne (by omega)] at hd
      have := k.wb i d hd
      omega
  have hlo : ∀ y ∈ h ++ o, 0 ≤ y ∧ y < (n : Int) ∧ (ws.set j (c - 1))[y.toNat]?.getD 0 ≤ 0 := fun y hy => by
    have := k.lo y hy
    refine ⟨this.1, this.2.1, ?_⟩
    rw [hset y this.1]
    split
    · rename_i e
      have h2 := this.2.2
      rw [e, Int.toNat_natCast, hc] at h2
      simp at h2
      omega
    · exact this.2.2
  by_cases hz : c - 1 = 0
  · rw [if_pos hz]
    have hni : (j : Int) ∉ h ++ o := fun hm => by
      have := (k.lo _ hm).2.2
      rw [Int.toNat_natCast, hc] at this
      simp at this
      omega
    have hp : (pushL h (j : Int) ++ o).Perm ((j : Int) :: (h ++ o)) := by
      refine List.Perm.trans ((pushL_perm h _).append_right o) ?_
      rw [List.append_assoc]
      exact List.perm_middle
    refine ⟨by rw [List.length_set]; exact k.len, hp.nodup_iff.2 (List.nodup_cons.2 ⟨hni, k.nd⟩), fun y hy => ?_, hwb⟩
    rcases List.mem_cons.1 (hp.mem_iff.1 hy) with rfl | hy
    · refine ⟨by omega, hu, ?_⟩
      rw [hset _ (by omega), if_pos rfl]
      omega
    · exact hlo y hy
  · rw [if_neg hz]
    exact ⟨by rw [List.length_set]; exact k.len, k.nd, hlo, hwb⟩
theorem ordI_ok {Es : List En} (hok : EsOk Es) : ∀ k, k ≤ Es.length → (∀ y ∈ (ordI Es k).2, 0 ≤ y ∧ y < (k : Int) ∧ (ordI Es k).1[y.toNat]?.getD 0 ≤ 0) ∧ (ordI Es k).2.Nodup ∧ (∀ (i : Nat) (c : Int), (ordI Es k).1[i]? = some c → 0 ≤ c ∧ c ≤ 1000)
  | 0, _ => by
    refine ⟨by simp [ordI], by simp [ordI], fun i c hc => ?_⟩
    have := List.eq_of_mem_replicate (List.mem_of_getElem? hc)
    omega
  | k + 1, hk => by
    obtain ⟨h1, h2, h3⟩ := ordI_ok hok k (by omega)
    have hl := (ordI_len Es k).1
    have hset : ∀ (y : Int), 0 ≤ y → y < (k : Int) → ((ordI Es k).1.set k ((nxE Es k).length : Int))[y.toNat]?.getD 0 = (ordI Es k).1[y.toNat]?.getD 0 := fun y hy hyk => by rw [List.getElem?_set_ne (by omega)]
    have hs3 : ∀ (i : Nat) (c : Int), ((ordI Es k).1.set k ((nxE Es k).length : Int))[i]? = some c → 0 ≤ c ∧ c ≤ 1000 := fun i c hc => by
      by_cases e : i = k
      · subst e
        rw [List.getElem?_set_self (by omega)] at hc
        injection hc with hc
        have := hok.few i
        omega
      · rw [List.getElem?_set_ne (by omega)] at hc
        exact h3 i c hc
    unfold ordI
    simp only
    by_cases hz : (nxE Es k).length = 0
    · rw [if_pos hz]
      have hp : (pushL (ordI Es k).2 (k : Int)).Perm ((k : Int) :: (ordI Es k).2) := (pushL_perm _ _).trans List.perm_append_comm
      refine ⟨fun y hy => ?_, hp.nodup_iff.2 (List.nodup_cons.2 ⟨fun hm => by have := (h1 _ hm).2.1; omega, h2⟩), hs3⟩
      rcases List.mem_cons.1 (hp.mem_iff.1 hy) with rfl | hy
      · refine ⟨by omega, by omega, ?_⟩
        rw [Int.toNat_natCast, List.getElem?_set_self (by omega), hz]
        simp
      · have := h1 y hy
        exact ⟨this.1, by omega, by rw [hset y this.1 this.2.1]; exact this.2.2⟩
    · rw [if_neg hz]
      refine ⟨fun y hy => ?_, h2, hs3⟩
      have := h1 y hy
      exact ⟨this.1, by omega, by rw [hset y this.1 this.2.1]; exact this.2.2⟩
theorem ordI_OI {Es : List En} (hok : EsOk Es) : OI Es.length 0 (ordI Es Es.length).1 (ordI Es Es.length).2 [] := by
  obtain ⟨h1, h2, h3⟩ := ordI_ok hok Es.length (Nat.le_refl _)
  exact ⟨(ordI_len Es _).1, by simpa using h2, fun y hy => h1 y (by simpa using hy), fun i c hc => by have := h3 i c hc; omega⟩
theorem decF_OI {n : Nat} {o : List Int} : ∀ (us : List Int) {D : Nat} {ws h : List Int}, OI n D ws h o → (∀ u ∈ us, 0 ≤ u ∧ u < (n : Int)) → OI n (D + us.length) (decF us ws h).1 (decF us ws h).2 o
  | [], D, ws, h, k, _ => k
  | u :: us, D, ws, h, k, hu => by
    unfold decF
    have := decF_OI us (k.dec (hu u (by simp)).1 (hu u (by simp)).2) (fun v hv => hu v (by simp [hv]))
    rw [List.length_cons, show D + (us.length + 1) = D + 1 + us.length by omega]
    exact this
end Go.Proofs.YtbocejiclellfaaGreatDoor

/- Order puts each behind all above it: plain. -/
set_option linter.unusedSimpArgs false
set_option linter.unusedVariables false
set_option maxRecDepth 100000
namespace Go.Proofs.YtbocejiclellfaaGreatDoor
open Go.RowKit

def Wt (ws : List Int) (u : Nat) : Int := ws[u]?.getD 0
theorem count_addB (i : Nat) : ∀ (us : List Nat) (ls : List (List Int)) (b : Nat) (x : Int), b < ls.length → ((addB i us ls)[b]?.getD []).count x = (ls[b]?.getD []).count x + (if x = (i : Int) then us.count b else 0)
  | [], ls, b, x, _ => by simp [addB]
  | a :: us, ls, b, x, hb => by
    rw [addB, count_addB i us _ b x (by rw [List.length_set]; exact hb)]
    by_cases e : b = a
    · subst e
      rw [List.getElem?_set_self hb]
      simp only [Option.getD_some, List.count_append, List.count_cons, List.count_nil]
      by_cases hx : x = (i : Int)
      · subst hx
        simp
        omega
      · have hx2 : ¬ ((i : Int) = x) := fun h => hx h.symm
        simp [hx, hx2]
    · rw [List.getElem?_set_ne (by omega)]
      have e2 : (a == b) = false := by simp <;> omega
      simp only [List.count_cons, e2]
      simp
theorem count_belF (Es : List En) : ∀ (f k : Nat) (ls : List (List Int)) (b u : Nat), b < ls.length → ((belF Es f k ls)[b]?.getD []).count (u : Int) = (ls[b]?.getD []).count (u : Int) + (if k ≤ u ∧ u < k + f then (nxE Es u).count b else 0)
  | 0, k, ls, b, u, _ => by
    rw [if_neg (by omega)]
    simp [belF]
  | f + 1, k, ls, b, u, hb => by
    rw [belF, count_belF Es f (k + 1) _ b u (by rw [addB_len]; exact hb), count_addB k _ ls b _ hb]
    by_cases e : u = k
    · subst e
      rw [if_pos rfl, if_neg (by omega), if_pos (by omega)]
      try omega
    · rw [if_neg (by omega)]
      by_cases h : k + 1 ≤ u ∧ u < k + 1 + f
      · rw [if_pos h, if_pos (by omega)]; try omega
      · rw [if_neg h, if_neg (by omega)]; try omega
theorem count_bel (Es : List En) {a u : Nat} (ha : a < Es.length) (hu : u < Es.length) : ((belowL Es)[a]?.getD []).count (u : Int) = (nxE Es u).count a := by
  unfold belowL
  rw [count_belF Es _ _ _ _ _ (by simpa using ha), if_pos (by omega), List.getElem?_replicate, if_pos ha]
  simp
theorem dec1_ws (ws h : List Int) (v u : Nat) (hv : v < ws.length) : Wt (dec1 ws h (v : Int)).1 u = if u = v then Wt ws u - 1 else Wt ws u := by
  unfold dec1 Wt
  simp only [Int.toNat_natCast]
  by_cases e : u = v
  · subst e
    rw [if_pos rfl, List.getElem?_set_self hv]
    rfl
  · rw [if_neg e, List.getElem?_set_ne (by omega)]
theorem dec1_len (ws h : List Int) (v : Int) : (dec1 ws h v).1.length = ws.length := by simp [dec1]
theorem decF_len : ∀ (us ws h : List Int), (decF us ws h).1.length = ws.length
  | [], ws, h => rfl
  | v :: us, ws, h => by rw [decF, decF_len us, dec1_len]
theorem decF_ws : ∀ (us ws h : List Int) (u : Nat), (∀ v ∈ us, 0 ≤ v ∧ v < (ws.length : Int)) → Wt (decF us ws h).1 u = Wt ws u - (us.count (u : Int) : Int)
  | [], ws, h, u, _ => by simp [decF]
  | v :: us, ws, h, u, hus => by
    have hv := hus v (by simp)
    obtain ⟨vn, rfl⟩ := Int.eq_ofNat_of_zero_le hv.1
    rw [decF, decF_ws us _ _ u (fun w hw => by rw [dec1_len]; exact hus w (by simp [hw])), dec1_ws ws h vn u (by omega), List.count_cons]
    by_cases e : u = vn
    · subst e
      simp
      omega
    · have e2 : ((vn : Int) == (u : Int)) = false := by simp <;> omega
      rw [if_neg e, e2]
      simp
theorem pushL_mem (h : List Int) (x y : Int) : y ∈ pushL h x ↔ y ∈ h ∨ y = x := by
  rw [(pushL_perm h x).mem_iff]
  simp
theorem decF_mem : ∀ (us ws h : List Int), (∀ v ∈ us, 0 ≤ v ∧ v < (ws.length : Int)) → (∀ u : Nat, u < ws.length → (us.count (u : Int) : Int) ≤ Wt ws u) → ∀ y : Nat, y < ws.length → ((y : Int) ∈ (decF us ws h).2 ↔ (y : Int) ∈ h ∨ (0 < Wt ws y ∧ Wt ws y = (us.count (y : Int) : Int)))
  | [], ws, h, _, _, y, _ => by
    simp only [decF, List.count_nil]
    constructor
    · exact .inl
    · rintro (h | ⟨h1, h2⟩)
      · exact h
      · omega
  | v :: us, ws, h, hus, hc, y, hy => by
    have hv := hus v (by simp)
    obtain ⟨vn, rfl⟩ := Int.eq_ofNat_of_zero_le hv.1
    have hvl : vn < ws.length := by omega
    have hcv := hc vn hvl
    rw [List.count_cons] at hcv
    simp at hcv
    have hw : ∀ u, Wt (dec1 ws h (vn : Int)).1 u = if u = vn then Wt ws u - 1 else Wt ws u := fun u => dec1_ws ws h vn u hvl
    have hcc : ∀ u : Nat, (((vn : Int) :: us).count (u : Int) : Int) = (us.count (u : Int) : Int) + (if u = vn then 1 else 0) := fun u => by
      rw [List.count_cons]
      by_cases e : u = vn
      · subst e; simp
      · have e2 : ((vn : Int) == (u : Int)) = false := by simp <;> omega
        rw [e2, if_neg e]
        simp
    rw [decF, decF_mem us _ _ (fun w hw => by rw [dec1_len]; exact hus w (by simp [hw])) (fun u hu => by
      rw [dec1_len] at hu
      rw [hw u]
      have := hc u hu
      rw [hcc u] at this
      split
      · rename_i e; rw [if_pos e] at this; omega
      · rename_i e; rw [if_neg e] at this; omega) y (by rw [dec1_len]; exact hy), hw y, hcc y]
    have hd2 : (dec1 ws h (vn : Int)).2 = if Wt ws vn - 1 = 0 then pushL h (vn : Int) else h := by
      unfold dec1 Wt
      simp only [Int.toNat_natCast]
    rw [hd2]
    by_cases e : y = vn
    · subst e
      rw [if_pos rfl, if_pos rfl]
      by_cases hz : Wt ws y - 1 = 0
      · rw [if_pos hz, pushL_mem]
        constructor
        · intro _; right; omega
        · intro _; left; right; rfl
      · rw [if_neg hz]
        constructor
        · rintro (h | h)
          · exact .inl h
          · right; omega
        · rintro (h | h)
          · exact .inl h
          · right; omega
    · rw [if_neg e, if_neg e]
      have hm : ((y : Int) ∈ if Wt ws vn - 1 = 0 then pushL h (vn : Int) else h) ↔ (y : Int) ∈ h := by
        split
        · rw [pushL_mem]
          constructor
          · rintro (h | h)
            · exact h
            · omega
          · exact .inl
        · exact Iff.rfl
      rw [hm]
      constructor
      · rintro (h | h)
        · exact .inl h
        · right; omega
      · rintro (h | h)
        · exact .inl h
        · right; omega
/-- What waits, and what has come: each waits for those right above it that haven't come. -/
structure OJ (Es : List En) (ws h o : List Int) : Prop where
  w : ∀ u : Nat, u < Es.length → Wt ws u = (((nxE Es u).filter (fun (a : Nat) => decide ((a : Int) ∉ o))).length : Int)
  m : ∀ u : Nat, u < Es.length → (((u : Int) ∈ h ∨ (u : Int) ∈ o) ↔ Wt ws u = 0)
  q : ∀ (o1 : List Int) (y : Nat) (o2 : List Int), o = o1 ++ (y : Int) :: o2 → ∀ a ∈ nxE Es y, (a : Int) ∈ o1
theorem filter_count (o : List Int) (x : Nat) (hx : (x : Int) ∉ o) : ∀ l : List Nat, (l.filter (fun (a : Nat) => decide ((a : Int) ∉ o))).length = (l.filter (fun (a : Nat) => decide ((a : Int) ∉ o ++ [(x : Int)]))).length + l.count x
  | [] => by simp
  | a :: l => by
    have ih := filter_count o x hx l
    rw [List.count_cons]
    by_cases e : a = x
    · subst e
      rw [List.filter_cons_of_pos (by simpa using hx), List.filter_cons_of_neg (by simp)]
      simp
      simp at ih
      omega
    · have e2 : (a == x) = false := by simpa using e
      rw [e2]
      by_cases ha : (a : Int) ∈ o
      · rw [List.filter_cons_of_neg (by simpa using ha), List.filter_cons_of_neg (by simp [ha])]
        simpa using ih
      · have hne : ¬ ((a : Int) = (x : Int)) := by omega
        rw [List.filter_cons_of_pos (by simpa using ha), List.filter_cons_of_pos (by simp [ha, hne])]
        simp at ih ⊢
        omega
theorem popL_mem {h : List Int} {x : Int} (hx : h[0]? = some x) (y : Int) : y ∈ h ↔ y ∈ popL h ∨ y = x := by
  rw [← (popL_perm hx).mem_iff]
  simp
theorem OJ.step {Es : List En} (hok : EsOk Es) {D : Nat} {ws h o : List Int} (I : OI Es.length D ws h o) (J : OJ Es ws h o) {x : Nat} (hx : h[0]? = some (x : Int)) :
    OJ Es (decF ((belowL Es)[x]?.getD []) ws (popL h)).1 (decF ((belowL Es)[x]?.getD []) ws (popL h)).2 (o ++ [(x : Int)]) := by
  have hxh : (x : Int) ∈ h := List.mem_of_getElem? hx
  have hxl : x < Es.length := by have := (I.lo _ (List.mem_append_left _ hxh)).2.1; omega
  have hxo : (x : Int) ∉ o := fun ho => by
    have := I.nd
    rw [List.nodup_append] at this
    exact this.2.2 _ hxh _ ho rfl
  obtain ⟨us, hus⟩ : ∃ us, (belowL Es)[x]?.getD [] = us := ⟨_, rfl⟩
  have hr : ∀ v ∈ us, 0 ≤ v ∧ v < (ws.length : Int) := fun v hv => by
    rw [I.len]
    rw [← hus] at hv
    cases hb : (belowL Es)[x]? with
    | none => rw [hb] at hv; simp at hv
    | some l =>
      rw [hb] at hv
      exact (below_facts hok).2 l (List.mem_of_getElem? hb) v hv
  have hcnt : ∀ u : Nat, u < Es.length → us.count (u : Int) = (nxE Es u).count x := fun u hu => by rw [← hus]; exact count_bel Es hxl hu
  have hfc : ∀ u : Nat, u < Es.length → Wt ws u = (((nxE Es u).filter (fun (a : Nat) => decide ((a : Int) ∉ o ++ [(x : Int)]))).length : Int) + (us.count (u : Int) : Int) := fun u hu => by
    rw [J.w u hu, hcnt u hu, filter_count o x hxo]
    omega
  rw [hus]
  refine ⟨fun u hu => ?_, fun u hu => ?_, fun o1 y o2 ho => ?_⟩
  · rw [decF_ws us ws _ u hr, hfc u hu]
    omega
  · rw [decF_ws us ws _ u hr, decF_mem us ws _ hr (fun v hv => by rw [I.len] at hv; have := hfc v hv; omega) u (by rw [I.len]; exact hu)]
    have h1 := J.m u hu
    have h2 := popL_mem hx (u : Int)
    have h3 := hfc u hu
    rw [List.mem_append, List.mem_singleton]
    constructor
    · rintro ((h | h) | h | h)
      · have := h1.1 (.inl (h2.2 (.inl h))); omega
      · omega
      · have := h1.1 (.inr h); omega
      · have := h1.1 (.inl (h2.2 (.inr h))); omega
    · intro hz
      by_cases h0 : Wt ws u = 0
      · rcases h1.2 h0 with h | h
        · rcases h2.1 h with h | h
          · exact .inl (.inl h)
          · exact .inr (.inr h)
        · exact .inr (.inl h)
      · exact .inl (.inr (by omega))
  · rcases snoc_split ho with ⟨rfl, hy, rfl⟩ | ⟨o2', rfl, ho'⟩
    · have : y = x := by omega
      subst this
      have hw := J.w y hxl
      rw [(J.m y hxl).1 (.inl hxh)] at hw
      intro a ha
      have he : ((nxE Es y).filter (fun (a : Nat) => decide ((a : Int) ∉ o1))) = [] := List.eq_nil_of_length_eq_zero (by omega)
      rw [List.filter_eq_nil_iff] at he
      have := he a ha
      simpa using this
    · exact J.q o1 y o2' ho'
theorem ordI_ws (Es : List En) : ∀ k, k ≤ Es.length → ∀ u, u < k → Wt (ordI Es k).1 u = ((nxE Es u).length : Int)
  | 0, _, u, hu => by omega
  | k + 1, hk, u, hu => by
    have hl := (ordI_len Es k).1
    unfold ordI Wt
    simp only
    by_cases e : u = k
    · subst e
      rw [List.getElem?_set_self (by omega)]
      rfl
    · rw [List.getElem?_set_ne (by omega)]
      exact ordI_ws Es k (by omega) u (by omega)
theorem ordI_mem (Es : List En) : ∀ k, ∀ y : Nat, (y : Int) ∈ (ordI Es k).2 ↔ y < k ∧ (nxE Es y).length = 0
  | 0, y => by simp [ordI]
  | k + 1, y => by
    unfold ordI
    simp only
    have ih := ordI_mem Es k y
    split
    · rename_i hz
      rw [pushL_mem, ih]
      constructor
      · rintro (h | h)
        · exact ⟨by omega, h.2⟩
        · have : y = k := by omega
          subst this
          exact ⟨by omega, hz⟩
      · rintro ⟨h1, h2⟩
        by_cases e : y = k
        · exact .inr (by omega)
        · exact .inl ⟨by omega, h2⟩
    · rename_i hz
      rw [ih]
      constructor
      · rintro ⟨h1, h2⟩
        exact ⟨by omega, h2⟩
      · rintro ⟨h1, h2⟩
        refine ⟨?_, h2⟩
        by_cases e : y = k
        · subst e; exact absurd h2 hz
        · omega
theorem ordI_OJ (Es : List En) : OJ Es (ordI Es Es.length).1 (ordI Es Es.length).2 [] := by
  refine ⟨fun u hu => ?_, fun u hu => ?_, fun o1 y o2 ho => by simp at ho⟩
  · rw [ordI_ws Es _ (Nat.le_refl _) u hu, List.filter_eq_self.2 (fun a _ => by simp)]
  · rw [ordI_mem, ordI_ws Es _ (Nat.le_refl _) u hu]
    simp
    omega
theorem main_is {Es : List En} (hok : EsOk Es) : ∀ (f D : Nat) (ws h o : List Int), OI Es.length D ws h o → OJ Es ws h o → Es.length + 1 ≤ o.length + f → ∃ D' ws', OI Es.length D' ws' [] (mainF Es f ws h o) ∧ OJ Es ws' [] (mainF Es f ws h o)
  | 0, D, ws, h, o, I, J, hf => by have := I.le; omega
  | f + 1, D, ws, h, o, I, J, hf => by
    rw [mainF]
    cases hx : h[0]? with
    | none =>
      have e : h = [] := List.eq_nil_of_length_eq_zero (by have := List.getElem?_eq_none_iff.1 hx; omega)
      subst e
      exact ⟨D, ws, I, J⟩
    | some x =>
      have hxr := I.lo x (List.mem_append_left _ (List.mem_of_getElem? hx))
      obtain ⟨xn, rfl⟩ := Int.eq_ofNat_of_zero_le hxr.1
      have hJ := J.step hok I hx
      have hI := decF_OI ((belowL Es)[xn]?.getD []) (I.pop hx) (fun v hv => by
        cases hb : (belowL Es)[xn]? with
        | none => rw [hb] at hv; simp at hv
        | some l =>
          rw [hb] at hv
          exact (below_facts hok).2 l (List.mem_of_getElem? hb) v hv)
      exact main_is hok f _ _ _ _ hI hJ (by simp; omega)
/-- How many are above one: it goes down along a way up. -/
def rankU (Es : List En) (u : Nat) : Nat := ((List.range Es.length).filter (fun (j : Nat) => hasB (abvL Es [(u : Int)]) (j : Int))).length
theorem abv_up {Es : List En} (hn : Es.length ≤ 1000000) (u j : Nat) : hasB (abvL Es [(u : Int)]) (j : Int) = true ↔ Up Es u j := by
  rw [hasB_iff, abv_mem hn]
  constructor
  · rintro ⟨a, b, h1, h2, h3⟩
    have e1 : a = u := by simp at h1; omega
    have e2 : b = j := by omega
    subst e1 e2
    exact h3
  · intro h
    exact ⟨u, j, by simp, rfl, h⟩
theorem filter_less {α : Type} {p q : α → Bool} : ∀ (l : List α), (∀ x ∈ l, p x = true → q x = true) → (∃ x ∈ l, q x = true ∧ p x = false) → (l.filter p).length < (l.filter q).length
  | [], _, h => by obtain ⟨x, hx, _⟩ := h; simp at hx
  | a :: l, h1, h2 => by
    have hle : ∀ (l : List α), (∀ x ∈ l, p x = true → q x = true) → (l.filter p).length ≤ (l.filter q).length := fun l => by
      induction l with
      | nil => intro _; simp
      | cons b l ih =>
        intro h
        have := ih (fun x hx => h x (by simp [hx]))
        cases hp : p b with
        | true =>
          rw [List.filter_cons_of_pos hp, List.filter_cons_of_pos (h b (by simp) hp)]
          simp; omega
        | false =>
          rw [List.filter_cons_of_neg (by simp [hp])]
          cases hq : q b with
          | true => rw [List.filter_cons_of_pos hq]; simp; omega
          | false => rw [List.filter_cons_of_neg (by simp [hq])]; exact this
    obtain ⟨x, hx, hq, hp⟩ := h2
    rcases List.mem_cons.1 hx with rfl | hx
    · rw [List.filter_cons_of_neg (by simp [hp]), List.filter_cons_of_pos hq]
      have := hle l (fun y hy => h1 y (by simp [hy]))
      simp; omega
    · have ih := filter_less l (fun y hy => h1 y (by simp [hy])) ⟨x, hx, hq, hp⟩
      cases hpa : p a with
      | true =>
        rw [List.filter_cons_of_pos hpa, List.filter_cons_of_pos (h1 a (by simp) hpa)]
        simp; omega
      | false =>
        rw [List.filter_cons_of_neg (by simp [hpa])]
        cases hqa : q a with
        | true => rw [List.filter_cons_of_pos hqa]; simp; omega
        | false => rw [List.filter_cons_of_neg (by simp [hqa])]; exact ih
theorem rank_less {Es : List En} (hok : EsOk Es) (hac : ∀ i, ¬ Cyc Es i) {u a : Nat} (hu : u < Es.length) (ha : a ∈ nxE Es u) : rankU Es a < rankU Es u := by
  have hn : Es.length ≤ 1000000 := by have := hok.n; omega
  refine filter_less _ (fun j _ hj => ?_) ⟨u, by simpa using hu, ?_, ?_⟩
  · exact (abv_up hn u j).2 (Ua.head hu (by simp) ha ((abv_up hn a j).1 hj))
  · exact (abv_up hn u u).2 (Ua.refl hu (by simp))
  · cases hc : hasB (abvL Es [(a : Int)]) (u : Int) with
    | false => rfl
    | true => exact absurd ⟨hu, a, ha, (abv_up hn a u).1 hc⟩ (hac u)
theorem le_of_all : ∀ (n : Nat) (l : List Int), (∀ u : Nat, u < n → (u : Int) ∈ l) → n ≤ l.length
  | 0, l, _ => Nat.zero_le _
  | n + 1, l, h => by
    have hm := h n (by omega)
    have := le_of_all n (l.erase (n : Int)) (fun u hu => (List.mem_erase_of_ne (by omega)).2 (h u (by omega)))
    rw [List.length_erase_of_mem hm] at this
    have hpos : 0 < l.length := List.length_pos_of_mem hm
    omega
/-- What Order answers: each once, behind all above it; all of them, if none is above itself. -/
theorem ord_says {Es : List En} (hok : EsOk Es) : (ordL Es).Nodup ∧ (∀ y ∈ ordL Es, 0 ≤ y ∧ y < (Es.length : Int)) ∧ (∀ (o1 : List Int) (y : Nat) (o2 : List Int), ordL Es = o1 ++ (y : Int) :: o2 → ∀ z : Nat, Up Es y z → z = y ∨ (z : Int) ∈ o1) ∧
    ((∀ i, ¬ Cyc Es i) → (∀ u : Nat, u < Es.length → (u : Int) ∈ ordL Es) ∧ (ordL Es).length = Es.length) := by
  obtain ⟨D', ws', I, J⟩ := main_is hok (Es.length + 1) 0 _ _ [] (ordI_OI hok) (ordI_OJ Es) (by simp)
  have e : mainF Es (Es.length + 1) (ordI Es Es.length).1 (ordI Es Es.length).2 [] = ordL Es := rfl
  rw [e] at I J
  have hnd : (ordL Es).Nodup := by simpa using I.nd
  have hlo : ∀ y ∈ ordL Es, 0 ≤ y ∧ y < (Es.length : Int) := fun y hy => by have := I.lo y (by simpa using hy); exact ⟨this.1, this.2.1⟩
  refine ⟨hnd, hlo, fun o1 y o2 ho z hz => ?_, fun hac => ?_⟩
  · unfold Up at hz
    induction hz with
    | refl _ _ => exact .inl rfl
    | @step z' a hp ha hn ht ih =>
      right
      rcases ih with rfl | ih
      · exact J.q o1 z' o2 ho a ha
      · obtain ⟨p1, p2, hp⟩ := List.append_of_mem ih
        have := J.q p1 z' (p2 ++ (y : Int) :: o2) (by rw [ho, hp]; simp) a ha
        rw [hp]
        simp [this]
  · have hall : ∀ (r u : Nat), rankU Es u < r → u < Es.length → (u : Int) ∈ ordL Es := fun r => by
      induction r with
      | zero => intro u h; omega
      | succ r ih =>
        intro u hr hu
        have hn : ∀ a ∈ nxE Es u, (a : Int) ∈ ordL Es := fun a ha => ih a (by have := rank_less hok hac hu ha; omega) (hok.lt u a ha)
        have hw := J.w u hu
        have hf : ((nxE Es u).filter (fun (a : Nat) => decide ((a : Int) ∉ ordL Es))) = [] := by
          rw [List.filter_eq_nil_iff]
          intro a ha
          simpa using hn a ha
        rw [hf] at hw
        rcases (J.m u hu).2 (by rw [hw]; rfl) with h | h
        · simp at h
        · exact h
    have h1 : ∀ u : Nat, u < Es.length → (u : Int) ∈ ordL Es := fun u hu => hall _ u (Nat.lt_succ_self _) hu
    refine ⟨h1, ?_⟩
    have h2 := le_of_all Es.length (ordL Es) h1
    have h3 := nodup_le Es.length (ordL Es) hnd hlo
    omega
end Go.Proofs.YtbocejiclellfaaGreatDoor

/- New. -/
set_option linter.unusedSimpArgs false
set_option linter.unusedVariables false
set_option maxRecDepth 100000
namespace Go.Proofs.YtbocejiclellfaaGreatDoor
open Go.RowKit

theorem ft_set {w : World} {g : Nat} {e0 p0 q0 : Int} (e p q : Int) (h : w.heap[g]? = some (.cells (ftC e0 p0 q0) 58 (0, 0))) :
    (((w.setCell ⟨g, 0, none⟩ (.int .i64 e)).setCell ⟨g, 1, none⟩ (.int .i64 p)).setCell ⟨g, 2, none⟩ (.int .i64 q)).heap[g]? = some (.cells (ftC e p q) 58 (0, 0)) ∧
      Turn [g] w (((w.setCell ⟨g, 0, none⟩ (.int .i64 e)).setCell ⟨g, 1, none⟩ (.int .i64 p)).setCell ⟨g, 2, none⟩ (.int .i64 q)) := by
  have h1 := Go.heap_setCell_same w g 0 _ _ (.int .i64 e) h
  have h2 := Go.heap_setCell_same _ g 1 _ _ (.int .i64 p) h1
  have h3 := Go.heap_setCell_same _ g 2 _ _ (.int .i64 q) h2
  exact ⟨h3, (((Turn.refl [g] w).setCell (.inl (by simp)) _).setCell (.inl (by simp)) _).setCell (.inl (by simp)) _⟩
set_option maxHeartbeats 12800000 in
theorem new_any (A : Option Addr) (c B : Nat) (l : List K8) (m0 m1 m2 m3 m4 m5 m6 m7 m8 : Value) (w : World) (hr : RdKs B w A l) (hB : B ≤ w.heap.size) (hk : KOk l) :
    Calls Tryz.prog 24 #[.agg #[.slice A l.length c, m0, m1, m2, m3, m4, m5, m6, m7, m8]] w fun e w' => NwR l w.heap.size e w' ∧ Turn [] w w' := by
  obtain ⟨n, hn⟩ : ∃ n, l.length = n := ⟨_, rfl⟩
  obtain ⟨r, hrr⟩ : ∃ r, w.heap.size = r := ⟨_, rfl⟩
  obtain ⟨W0, hW0⟩ : ∃ W, (w.alloc (.cells #[.slice A n c, m0, m1, m2, m3, m4, m5, m6, m7, m8] 30)).alloc (.cells #[.int .i64 0, .int .i64 0, .int .i64 0] 58) = W := ⟨_, rfl⟩
  have t0 : Turn [] w W0 := by rw [← hW0]; exact ((Turn.refl [] w).alloc _).alloc _
  have s0 : W0.heap.size = r + 2 := by rw [← hW0, ← hrr]; simp
  have b0 : W0.heap[r]? = some (.cells #[.slice A n c, m0, m1, m2, m3, m4, m5, m6, m7, m8] 30 (0, 0)) := by rw [← hW0, ← hrr]; exact ((Turn.refl [] _).alloc _).heap (heap_alloc_new w _) (by simp)
  have b1 : W0.heap[r + 1]? = some (.cells (ftC 0 0 0) 58 (0, 0)) := by
    rw [← hW0, ← hrr]
    have := heap_alloc_new (w.alloc (.cells #[.slice A n c, m0, m1, m2, m3, m4, m5, m6, m7, m8] 30)) (.cells #[.int .i64 0, .int .i64 0, .int .i64 0] 58)
    rwa [World.size_alloc] at this
  have hr0 := hr.turn t0 (by simp)
  have HF := Lib.hid (firsts_any A c B l W0 hr0 (by omega) hk.len (fun k h => (hk.nm k h).1))
  have hpc : ∀ W F, Turn F W0 W → r ∉ F → W.cell? ⟨r, 0, none⟩ = some (.slice A n c) := fun W F t hF => cell_of_row W r 0 _ _ _ (t.heap b0 hF)
  have x0 := hpc W0 [] (Turn.refl _ _) (by simp)
  have HT0 := Lib.hid t0
  have HS0 := Lib.hid s0
  have HB1 := Lib.hid b1
  have HP := Lib.hid hpc
  have HR := Lib.hid hr0
  have HN := Lib.hid hn
  have HRR := Lib.hid hrr
  have HK := Lib.hid hk
  have HW0 := Lib.hid hW0
  have HBR : Hid (B ≤ r) := Lib.hid (by omega)
  rw [hn] at HF ⊢
  clear hr hB hk t0 s0 b0 b1 hr0 hpc hn hrr hW0
  go_enter Tryz.func24, Tryz.ntmps24
  go_wp2_with fail
  rw [HRR.out, HW0.out]
  refine HF.out.mono ?_
  rintro e w2 ⟨m, sz, rfl, hm, hMap, hsz, t2⟩
  obtain ⟨t, ht⟩ : ∃ t, w2.heap.size = t := ⟨_, rfl⟩
  obtain ⟨W3, hW3⟩ : ∃ W, w2.alloc (.cells #[.map (some m), .slice none 0 0] 82) = W := ⟨_, rfl⟩
  have t3 : Turn [] w2 W3 := by rw [← hW3]; exact (Turn.refl [] w2).alloc _
  have b3 : W3.heap[t]? = some (.cells #[.map (some m), .slice none 0 0] 82 (0, 0)) := by rw [← hW3, ← ht]; exact heap_alloc_new w2 _
  have hml := hMap.lt
  have hrt : r + 2 ≤ t := by have := t2.size; have := HS0.out; omega
  have hM3 := hMap.turn t3 (by simp)
  rw [← HN.out] at hM3
  have hR3 := HR.out.turn (t2.trans' t3) (by simp)
  have HFi := Lib.hid (fill_any A c B l t m sz W3 b3 hM3 (by omega) hR3 (by have := HBR.out; omega) HK.out.len (fun k h => ⟨(HK.out.nm k h).1, (HK.out.nm k h).2.1, (HK.out.nm k h).2.2.1, by have := (HK.out.nm k h).2.2.2; omega⟩))
  have x3 := HP.out W3 [] (t2.trans' t3) (by simp)
  have hm2 : m < t := by omega
  have HX3 := Lib.hid (And.intro t2 (And.intro t3 (And.intro hM3 hR3)))
  have HTT := Lib.hid ht
  have HW3 := Lib.hid hW3
  rw [HN.out] at HFi
  clear t2 t3 b3 hml hM3 hR3 hMap ht hW3 hm hsz x0
  go_upto_region 2 with fail
  rw [HTT.out, HW3.out]
  go_wp2_with fail
  refine HFi.out.mono ?_
  rintro e w4 ⟨rfl, t4, hE⟩
  have HT4 := Lib.hid t4
  have HE := Lib.hid hE
  have x4 := HP.out w4 [t] ((HX3.out.1.trans' HX3.out.2.1).more (G := [t]) (by simp) |>.trans t4 (fun g hg => .inl hg)) (by simp; omega)
  clear t4 hE HFi HF x3
  cases hf : filK l l 0 with
  | some k =>
    have hfi : filI l = (k : Int) := by unfold filI; rw [hf]
    rw [hfi]
    obtain ⟨x, _, hx, _, _⟩ := filK_some l 0 k hf
    simp only [Nat.sub_zero] at hx
    obtain ⟨b, off, cs, rfl, hb, hbl, hcell, A3, c3, A4, n4, c4, A5, n5, c5, A6, n6, c6, I, rfl, hst⟩ := (HX3.out.2.2.2.turn HT4.out (fun g hg => by have := HBR.out; simp at hg; omega)) k x hx
    have e0 : w4.cell? ⟨b, off + k * 10, none⟩ = some (.string x.nm) := hcell 0 _ rfl
    have q1 := hcell 1 _ rfl
    have q2 := hcell 2 _ rfl
    have q3 := hcell 3 _ rfl
    have q4 := hcell 4 _ rfl
    have q5 := hcell 5 _ rfl
    have q6 := hcell 6 _ rfl
    have q7 := hcell 7 _ rfl
    have q8 := hcell 8 _ rfl
    have q9 := hcell 9 _ rfl
    have hkn : k < n := by have := (List.getElem?_eq_some_iff.1 hx).1; have := HN.out; omega
    have d2 : (k : Int) < (n : Int) := by omega
    have HFa := Lib.hid (fun W => faultAt_any x A3 c3 A4 n4 c4 A5 n5 c5 A6 n6 c6 I W)
    have HX := Lib.hid (And.intro hf hx)
    clear hf hx hfi hcell hst HE
    go_wp2_with fail
    refine (HFa.out _).mono ?_
    rintro e w5 ⟨rfl, t5⟩
    have tt5 : Turn [t] W0 w5 := (((HX3.out.1.trans' HX3.out.2.1).more (G := [t]) (by simp)).trans HT4.out (fun g hg => .inl hg)).trans' t5
    have b5 := tt5.heap HB1.out (by simp; omega)
    have m0' : w5.cell? ⟨r + 1, 0, none⟩ = some (.int .i64 0) := cell_of_row w5 _ 0 _ _ _ b5
    have m1' : w5.cell? ⟨r + 1, 1, none⟩ = some (.int .i64 0) := cell_of_row w5 _ 1 _ _ _ b5
    have m2' : w5.cell? ⟨r + 1, 2, none⟩ = some (.int .i64 0) := cell_of_row w5 _ 2 _ _ _ b5
    have f0' : w5.frozen? ⟨r + 1, 0, none⟩ = false := frozen_of_row w5 _ 0 _ _ b5
    have f1' : w5.frozen? ⟨r + 1, 1, none⟩ = false := frozen_of_row w5 _ 1 _ _ b5
    have f2' : w5.frozen? ⟨r + 1, 2, none⟩ = false := frozen_of_row w5 _ 2 _ _ b5
    have HB5 := Lib.hid b5
    have HT5 := Lib.hid tt5
    clear b5 tt5 t5 HFa
    unfold ftC
    go_wp2_with fail
    have hfs := ft_set 11 x.p x.q HB5.out
    refine bodyPost_ret (ret_new hfs.1 rfl rfl) rfl ⟨NwR.bad k x HX.out.1 HX.out.2 rfl, ?_⟩
    refine ((HT0.out).trans HT5.out (fun g hg => .inr ?_)).trans hfs.2 (fun g hg => .inr ?_)
    · simp at hg; have := HRR.out; omega
    · simp at hg; have := HRR.out; omega
  | none =>
    have hfi : filI l = -1 := by unfold filI; rw [hf]
    rw [hfi]
    obtain ⟨V, hb4, ho4⟩ := HE.out hf
    have hTl : Tl w4 (fun g => W3.heap.size ≤ g) t (.map (some m)) V (esL l) := ⟨hb4, ho4.rdv goodE, by rw [esL_len]; have := HK.out.len; omega⟩
    have HRo := Lib.hid (round_any hTl (esL_ok HK.out.len (fun c hc => (HK.out.nm c hc).2.2.2)))
    have HTl := Lib.hid hTl
    have HF := Lib.hid hf
    clear hf hfi hb4 ho4 hTl HE
    go_wp2_with fail
    refine HRo.out.mono ?_
    rintro e w5 ⟨⟨s, hs, rfl⟩, t5⟩
    have tt5 : Turn [t] W0 w5 := (((HX3.out.1.trans' HX3.out.2.1).more (G := [t]) (by simp)).trans HT4.out (fun g hg => .inl hg)).trans' t5
    have hlt := roundL_lt (Es := esL l) (by rw [esL_len]; have := HK.out.len; omega) s.d.reverse [] (-1) (.inl rfl)
    obtain ⟨a, ha⟩ : ∃ a, roundL (esL l) s.d.reverse [] (-1) = a := ⟨_, rfl⟩
    rw [ha] at hlt ⊢
    rw [esL_len] at hs
    have b5 := tt5.heap HB1.out (by simp; omega)
    have x5 := HP.out w5 [t] tt5 (by simp; omega)
    have HB5 := Lib.hid b5
    have HT5 := Lib.hid tt5
    have HS5 := Lib.hid (And.intro hs (And.intro ha t5))
    clear tt5 t5 hs ha HRo
    rcases hlt with rfl | ⟨hlo, hhi⟩
    · have m0' : w5.cell? ⟨r + 1, 0, none⟩ = some (.int .i64 0) := cell_of_row w5 _ 0 _ _ _ b5
      have m1' : w5.cell? ⟨r + 1, 1, none⟩ = some (.int .i64 0) := cell_of_row w5 _ 1 _ _ _ b5
      have m2' : w5.cell? ⟨r + 1, 2, none⟩ = some (.int .i64 0) := cell_of_row w5 _ 2 _ _ _ b5
      have f0' : w5.frozen? ⟨r + 1, 0, none⟩ = false := frozen_of_row w5 _ 0 _ _ b5
      have f1' : w5.frozen? ⟨r + 1, 1, none⟩ = false := frozen_of_row w5 _ 1 _ _ b5
      have f2' : w5.frozen? ⟨r + 1, 2, none⟩ = false := frozen_of_row w5 _ 2 _ _ b5
      clear b5
      go_wp2_with fail
      have hfs := ft_set 0 0 0 HB5.out
      have hs3 : r + 2 ≤ W3.heap.size := by have := (HX3.out.1.trans' HX3.out.2.1).size; have := HS0.out; omega
      have hTf := (HTl.out.turn' HS5.out.2.2).turn hfs.2 (by simp; omega) (fun g hg hh => by simp at hg; omega)
      refine bodyPost_ret (ret_new hfs.1 rfl rfl) rfl ⟨NwR.ok s t m sz V HF.out HS5.out.1 HS5.out.2.1 rfl (by have := HRR.out; omega) ⟨hTf.blk, hTf.ent.mono goodE (fun g hg _ => by have := HRR.out; omega), hTf.len⟩ ?_, ?_⟩
      · have hmm := HX3.out.2.2.1.turn (HT4.out.trans' HS5.out.2.2) (by simp; omega)
        refine hmm.turn hfs.2 ?_
        simp
        have hb := HB5.out
        intro e
        subst e
        obtain ⟨D, ⟨es, clock, hbm, _⟩, _⟩ := hmm
        rw [hb] at hbm
        cases hbm
      · refine ((HT0.out).trans HT5.out (fun g hg => .inr ?_)).trans hfs.2 (fun g hg => .inr ?_)
        · simp at hg; have := HRR.out; omega
        · simp at hg; have := HRR.out; omega
    · obtain ⟨k, rfl⟩ := Int.eq_ofNat_of_zero_le hlo
      rw [esL_len] at hhi
      obtain ⟨x, hx⟩ := at_lt (show k < l.length by omega)
      obtain ⟨b, off, cs, rfl, hb, hbl, hcell, A3, c3, A4, n4, c4, A5, n5, c5, A6, n6, c6, I, rfl, hst⟩ := ((HX3.out.2.2.2.turn HT4.out (fun g hg => by have := HBR.out; simp at hg; omega)).turn HS5.out.2.2 (by simp)) k x hx
      have e0 : w5.cell? ⟨b, off + k * 10, none⟩ = some (.string x.nm) := hcell 0 _ rfl
      have q1 := hcell 1 _ rfl
      have q2 := hcell 2 _ rfl
      have q3 := hcell 3 _ rfl
      have q4 := hcell 4 _ rfl
      have q5 := hcell 5 _ rfl
      have q6 := hcell 6 _ rfl
      have q7 := hcell 7 _ rfl
      have q8 := hcell 8 _ rfl
      have q9 := hcell 9 _ rfl
      have hkn : k < n := by have := HN.out; omega
      have d2 : (k : Int) < (n : Int) := by omega
      have HFa := Lib.hid (fun W => faultAt_any x A3 c3 A4 n4 c4 A5 n5 c5 A6 n6 c6 I W)
      have HX := Lib.hid hx
      clear hx hcell hst b5 hhi
      go_wp2_with fail
      refine (HFa.out _).mono ?_
      rintro e w6 ⟨rfl, t6⟩
      have tt6 : Turn [t] W0 w6 := HT5.out.trans' t6
      have b6 := tt6.heap HB1.out (by simp; omega)
      have m0' : w6.cell? ⟨r + 1, 0, none⟩ = some (.int .i64 0) := cell_of_row w6 _ 0 _ _ _ b6
      have m1' : w6.cell? ⟨r + 1, 1, none⟩ = some (.int .i64 0) := cell_of_row w6 _ 1 _ _ _ b6
      have m2' : w6.cell? ⟨r + 1, 2, none⟩ = some (.int .i64 0) := cell_of_row w6 _ 2 _ _ _ b6
      have f0' : w6.frozen? ⟨r + 1, 0, none⟩ = false := frozen_of_row w6 _ 0 _ _ b6
      have f1' : w6.frozen? ⟨r + 1, 1, none⟩ = false := frozen_of_row w6 _ 1 _ _ b6
      have f2' : w6.frozen? ⟨r + 1, 2, none⟩ = false := frozen_of_row w6 _ 2 _ _ b6
      have HB6 := Lib.hid b6
      have HT6 := Lib.hid tt6
      clear b6 tt6 t6 HFa
      unfold ftC
      go_wp2_with fail
      have hfs := ft_set 11 x.p x.q HB6.out
      refine bodyPost_ret (ret_new hfs.1 rfl rfl) rfl ⟨NwR.rnd s k x HF.out HS5.out.1 HS5.out.2.1 HX.out rfl, ?_⟩
      refine ((HT0.out).trans HT6.out (fun g hg => .inr ?_)).trans hfs.2 (fun g hg => .inr ?_)
      · simp at hg; have := HRR.out; omega
      · simp at hg; have := HRR.out; omega
end Go.Proofs.YtbocejiclellfaaGreatDoor

/- Order. -/
set_option linter.unusedSimpArgs false
set_option linter.unusedVariables false
set_option maxRecDepth 100000
namespace Go.Proofs.YtbocejiclellfaaGreatDoor
open Go.RowKit
attribute [local go_sem] fldE0 fldE1 fldE2 fldE3
theorem OwnI.base {w : World} {B : Nat} {v : Value} {l : List Int} (h : OwnI w 0 v l) (hb : ∀ g, v.ownBlock = some g → B ≤ g) : OwnI w B v l := by
  obtain ⟨h1, h2⟩ := h
  refine ⟨h1, ?_⟩
  rcases h2 with h2 | ⟨g, cap, cur, e, _, h3⟩
  · exact .inl h2
  · exact .inr ⟨g, cap, cur, e, hb g (by rw [show v = _ from e]; rfl), h3⟩
/-- What waits, and what may come next, in memory. -/
structure Ow (w1 wr : World) (gw rb n : Nat) (V : Value) (ws h : List Int) : Prop where
  tr : Turn [] w1 wr
  wt : OwnI wr 0 (.slice (some ⟨gw, 0, none⟩) n n) ws
  hp : Hp wr rb V h
  g1 : w1.heap.size ≤ gw
  g2 : gw < rb
theorem Ow.keep {w1 wr w' : World} {gw rb n : Nat} {V : Value} {ws h : List Int} (k : Ow w1 wr gw rb n V ws h) (t : Turn [] wr w') : Ow w1 w' gw rb n V ws h := ⟨k.tr.trans' t, k.wt.turn' t, k.hp.turn' t, k.g1, k.g2⟩
theorem Ow.setW {w1 wr : World} {gw rb n : Nat} {V : Value} {ws h : List Int} (k : Ow w1 wr gw rb n V ws h) (hn : n = ws.length) (j : Nat) (y : Int) :
    Ow w1 (wr.setCell ⟨gw, j, none⟩ (.int .i64 y)) gw rb n V (ws.set j y) h ∧ Turn [gw] wr (wr.setCell ⟨gw, j, none⟩ (.int .i64 y)) := by
  have tS : Turn [gw] wr (wr.setCell ⟨gw, j, none⟩ (.int .i64 y)) := (Turn.refl [gw] wr).setCell (.inl (by simp)) _
  have h2 := k.g2
  have h1 := k.g1
  exact ⟨⟨k.tr.trans tS (fun g hg => .inr (by simp at hg; omega)), k.wt.putAt hn, k.hp.turn tS (by simp; omega) (fun g hg hh => by have := k.hp.ap g hg; simp at hh; omega), k.g1, k.g2⟩, tS⟩
theorem Ow.heap {w1 wr w' : World} {gw rb n : Nat} {V V' : Value} {ws h h' : List Int} (k : Ow w1 wr gw rb n V ws h) (a : HpO wr w' rb V V' h') : Ow w1 w' gw rb n V' ws h' := by
  have h2 := k.g2
  have h1 := k.g1
  have hF : ∀ g ∈ rb :: V.ownBlock.toList, rb ≤ g := fun g hg => by
    rcases List.mem_cons.1 hg with rfl | hg
    · exact Nat.le_refl _
    · have := k.hp.ap g (by simpa using hg); omega
  exact ⟨k.tr.trans a.tr (fun g hg => .inr (by have := hF g hg; omega)), k.wt.turn a.tr (fun g hg hh => by
    have e : gw = g := by injection hg
    have := hF g hh
    omega), a.hp, k.g1, k.g2⟩
/-- The order so far, too. -/
structure Om (w1 wr : World) (gw rb n : Nat) (V Vo : Value) (ws h o : List Int) : Prop where
  ow : Ow w1 wr gw rb n V ws h
  od : OwnI wr 0 Vo o
  oa : ∀ g, Vo.ownBlock = some g → rb < g ∧ V.ownBlock ≠ some g
theorem Om.keep {w1 wr w' : World} {gw rb n : Nat} {V Vo : Value} {ws h o : List Int} (k : Om w1 wr gw rb n V Vo ws h o) (t : Turn [] wr w') : Om w1 w' gw rb n V Vo ws h o := ⟨k.ow.keep t, k.od.turn' t, k.oa⟩
theorem Om.setW {w1 wr : World} {gw rb n : Nat} {V Vo : Value} {ws h o : List Int} (k : Om w1 wr gw rb n V Vo ws h o) (hn : n = ws.length) (j : Nat) (y : Int) :
    Om w1 (wr.setCell ⟨gw, j, none⟩ (.int .i64 y)) gw rb n V Vo (ws.set j y) h o := by
  obtain ⟨h1, tS⟩ := k.ow.setW hn j y
  have h2 := k.ow.g2
  exact ⟨h1, k.od.turn tS (fun g hg hh => by have := (k.oa g hg).1; simp at hh; omega), k.oa⟩
theorem Om.heap {w1 wr w' : World} {gw rb n : Nat} {V V' Vo : Value} {ws h h' o : List Int} (k : Om w1 wr gw rb n V Vo ws h o) (a : HpO wr w' rb V V' h') : Om w1 w' gw rb n V' Vo ws h' o := by
  refine ⟨k.ow.heap a, k.od.turn a.tr (fun g hg hh => ?_), fun g hg => ⟨(k.oa g hg).1, fun hv => ?_⟩⟩
  · rcases List.mem_cons.1 hh with rfl | hh
    · have := (k.oa g hg).1; omega
    · exact (k.oa g hg).2 (by simpa using hh)
  · rcases a.mv with m | ⟨g', m1, m2⟩
    · rw [m] at hv; exact (k.oa g hg).2 hv
    · rw [m1] at hv
      injection hv with hv
      have := (k.od.lt g hg).2
      omega
theorem Om.app {w1 wr w' : World} {gw rb n : Nat} {V Vo Vo' : Value} {ws h o o' : List Int} (k : Om w1 wr gw rb n V Vo ws h o) (ho : OwnI w' 0 Vo' o') (t : Turn Vo.ownBlock.toList wr w') (m : Vo'.ownBlock = Vo.ownBlock ∨ ∃ g, Vo'.ownBlock = some g ∧ wr.heap.size ≤ g) : Om w1 w' gw rb n V Vo' ws h o' := by
  have h2 := k.ow.g2
  have h1 := k.ow.g1
  have hF : ∀ g ∈ Vo.ownBlock.toList, rb < g ∧ V.ownBlock ≠ some g := fun g hg => k.oa g (by simpa using hg)
  have hrb : rb < wr.heap.size := (Array.getElem?_eq_some_iff.1 k.ow.hp.blk).1
  refine ⟨⟨k.ow.tr.trans t (fun g hg => .inr (by have := (hF g hg).1; omega)), k.ow.wt.turn t (fun g hg hh => ?_), k.ow.hp.turn t (fun hh => by have := (hF _ hh).1; omega) (fun g hg hh => (hF g hh).2 hg), k.ow.g1, k.ow.g2⟩, ho, fun g hg => ?_⟩
  · have e : gw = g := by injection hg
    have := (hF g hh).1
    omega
  · rcases m with m | ⟨g', m1, m2⟩
    · rw [m] at hg; exact k.oa g hg
    · rw [m1] at hg
      injection hg with hg
      subst hg
      refine ⟨by omega, fun hv => ?_⟩
      have := (k.ow.hp.own.lt g' hv).2
      omega
def lenV : Value → Nat
  | .slice _ n _ => n
  | _ => 0
theorem dle0 {D a : Nat} (h : D ≤ a) : D ≤ a + 0 := h
theorem zbd {D a q m : Nat} {z : Int} (h1 : -(D : Int) ≤ z ∧ z ≤ 1000) (h2 : D ≤ a * 1000000 + q) (h3 : a ≤ 1000) (h4 : q < m) (h5 : m ≤ 1000000) : IntKind.i64.wrap (z - 1) = z - 1 := by rw [IntKind.wrap_i64]; omega
/-- How it stands in the main loop. -/
def Rm (Es : List En) (w1 wr : World) (gw rb n : Nat) (Vo : Value) : Prop :=
  ∃ V ws h o f D, Om w1 wr gw rb n V Vo ws h o ∧ OI n D ws h o ∧ n + 1 ≤ o.length + f ∧ mainF Es f ws h o = ordL Es ∧ D ≤ o.length * 1000000

set_option maxHeartbeats 25600000 in
theorem order_any {A : Nat → Prop} {t : Nat} {M V : Value} {Es : List En} {w : World} (h : Tl w A t M V Es) (hok : EsOk Es) :
    Calls Tryz.prog 32 #[.pointer (some ⟨t, 0, none⟩)] w fun e w' => ∃ U, e = .returned U ∧ OwnI w' w.heap.size U (ordL Es) ∧ Turn [] w w' := by
  obtain ⟨r, hr⟩ : ∃ r, w.heap.size = r := ⟨_, rfl⟩
  obtain ⟨n, hn⟩ : ∃ n, Es.length = n := ⟨_, rfl⟩
  have hn1 : n ≤ 1000 := by rw [← hn]; exact hok.n
  have HE : Hid (∀ W (i : Int), Turn [] w W → Calls Tryz.prog 50 #[.pointer (some ⟨t, 0, none⟩), .int .i64 i] W fun e w' => ∃ U, e = .returned (.agg #[.string (enAt Es i).nm, .bool (enAt Es i).face, .int .i64 (enAt Es i).sup, U]) ∧ RdV 1 RdN (fun g => A g ∧ g < r) w' U (enAt Es i).rt ∧ Turn [] W w') := Lib.hid fun W i k => entry_any8 ((Tl.below h hr).turn' k) i
  have HL : Hid (∀ W, Turn [] w W → Calls Tryz.prog 45 #[.pointer (some ⟨t, 0, none⟩)] W fun e w' => e = .returned (.int .i64 (n : Int)) ∧ W = w') := Lib.hid fun W k => by rw [← hn]; exact len_any8 (h.turn' k)
  have HB := Lib.hid (below_any h hok)
  have HN := Lib.hid hn
  have HRR := Lib.hid hr
  have HOK := Lib.hid hok
  clear h hok hn hr
  go_enter Tryz.func32, Tryz.ntmps32
  go_wp2_with fail
  refine HB.out.mono ?_
  rintro e w1 ⟨U, xs, rfl, hU, t1⟩
  obtain ⟨A0, c0, rfl, hrw⟩ := hU.form
  rw [belowL_len, HN.out]
  obtain ⟨gw, hgw⟩ : ∃ g, w1.heap.size = g := ⟨_, rfl⟩
  obtain ⟨W2, hW2⟩ : ∃ W, w1.alloc (.cells (madeCells #[.int .i64 0] n) 3) = W := ⟨_, rfl⟩
  have t2 : Turn [] w1 W2 := by rw [← hW2]; exact (Turn.refl [] w1).alloc _
  have s2 : W2.heap.size = gw + 1 := by rw [← hW2, ← hgw]; simp
  have hz : OwnI W2 0 (.slice (some ⟨gw, 0, none⟩) n n) (List.replicate n 0) := by
    have := OwnI.zeros w1 0 n (by omega) (by omega)
    rw [Nat.mul_one, hgw, hW2] at this
    exact this
  obtain ⟨W3, hW3⟩ : ∃ W, W2.alloc (.cells #[.slice none 0 0] 98) = W := ⟨_, rfl⟩
  have t3 : Turn [] W2 W3 := by rw [← hW3]; exact (Turn.refl [] W2).alloc _
  have b3 : W3.heap[gw + 1]? = some (.cells #[.slice none 0 0] 98 (0, 0)) := by rw [← hW3, ← s2]; exact heap_alloc_new W2 _
  have hOw : Ow w1 W3 gw (gw + 1) n (.slice none 0 0) (List.replicate n 0) [] := ⟨t2.trans' t3, hz.turn' t3, ⟨b3, OwnI.nil _ _, fun g hg => by cases hg⟩, by omega, by omega⟩
  have HT1 := Lib.hid t1
  have HRW := Lib.hid hrw
  have HGW := Lib.hid hgw
  have HW2 := Lib.hid hW2
  have HW3 := Lib.hid hW3
  have HS2 := Lib.hid s2
  have HOw := Lib.hid hOw
  have HL1 := Lib.hid (HL.out w1 t1)
  have hmk := fun W : World => make_ints n (by omega) W
  simp only [Nat.mul_one] at hmk
  clear hU t1 hrw hgw hW2 hW3 s2 hOw t2 t3 hz b3 HB
  go_wp2_with fail
  refine HL1.out.mono ?_
  rintro e w2 ⟨rfl, rfl⟩
  go_wp2_with fail
  rw [HGW.out, HW2.out, HW3.out]
  go_loopw [20] (fun v20 wr => ∃ k : Nat, k ≤ n ∧ v20 = .int .i64 (k : Int) ∧ Hid (∃ V, Ow w1 wr gw (gw + 1) n V (ordI Es k).1 (ordI Es k).2)) (fun v20 _ => n - (intOf v20).toNat)
  case atStart => exact ⟨0, Nat.zero_le _, rfl, Lib.hid ⟨_, by unfold ordI; rw [HN.out]; exact HOw.out⟩⟩
  case round =>
    obtain ⟨k, hk, rfl, HK⟩ := hrel
    by_cases hlt : k < n
    · have d1 : decide ((k : Int) < (n : Int)) = true := by simp; omega
      have d2 : (k : Int) < (n : Int) := by omega
      obtain ⟨V0, hO⟩ := HK.out
      have HCe := Lib.hid (HE.out wr (k : Int) (HT1.out.trans' hO.tr))
      obtain ⟨y, hy⟩ : ∃ y, enAt Es (k : Int) = y := ⟨_, rfl⟩
      have hrt : nxE Es k = y.rt := by unfold nxE; rw [hy]
      rw [hy] at HCe
      obtain ⟨nm, face, sup, rt⟩ := y
      simp only at HCe hrt
      have HO := Lib.hid hO
      have HRT := Lib.hid hrt
      clear hO hrt HK hy
      go_wp2_with fail
      refine HCe.out.mono ?_
      rintro e w4 ⟨U4, rfl, hU4, t4⟩
      obtain ⟨P4, c4, rfl, hc4, _⟩ := hU4
      obtain ⟨L, hL⟩ : ∃ L, rt.length = L := ⟨_, rfl⟩
      have hO4 := HO.out.keep t4
      have hwl := (ordI_len Es k).1
      rw [HN.out] at hwl
      obtain ⟨g', c', e', _, hg', _, hcell, hfr⟩ := hO4.wt.slot (by omega)
      have eg : gw = g' := by injection e' with e1 _ _; injection e1 with e1; injection e1
      subst eg
      obtain ⟨z, hz⟩ := at_lt (show k < (ordI Es k).1.length by omega)
      have k4 := hcell k z hz
      have kf4 := hfr k
      obtain ⟨hO5, t5⟩ := hO4.setW hwl.symm k (L : Int)
      have hsuc : ordI Es (k + 1) = ((ordI Es k).1.set k (L : Int), if L = 0 then pushL (ordI Es k).2 (k : Int) else (ordI Es k).2) := by
        rw [ordI, HRT.out, hL]
      have HX := Lib.hid (And.intro hO5 (And.intro t5 hsuc))
      rw [hL] at hc4 ⊢
      clear hO4 hwl hcell hfr hz hO5 t5 hsuc hL t4 HCe e' hg'
      by_cases hz0 : L = 0
      · have e1 : decide ((L : Int) = 0) = true := by simp; omega
        have e3 : ((L : Int) == 0) = true := by simp; omega
        have HZ := Lib.hid hz0
        have HP := Lib.hid (hpush_any HX.out.1.hp (k : Int) (by have := (ordI_len Es k).2; omega))
        clear hz0
        go_wp2_with fail
        refine HP.out.mono ?_
        rintro e w6 ⟨rfl, V6, hO6⟩
        have HN1 : Hid (∃ V, Ow w1 w6 gw (gw + 1) n V (ordI Es (k + 1)).1 (ordI Es (k + 1)).2) := by
          rw [HX.out.2.2, if_pos HZ.out]
          exact Lib.hid ⟨V6, HX.out.1.heap hO6⟩
        clear hO6 HP HX
        go_wp2_with fail
        go_roundw
        case rel => exact ⟨k + 1, by omega, by go_num, HN1⟩
        case measure => simp [intOf]; omega
      · have e1 : decide ((L : Int) = 0) = false := by simp; omega
        have e2 : ¬ ((L : Int) = 0) := by omega
        have e3 : ((L : Int) == 0) = false := by simp; omega
        have HZ := Lib.hid hz0
        clear hz0
        go_wp2_with fail
        have HN1 : Hid (∃ V, Ow w1 (w4.setCell ⟨gw, k, none⟩ (.int .i64 (L : Int))) gw (gw + 1) n V (ordI Es (k + 1)).1 (ordI Es (k + 1)).2) := by
          rw [HX.out.2.2, if_neg HZ.out]
          exact Lib.hid ⟨_, HX.out.1⟩
        clear HX
        go_roundw
        case rel => exact ⟨k + 1, by omega, by go_num, HN1⟩
        case measure => simp [intOf]; omega
    · obtain rfl : k = n := by omega
      have d1 : decide ((k : Int) < (k : Int)) = false := by simp
      obtain ⟨V0, hO⟩ := HK.out
      have HL2 := Lib.hid (HL.out wr (HT1.out.trans' hO.tr))
      have hmk2 : ∀ W : World, (Instr.makeSlice 63 (.int .i64 0) (.int .i64 (k : Int))).run Tryz.prog W = .ok (.slice (some ⟨W.heap.size, 0, none⟩) 0 k) (W.alloc (.cells (madeCells #[.int .i64 0] k) 3)) := fun W => by
        obtain ⟨i0, hi0, hz0, hz1, hz2⟩ := info_parts int_info
        have := run_make (P := Tryz.prog) W 63 3 i0 _ Tryz.underlying63 hi0 hz0 .i64 .i64 0 (k : Int) (by omega) (by omega) (by rw [hz2]; omega) (by omega)
        rw [hz1] at this
        simp at this
        exact this
      have HO := Lib.hid hO
      clear hO HK hmk
      go_wp2_with fail
      refine HL2.out.mono ?_
      rintro e w2 ⟨rfl, rfl⟩
      go_wp2_with fail
      have HS0 : Hid (Rm Es w1 (wr.alloc (.cells (madeCells #[.int .i64 0] k) 3)) gw (gw + 1) k (.slice (some ⟨wr.heap.size, 0, none⟩) 0 k)) := by
        have hO := HO.out
        have tA : Turn [] wr (wr.alloc (.cells (madeCells #[.int .i64 0] k) 3)) := (Turn.refl [] wr).alloc _
        have hrb := (Array.getElem?_eq_some_iff.1 hO.hp.blk).1
        have hOI := ordI_OI HOK.out
        rw [HN.out] at hOI
        refine Lib.hid ⟨V0, _, _, [], k + 1, 0, ⟨hO.keep tA, ?_, fun g hg => ?_⟩, hOI, by simp, by unfold ordL; rw [HN.out], by simp⟩
        · exact World.ownsRow_made wr _ k (Nat.zero_le _) (by simp only [maxLen]; omega) (by simp [size_madeCells])
        · have e : wr.heap.size = g := by injection hg
          refine ⟨by omega, fun hv => ?_⟩
          have := (hO.hp.own.lt g hv).2
          omega
      clear HO hmk2 HL2
      obtain ⟨W9, hW9⟩ : ∃ W, wr.alloc (.cells (madeCells #[.int .i64 0] k) 3) = W := ⟨_, rfl⟩
      rw [hW9] at HS0 ⊢
      clear hW9
      go_loopw [7] (fun v7 wr => Hid (Rm Es w1 wr gw (gw + 1) k v7)) (fun v7 _ => k - lenV v7)
      case atStart => exact HS0
      case round =>
        have HK := hrel
        clear hrel HS0
        obtain ⟨Wr, hWr⟩ : ∃ q, q = wr := ⟨_, rfl⟩
        obtain ⟨V, ws, h, o, f, D, hO, hI, hf, hm, hD⟩ := HK.out
        obtain ⟨AV, cV, hV, hcV⟩ := hO.ow.hp.form
        obtain ⟨N, hNN⟩ : ∃ N, h.length = N := ⟨_, rfl⟩
        have hle := hI.le
        obtain ⟨Ao, co, hVo, _, _⟩ := hO.od.form
        obtain ⟨no, hno⟩ : ∃ no, o.length = no := ⟨_, rfl⟩
        rw [hNN] at hV hcV hle
        rw [hno] at hVo
        subst hV
        have cr : wr.cell? ⟨gw + 1, 0, none⟩ = some (.slice AV N cV) := cell_of_row wr (gw + 1) 0 _ _ _ hO.ow.hp.blk
        have HSl := Lib.hid (fun W => slen_any AV N cV W (by omega))
        by_cases hz : N = 0
        · subst hz
          have hh : h = [] := List.eq_nil_of_length_eq_zero (by omega)
          have hoo : o = ordL Es := by
            rw [← hm, hh]
            cases f <;> rfl
          have HX := Lib.hid (And.intro hO (And.intro hoo hVo))
          subst hVo
          clear hO hI hf hm hD hNN hle hh hoo HK hcV
          go_wp2_with fail
          refine (HSl.out _).mono ?_
          rintro e w2 ⟨rfl, rfl⟩
          go_wp2_with fail
          go_ret
          refine ⟨_, rfl, ?_, HT1.out.trans' HX.out.1.ow.tr⟩
          have hod := HX.out.1.od
          rw [HX.out.2.1] at hod
          have hs1 := HT1.out.size
          have hg1 := HX.out.1.ow.g1
          exact hod.base (fun g hg => by have := (HX.out.1.oa g hg).1; have := HRR.out; omega)
        · have e1 : decide ((0 : Int) < (N : Int)) = true := by simp; omega
          have e2 : (0 : Int) < (N : Int) := by omega
          obtain ⟨x, hx⟩ := at_lt (show 0 < h.length by omega)
          have hxm : x ∈ h ++ o := List.mem_append_left _ (List.mem_of_getElem? hx)
          obtain ⟨x0, x1, _⟩ := hI.lo x hxm
          obtain ⟨xn, rfl⟩ := Int.eq_ofNat_of_zero_le x0
          have hIp := hI.pop hx
          have hlep := hIp.le
          have HP := Lib.hid (hpop_any hO.ow.hp hx (by omega))
          obtain ⟨f', hf'⟩ : ∃ f', f = f' + 1 := ⟨f - 1, by omega⟩
          have hstep : mainF Es f' (decF ((belowL Es)[xn]?.getD []) ws (popL h)).1 (decF ((belowL Es)[xn]?.getD []) ws (popL h)).2 (o ++ [(xn : Int)]) = ordL Es := by
            rw [← hm, hf', mainF, hx]
            rfl
          have hta := fun W => ta_int (xn : Int) W
          have hxk : xn < k := by omega
          have hxk2 : (xn : Int) < (k : Int) := by omega
          obtain ⟨lb, hlb⟩ := at_lt (show xn < (belowL Es).length by rw [belowL_len, HN.out]; exact hxk)
          have hol : o.length ≤ 10000000 := by omega
          have HX := Lib.hid (And.intro hO (And.intro hIp (And.intro hstep (And.intro hVo (And.intro hlb (And.intro hf (And.intro hf' (And.intro hD (And.intro hlep (And.intro hWr hno))))))))))
          obtain ⟨b0, off0, A1, c1, rfl, hb0, hcb, hIn⟩ := HRW.out xn lb hlb
          obtain ⟨m, hml⟩ : ∃ m, lb.length = m := ⟨_, rfl⟩
          rw [hml] at hcb
          have HIn := Lib.hid (And.intro hcb (And.intro hIn (And.intro hml hb0)))
          clear hO hI hf hm hD hNN hle HK hcV hz hxm x0 x1 hx hIp hlep hf' hstep hlb hVo hcb hIn hml hb0 hno
          go_wp2_with fail
          refine (HSl.out _).mono ?_
          rintro e w2 ⟨rfl, rfl⟩
          go_wp2_with fail
          refine HP.out.mono ?_
          rintro e w3 ⟨rfl, V3, hO3⟩
          have hM3 := HX.out.1.heap hO3
          have HM3 := Lib.hid hM3
          clear hM3 hO3 HP
          go_wp2_with (at_builtin
                       refine wpList_app1' rfl (.tmp 55) (.tmp 57) rfl w3 0 u7 o (xn : Int) 1 rfl HM3.out.od (by simp [Act.eval]) hol (Nat.zero_le _) ?_
                       intro v6 w6 ho6 ht6 hm6
                       have HM6 := Lib.hid (HM3.out.app ho6 ht6 hm6)
                       have cb6 := (HM6.out.ow.tr.cell (p := ⟨b0, off0 + xn, none⟩) HIn.out.2.2.2 (by simp)).trans HIn.out.1
                       clear ho6 ht6 hm6)
          have hH6 : Hid (∃ V ws' h' D', Om w1 w6 gw (gw + 1) k V v6 ws' h' (o ++ [(xn : Int)]) ∧ OI k D' ws' h' (o ++ [(xn : Int)]) ∧ D' ≤ o.length * 1000000 + 0 ∧ decF (lb.drop 0) ws' h' = decF lb ws (popL h)) :=
            Lib.hid ⟨_, _, _, D, HM6.out, HX.out.2.1, dle0 HX.out.2.2.2.2.2.2.2.1, by rw [List.drop_zero]⟩
          clear HM6 HM3
          go_wp2_with fail
          go_loopw [64] (fun v64 wr => ∃ q : Nat, q ≤ m ∧ v64 = .int .i64 (q : Int) ∧ Hid (∃ V ws' h' D', Om w1 wr gw (gw + 1) k V v6 ws' h' (o ++ [(xn : Int)]) ∧ OI k D' ws' h' (o ++ [(xn : Int)]) ∧ D' ≤ o.length * 1000000 + q ∧ decF (lb.drop q) ws' h' = decF lb ws (popL h))) (fun v64 _ => m - (intOf v64).toNat)
          case atStart => exact ⟨0, Nat.zero_le _, rfl, hH6⟩
          case round =>
            obtain ⟨q, hq, rfl, HQ⟩ := hrel
            obtain ⟨V7, ws7, h7, D7, hO7, hI7, hD7, hdf⟩ := HQ.out
            have hmb : m ≤ 1000000 := by have := (below_facts HOK.out).1 lb (List.mem_of_getElem? HX.out.2.2.2.2.1); have := HIn.out.2.2.1; omega
            by_cases hqm : q < m
            · have d1' : decide ((q : Int) < (m : Int)) = true := by simp; omega
              have d2' : (q : Int) < (m : Int) := by omega
              obtain ⟨u, hu⟩ := at_lt (show q < lb.length by have := HIn.out.2.2.1; omega)
              obtain ⟨u0, u1⟩ := (below_facts HOK.out).2 lb (List.mem_of_getElem? HX.out.2.2.2.2.1) u (List.mem_of_getElem? hu)
              rw [HN.out] at u1
              obtain ⟨un, rfl⟩ := Int.eq_ofNat_of_zero_le u0
              obtain ⟨bi, offi, rfl, hbi, hci⟩ := HIn.out.2.1 q _ hu
              have cu : wr.cell? ⟨bi, offi + q, none⟩ = some (.int .i64 (un : Int)) := (hO7.ow.tr.cell (p := ⟨bi, offi + q, none⟩) hbi (by simp)).trans hci
              have hunk : un < k := by omega
              have hunk2 : (un : Int) < (k : Int) := by omega
              obtain ⟨g', c', e', _, hg', _, hcell, hfr⟩ := hO7.ow.wt.slot (by rw [hI7.len]; omega)
              have eg : gw = g' := by injection e' with e1 _ _; injection e1 with e1; injection e1
              subst eg
              obtain ⟨z, hz⟩ := at_lt (show un < ws7.length by rw [hI7.len]; exact hunk)
              have hzb := hI7.wb un z hz
              have k4 := hcell un z hz
              have kf4 := hfr un
              have hoj : o.length ≤ 1000 := by have := HX.out.2.2.2.2.2.2.2.2.1; simp at this; omega
              have wz : IntKind.i64.wrap (z - 1) = z - 1 := zbd hzb hD7 hoj hqm hmb
              have hO8 := hO7.setW hI7.len.symm un (z - 1)
              have hI8 := hI7.dec u0 u1
              have hdr : lb.drop q = (un : Int) :: lb.drop (q + 1) := by
                obtain ⟨hh, he⟩ := List.getElem?_eq_some_iff.1 hu
                rw [List.drop_eq_getElem_cons hh, he]
              have hd1 : dec1 ws7 h7 (un : Int) = (ws7.set un (z - 1), if z - 1 = 0 then pushL h7 (un : Int) else h7) := by
                unfold dec1
                rw [Int.toNat_natCast, hz]
                rfl
              rw [hd1] at hI8
              rw [hdr, decF, hd1] at hdf
              have hle8 := hI7.le
              have HY := Lib.hid (And.intro hO8 (And.intro hI8 (And.intro hD7 hdf)))
              clear hO7 hI7 hD7 hdf HQ hu u0 u1 hbi hci hcell hfr hz hzb hO8 hI8 hdr hd1 e' hg' hH6
              by_cases hz1 : z - 1 = 0
              · have e1' : decide (z - 1 = 0) = true := by simpa using hz1
                have e3' : (z - 1 == 0) = true := by simpa using hz1
                have HZ := Lib.hid hz1
                have HP8 := Lib.hid (hpush_any HY.out.1.ow.hp (un : Int) (by omega))
                clear hz1
                go_wp2_with fail
                refine HP8.out.mono ?_
                rintro e w9 ⟨rfl, V9, hO9⟩
                have HN1 : Hid (∃ V ws' h' D', Om w1 w9 gw (gw + 1) k V v6 ws' h' (o ++ [(xn : Int)]) ∧ OI k D' ws' h' (o ++ [(xn : Int)]) ∧ D' ≤ o.length * 1000000 + (q + 1) ∧ decF (lb.drop (q + 1)) ws' h' = decF lb ws (popL h)) := by
                  obtain ⟨y1, y2, y3, y4⟩ := HY.out
                  rw [if_pos HZ.out] at y2 y4
                  exact Lib.hid ⟨V9, _, _, D7 + 1, y1.heap hO9, y2, by omega, y4⟩
                clear hO9 HP8 HY
                go_wp2_with fail
                go_roundw
                case rel => exact ⟨q + 1, by omega, by go_num, HN1⟩
                case measure => simp [intOf]; omega
              · have e1' : decide (z - 1 = 0) = false := by simpa using hz1
                have e3' : (z - 1 == 0) = false := by simpa using hz1
                have HZ := Lib.hid hz1
                have HN1 : Hid (∃ V ws' h' D', Om w1 (wr.setCell ⟨gw, un, none⟩ (.int .i64 (z - 1))) gw (gw + 1) k V v6 ws' h' (o ++ [(xn : Int)]) ∧ OI k D' ws' h' (o ++ [(xn : Int)]) ∧ D' ≤ o.length * 1000000 + (q + 1) ∧ decF (lb.drop (q + 1)) ws' h' = decF lb ws (popL h)) := by
                  obtain ⟨y1, y2, y3, y4⟩ := HY.out
                  rw [if_neg HZ.out] at y2 y4
                  exact Lib.hid ⟨_, _, _, D7 + 1, y1, y2, by omega, y4⟩
                clear hz1 HY
                go_wp2_with fail
                go_roundw
                case rel => exact ⟨q + 1, by omega, by go_num, HN1⟩
                case measure => simp [intOf]; omega
            · obtain rfl : q = m := by omega
              have d1' : decide ((q : Int) < (q : Int)) = false := by simp
              have HN2 : Hid (Rm Es w1 wr gw (gw + 1) k v6) := by
                rw [← HIn.out.2.2.1, List.drop_length, decF] at hdf
                obtain ⟨y1, y2, y3, y4, y5, y6, y7, y8, y9⟩ := HX.out
                rw [y5] at y3
                simp only [Option.getD_some] at y3
                rw [← hdf] at y3
                have hq1 := HIn.out.2.2.1
                refine Lib.hid ⟨V7, ws7, h7, _, _, D7, hO7, hI7, ?_, y3, ?_⟩
                · simp; omega
                · simp; omega
              have hv6 : lenV v6 = no + 1 := by
                obtain ⟨A6, c6, e6, _, _⟩ := hO7.od.form
                rw [e6]
                have := HX.out.2.2.2.2.2.2.2.2.2.2
                simp [lenV, this]
              have hlm : no < k := by have := HX.out.2.2.2.2.2.2.2.2.1; have := HX.out.2.2.2.2.2.2.2.2.2.2; simp at *; omega
              have HV := Lib.hid (And.intro hv6 hlm)
              clear hO7 hI7 hD7 hdf HQ hH6 hv6 hlm
              go_wp2_with fail
              go_roundw
              case rel => exact HN2
              case measure =>
                have h1 := HX.out.2.2.2.1
                rw [HV.out.1, h1]
                have h2 := HV.out.2
                simp only [lenV]
                omega
end Go.Proofs.YtbocejiclellfaaGreatDoor

/- climbed's state is one: plain. -/
set_option linter.unusedSimpArgs false
set_option linter.unusedVariables false
set_option maxRecDepth 100000
namespace Go.Proofs.YtbocejiclellfaaGreatDoor
open Go.RowKit

theorem cstep_nil {Es : List En} {s : Cs} (h : s.p = []) : cstep Es s = none := by
  unfold cstep
  rw [h]
  rfl
theorem crun_nil {Es : List En} {s : Cs} (h : s.p = []) : ∀ f, crun Es f s = s
  | 0 => rfl
  | f + 1 => by rw [crun, cstep_nil h]
theorem crun_det {Es : List En} : ∀ (f g : Nat) (x : Cs), (crun Es f x).p = [] → (crun Es g x).p = [] → crun Es f x = crun Es g x
  | 0, g, x, h, _ => by rw [crun_nil (s := x) h g]; rfl
  | f + 1, 0, x, h, hg => by rw [crun_nil (s := x) hg (f + 1)]; rfl
  | f + 1, g + 1, x, h, hg => by
    rw [crun] at h ⊢
    rw [crun] at hg ⊢
    cases hc : cstep Es x with
    | none => rfl
    | some s' =>
      rw [hc] at h hg
      exact crun_det f g s' h hg
def climbC (Es : List En) (F : Nat) : Nat → Cs
  | 0 => cs0 Es.length
  | k + 1 => crun Es F (enterS (climbC Es F k) (k : Int))
theorem climb_det {Es : List En} {F : Nat} : ∀ (k : Nat) (s : Cs), climbTo Es k s → (∀ j, j ≤ k → (climbC Es F j).p = []) → s = climbC Es F k
  | 0, s, h, _ => h
  | k + 1, s, h, hp => by
    obtain ⟨s0, f, h0, h1, h2⟩ := h
    have e := climb_det k s0 h0 (fun j hj => hp j (by omega))
    subst e
    have h3 := hp (k + 1) (Nat.le_refl _)
    rw [climbC] at h3 ⊢
    rw [← h1]
    rw [← h1] at h2
    exact crun_det _ _ _ h2 h3
def clAll (Es : List En) (F : Nat) : Nat → Bool
  | 0 => (climbC Es F 0).p.isEmpty
  | k + 1 => (climbC Es F (k + 1)).p.isEmpty && clAll Es F k
theorem clAll_of {Es : List En} {F : Nat} : ∀ (k : Nat), clAll Es F k = true → ∀ j, j ≤ k → (climbC Es F j).p = []
  | 0, h, j, hj => by
    have : j = 0 := by omega
    subst this
    simpa [clAll] using h
  | k + 1, h, j, hj => by
    unfold clAll at h
    rw [Bool.and_eq_true] at h
    by_cases e : j = k + 1
    · subst e
      simpa using h.1
    · exact clAll_of k h.2 j (by omega)
def kA : K8 := ⟨⟨#[65]⟩, ⟨#[66]⟩, false, [], 0, 0⟩
def kB : K8 := ⟨⟨#[66]⟩, ⟨#[]⟩, false, [], 0, 0⟩
theorem ab_fil : filK [kA, kB] [kA, kB] 0 = none := by decide +kernel
theorem ab_cl : clAll (esL [kA, kB]) 50 2 = true := by decide +kernel
theorem ab_round : roundL (esL [kA, kB]) (climbC (esL [kA, kB]) 50 2).d.reverse [] (-1) = -1 := by decide +kernel
theorem ab_ord : ordL (esL [kA, kB]) = [1, 0] := by decide +kernel
theorem ab_abv : abvL (esL [kA, kB]) [0] = [0, 1] := by decide +kernel
end Go.Proofs.YtbocejiclellfaaGreatDoor

/- awake: the document's example. -/
set_option linter.unusedSimpArgs false
set_option linter.unusedVariables false
set_option maxRecDepth 100000
namespace Go.Proofs.YtbocejiclellfaaGreatDoor
open Go.RowKit

theorem ab_ok : KOk [kA, kB] where
  len := by simp
  nm := by
    intro k hk
    simp at hk
    rcases hk with rfl | rfl
    · exact ⟨by decide +kernel, by decide +kernel, fun s hs => absurd hs (by simp [kA]), by decide +kernel⟩
    · exact ⟨by decide +kernel, by decide +kernel, fun s hs => absurd hs (by simp [kB]), by decide +kernel⟩
theorem ints_two (W : World) (T : TypeId) (x y : Int) : Ints (W.alloc (.cells #[.int .i64 x, .int .i64 y] T)) (some ⟨W.heap.size, 0, none⟩) [x, y] := fun k z hz => by
  have h := heap_alloc_new W (.cells #[.int .i64 x, .int .i64 y] T)
  refine ⟨_, 0, rfl, by simp, ?_⟩
  rw [cell_of_row _ W.heap.size _ _ _ _ h]
  match k, hz with
  | 0, hz => simp at hz; subst hz; simp
  | 1, hz => simp at hz; subst hz; simp
  | k + 2, hz => simp at hz
theorem eq_fault (w : World) : (binOp .eql 58 (.agg #[.int .i64 0, .int .i64 0, .int .i64 0]) (.agg #[.int .i64 0, .int .i64 0, .int .i64 0])).run Tryz.prog w = .ok (.bool true) w := by kernel_rfl
def abC : Array Value := #[.string ⟨#[65]⟩, .string ⟨#[66]⟩, .bool false, .slice none 0 0, .slice none 0 0, .slice none 0 0, .slice none 0 0, .pointer none, .int .i64 0, .int .i64 0, .string ⟨#[66]⟩, .string ⟨#[]⟩, .bool false, .slice none 0 0, .slice none 0 0, .slice none 0 0, .slice none 0 0, .pointer none, .int .i64 0, .int .i64 0]
theorem ab_rd {W : World} {b : Nat} {T : TypeId} (h : W.heap[b]? = some (.cells abC T (0, 0))) : RdKs (b + 1) W (some ⟨b, 0, none⟩) [kA, kB] := by
  have hb := (Array.getElem?_eq_some_iff.1 h).1
  intro j c hc
  match j, hc with
  | 0, hc =>
    simp at hc
    subst hc
    refine ⟨b, 0, [.string ⟨#[65]⟩, .string ⟨#[66]⟩, .bool false, .slice none 0 0, .slice none 0 0, .slice none 0 0, .slice none 0 0, .pointer none, .int .i64 0, .int .i64 0], rfl, by omega, hb, fun i v hv => ?_, none, 0, none, 0, 0, none, 0, 0, none, 0, 0, none, rfl, fun k s hs => by simp [kA] at hs⟩
    rw [cell_of_row W b _ _ _ _ h]
    have hi : i < 10 := by have := (List.getElem?_eq_some_iff.1 hv).1; simpa using this
    match i, hi, hv with
    | 0, _, hv | 1, _, hv | 2, _, hv | 3, _, hv | 4, _, hv | 5, _, hv | 6, _, hv | 7, _, hv | 8, _, hv | 9, _, hv => simpa [abC] using hv
  | 1, hc =>
    simp at hc
    subst hc
    refine ⟨b, 0, [.string ⟨#[66]⟩, .string ⟨#[]⟩, .bool false, .slice none 0 0, .slice none 0 0, .slice none 0 0, .slice none 0 0, .pointer none, .int .i64 0, .int .i64 0], rfl, by omega, hb, fun i v hv => ?_, none, 0, none, 0, 0, none, 0, 0, none, 0, 0, none, rfl, fun k s hs => by simp [kB] at hs⟩
    rw [cell_of_row W b _ _ _ _ h]
    have hi : i < 10 := by have := (List.getElem?_eq_some_iff.1 hv).1; simpa using this
    match i, hi, hv with
    | 0, _, hv | 1, _, hv | 2, _, hv | 3, _, hv | 4, _, hv | 5, _, hv | 6, _, hv | 7, _, hv | 8, _, hv | 9, _, hv => simpa [abC] using hv
  | j + 2, hc => simp at hc
/-- New, when all is right: the plain words that say so. -/
theorem nw_ok {l : List K8} {r F : Nat} {e : Ending} {w' : World} (h : NwR l r e w') (h1 : filK l l 0 = none) (h2 : clAll (esL l) F l.length = true) (h3 : roundL (esL l) (climbC (esL l) F l.length).d.reverse [] (-1) = -1) :
    ∃ t m sz V, e = .returned (.tuple #[.pointer (some ⟨t, 0, none⟩), .agg (ftC 0 0 0)]) ∧ r ≤ t ∧ Tl w' (fun g => r ≤ g) t (.map (some m)) V (esL l) ∧ MapS w' m sz (fstF l l.length) := by
  cases h with
  | bad k c hk hc he => rw [h1] at hk; cases hk
  | rnd s a c hf hs ha hc he =>
    have := climb_det _ s hs (clAll_of _ h2)
    rw [this, h3] at ha
    omega
  | ok s t m sz V hf hs ha he hr ht hm => exact ⟨t, m, sz, V, he, hr, ht, hm⟩

end Go.Proofs.YtbocejiclellfaaGreatDoor

/- HierBoth. -/
set_option linter.unusedSimpArgs false
set_option linter.unusedVariables false
set_option maxRecDepth 100000
namespace Go.Proofs.YtbocejiclellfaaGreatDoor
open Go.RowKit

/-- A rising list of numbers below n. -/
structure Gd (n : Nat) (l : List Int) : Prop where
  sd : Sd l
  lo : ∀ y ∈ l, 0 ≤ y ∧ y < (n : Int)
theorem Gd.len {n : Nat} {l : List Int} (h : Gd n l) : l.length ≤ n := nodup_le n l (h.sd.imp (fun h e => by omega)) h.lo
theorem Gd.put {n : Nat} {l : List Int} (h : Gd n l) {x : Int} (hx : 0 ≤ x ∧ x < (n : Int)) : Gd n (putL l x) :=
  ⟨sd_putL h.sd x, fun y hy => by
    rcases (mem_putL l x y).1 hy with h1 | ⟨h1, _⟩
    · exact h.lo y h1
    · rw [h1]; exact hx⟩
theorem gd_abv {Es : List En} (hn : Es.length ≤ 1000000) (is : List Int) : Gd Es.length (abvL Es is) :=
  ⟨sd_abv Es is, fun y hy => by
    obtain ⟨i, j, _, rfl, hu⟩ := (abv_mem hn is y).1 hy
    have := hu.lt
    omega⟩
/-- The names are no longer than any machine's. -/
def NmOk (l : List K8) : Prop := ∀ k ∈ l, k.nm.size ≤ 281474976710656 ∧ k.sup.size ≤ 281474976710656 ∧ (∀ s ∈ k.fcs, s.size ≤ 281474976710656)
theorem small_ok {l : List K8} (h : smallB l = true) (hn : NmOk l) : KOk l ∧ l.length ≤ 20 := by
  unfold smallB at h
  rw [Bool.and_eq_true, decide_eq_true_eq] at h
  refine ⟨⟨by omega, fun k hk => ⟨(hn k hk).1, (hn k hk).2.1, (hn k hk).2.2, ?_⟩⟩, h.1⟩
  have := List.all_eq_true.1 h.2 k hk
  simp at this
  omega
theorem eq_ptr_some (a : Addr) (w : World) : (binOp .eql 60 (.pointer (some a)) (.pointer none)).run Tryz.prog w = .ok (.bool false) w := by kernel_rfl
theorem eq_ptr_none (w : World) : (binOp .eql 60 (.pointer none) (.pointer none)).run Tryz.prog w = .ok (.bool true) w := by kernel_rfl

/-- How it stands in the law's loop. -/
def Rb (Es : List En) (W4 wr : World) (is : List Int) (v : Value) (i : Nat) : Prop :=
  ∃ cur, OwnI wr W4.heap.size v cur ∧ Gd Es.length cur ∧ bothL Es (is.drop i) cur = bothL Es is [] ∧ Turn [] W4 wr
end Go.Proofs.YtbocejiclellfaaGreatDoor

/- The reference's Fault. -/
set_option linter.unusedSimpArgs false
set_option linter.unusedVariables false
set_option maxRecDepth 100000
namespace Go.Proofs.YtbocejiclellfaaGreatDoor
open Go.RowKit

theorem ret_rf {w : World} {g : Nat} {e p q : Int} {tmps : Array Value} (h : w.heap[g]? = some (.cells (ftC e p q) 58 (0, 0))) (h2 : tmps.getD 2 undef = .pointer (some ⟨g, 0, none⟩)) :
    (results Tryz.f22 tmps).run Tryz.prog w = .ok (.agg (ftC e p q)) w := by
  rw [results_cell1 (p := 2) (ty := 58) rfl, h2]
  simp [asAddr, load_fault h, Result.andThen]
/-- What Fault answers. -/
inductive FtR (l : List K8) (e : Ending) : Prop
  | bad (k : Nat) (c : K8) (hc : l[k]? = some c) (hk : sndB l k c = false) (hall : ∀ j x, j < k → l[j]? = some x → sndB l j x = true) (he : e = .returned (.agg (ftC 11 c.p c.q)))
  | rnd (k : Nat) (c : K8) (hc : l[k]? = some c) (hall : ∀ j x, l[j]? = some x → sndB l j x = true) (hk : Cyc (esL l) k) (hno : ∀ j, j < k → ¬ Cyc (esL l) j) (he : e = .returned (.agg (ftC 11 c.p c.q)))
  | ok (hall : ∀ j x, l[j]? = some x → sndB l j x = true) (hno : ∀ j, ¬ Cyc (esL l) j) (he : e = .returned (.agg (ftC 0 0 0)))
set_option maxHeartbeats 25600000 in
theorem rfault_any (A : Option Addr) (c B : Nat) (l : List K8) (m0 m1 m2 m3 m4 m5 m6 m7 m8 : Value) (w : World) (hr : RdKs B w A l) (hl : l.length ≤ 1000) (hfl : ∀ x ∈ l, x.fcs.length ≤ 999) :
    Calls Tryz.prog 22 #[.agg #[.slice A l.length c, m0, m1, m2, m3, m4, m5, m6, m7, m8]] w fun e w' => FtR l e ∧ Turn [] w w' := by
  obtain ⟨n, hn⟩ : ∃ n, l.length = n := ⟨_, rfl⟩
  obtain ⟨r, hrr⟩ : ∃ r, w.heap.size = r := ⟨_, rfl⟩
  obtain ⟨W0, hW0⟩ : ∃ W, (w.alloc (.cells #[.slice A n c, m0, m1, m2, m3, m4, m5, m6, m7, m8] 30)).alloc (.cells #[.int .i64 0, .int .i64 0, .int .i64 0] 58) = W := ⟨_, rfl⟩
  have t0 : Turn [] w W0 := by rw [← hW0]; exact ((Turn.refl [] w).alloc _).alloc _
  have s0 : W0.heap.size = r + 2 := by rw [← hW0, ← hrr]; simp
  have b0 : W0.heap[r]? = some (.cells #[.slice A n c, m0, m1, m2, m3, m4, m5, m6, m7, m8] 30 (0, 0)) := by rw [← hW0, ← hrr]; exact ((Turn.refl [] _).alloc _).heap (heap_alloc_new w _) (by simp)
  have b1 : W0.heap[r + 1]? = some (.cells (ftC 0 0 0) 58 (0, 0)) := by
    rw [← hW0, ← hrr]
    have := heap_alloc_new (w.alloc (.cells #[.slice A n c, m0, m1, m2, m3, m4, m5, m6, m7, m8] 30)) (.cells #[.int .i64 0, .int .i64 0, .int .i64 0] 58)
    rwa [World.size_alloc] at this
  have hr0 := hr.turn t0 (by simp)
  have HSn : Hid (∀ W (j : Nat) (x : K8), Turn [] W0 W → l[j]? = some x → Calls Tryz.prog 33 #[.agg #[.slice A n c, m0, m1, m2, m3, m4, m5, m6, m7, m8], .int .i64 (j : Int)] W fun e w' => e = .returned (.bool (sndB l j x)) ∧ Turn [] W w') := Lib.hid fun W j x t hx => by
    rw [← hn]
    exact rsound_any A c B l m0 m1 m2 m3 m4 m5 m6 m7 m8 j x W (hr0.turn t (by simp)) hl hx (hfl x (List.mem_of_getElem? hx))
  have HMk : Hid (∀ W (j : Nat), Turn [] W0 W → j < n → (∀ j x, l[j]? = some x → sndB l j x = true) → Calls Tryz.prog 29 #[.agg #[.slice A n c, m0, m1, m2, m3, m4, m5, m6, m7, m8], .int .i64 (j : Int)] W fun e w' => ∃ g ms, e = .returned (.slice (some ⟨g, 0, none⟩) n n) ∧ OwnB w' 0 (.slice (some ⟨g, 0, none⟩) n n) ms ∧ ms.length = n ∧ (∀ k : Nat, ms[k]? = some true ↔ Ab1 (esL l) j k) ∧ Turn [] W w') := Lib.hid fun W j t hj hall => by
    have := rmarks_any A c B l m0 m1 m2 m3 m4 m5 m6 m7 m8 j W (hr0.turn t (by simp)) hl hfl (fun k x hx => rt_is hl (hall k x hx) hx) (by omega)
    rw [hn] at this
    exact this
  have hpc : ∀ W, Turn [] W0 W → ∀ (q : Nat) (v : Value), (#[Value.slice A n c, m0, m1, m2, m3, m4, m5, m6, m7, m8] : Array Value)[q]? = some v → W.cell? ⟨r, q, none⟩ = some v := fun W t q v hv => (cell_of_row W r q _ _ _ (t.heap b0 (by simp))).trans hv
  have hen : (esL l).length = n := by rw [esL_len, hn]
  have HEN := Lib.hid hen
  have HT0 := Lib.hid t0
  have HS0 := Lib.hid s0
  have HB1 := Lib.hid b1
  have HP := Lib.hid hpc
  have HR := Lib.hid hr0
  have HN := Lib.hid hn
  have HRR := Lib.hid hrr
  have HW0 := Lib.hid hW0
  have hn1 : n ≤ 1000 := by omega
  rw [hn]
  clear hr t0 s0 b0 b1 hr0 hpc hn hrr hW0 hen hl hfl
  go_enter Tryz.func22, Tryz.ntmps22
  go_upto_region 1 with fail
  rw [HRR.out, HW0.out]
  go_wp2_with fail
  go_loopw [3] (fun v3 wr => ∃ k : Nat, k ≤ n ∧ v3 = .int .i64 (k : Int) ∧ Hid ((∀ j x, j < k → l[j]? = some x → sndB l j x = true) ∧ Turn [] W0 wr)) (fun v3 _ => n - (intOf v3).toNat)
  case atStart => exact ⟨0, Nat.zero_le _, rfl, Lib.hid ⟨fun j x hj => absurd hj (Nat.not_lt_zero j), Turn.refl _ _⟩⟩
  case round =>
    obtain ⟨k, hk, rfl, HO⟩ := hrel
    have q0 : wr.cell? ⟨r, 0, none⟩ = some (.slice A n c) := HP.out wr HO.out.2 0 _ rfl
    by_cases hkn : k < n
    · have d1 : decide ((k : Int) < (n : Int)) = true := by simp; omega
      have d2 : (k : Int) < (n : Int) := by omega
      obtain ⟨x, hx⟩ := at_lt (show k < l.length by have := HN.out; omega)
      obtain ⟨b, off, cs, rfl, hb, hbl, hcell, A3, c3, A4, n4, c4, A5, n5, c5, A6, n6, c6, I, rfl, hst⟩ := HR.out k x hx
      have HKC : Hid (∀ W, Turn [] W0 W → W.cell? ⟨b, off + k * 10 + 8, none⟩ = some (.int .i64 x.p) ∧ W.cell? ⟨b, off + k * 10 + 9, none⟩ = some (.int .i64 x.q)) := Lib.hid fun W t => ⟨(t.cell (p := ⟨b, off + k * 10 + 8, none⟩) hbl (by simp)).trans (hcell 8 _ rfl), (t.cell (p := ⟨b, off + k * 10 + 9, none⟩) hbl (by simp)).trans (hcell 9 _ rfl)⟩
      have HSx := Lib.hid (HSn.out wr k x HO.out.2 hx)
      have HX := Lib.hid hx
      clear hcell hst hb hbl q0 hx
      have q0 : wr.cell? ⟨r, 0, none⟩ = some (.slice (some ⟨b, off, none⟩) n c) := HP.out wr (HO.out.2) 0 _ rfl
      have q1 : wr.cell? ⟨r, 1, none⟩ = some m0 := HP.out wr (HO.out.2) 1 _ rfl
      have q2 : wr.cell? ⟨r, 2, none⟩ = some m1 := HP.out wr (HO.out.2) 2 _ rfl
      have q3 : wr.cell? ⟨r, 3, none⟩ = some m2 := HP.out wr (HO.out.2) 3 _ rfl
      have q4 : wr.cell? ⟨r, 4, none⟩ = some m3 := HP.out wr (HO.out.2) 4 _ rfl
      have q5 : wr.cell? ⟨r, 5, none⟩ = some m4 := HP.out wr (HO.out.2) 5 _ rfl
      have q6 : wr.cell? ⟨r, 6, none⟩ = some m5 := HP.out wr (HO.out.2) 6 _ rfl
      have q7 : wr.cell? ⟨r, 7, none⟩ = some m6 := HP.out wr (HO.out.2) 7 _ rfl
      have q8 : wr.cell? ⟨r, 8, none⟩ = some m7 := HP.out wr (HO.out.2) 8 _ rfl
      have q9 : wr.cell? ⟨r, 9, none⟩ = some m8 := HP.out wr (HO.out.2) 9 _ rfl
      go_wp2_with fail
      refine HSx.out.mono ?_
      rintro e w4 ⟨rfl, t4⟩
      have tt4 := HO.out.2.trans' t4
      clear t4 q0 q1 q2 q3 q4 q5 q6 q7 q8 q9 HSx
      obtain ⟨sn, hsn⟩ : ∃ sn, sndB l k x = sn := ⟨_, rfl⟩
      rw [hsn]
      have HSN := Lib.hid hsn
      clear hsn
      cases sn with
      | true =>
        have HN2 : Hid ((∀ j y, j < k + 1 → l[j]? = some y → sndB l j y = true) ∧ Turn [] W0 w4) := Lib.hid ⟨fun j y hj hy => by
          by_cases e : j = k
          · subst e
            rw [HX.out] at hy
            injection hy with hy
            rw [← hy]
            exact HSN.out
          · exact HO.out.1 j y (by omega) hy, tt4⟩
        clear tt4
        go_wp2_with fail
        go_roundw
        case rel => exact ⟨k + 1, by omega, by go_num, HN2⟩
        case measure => simp [intOf]; omega
      | false =>
        have HT4 := Lib.hid tt4
        clear tt4
        obtain ⟨cp, cq⟩ := HKC.out w4 HT4.out
        have p0 : w4.cell? ⟨r, 0, none⟩ = some (.slice (some ⟨b, off, none⟩) n c) := HP.out w4 (HT4.out) 0 _ rfl
        have b4 := (HT4.out).heap HB1.out (by simp)
        have f0 : w4.cell? ⟨r + 1, 0, none⟩ = some (.int .i64 0) := cell_of_row w4 _ 0 _ _ _ b4
        have f1 : w4.cell? ⟨r + 1, 1, none⟩ = some (.int .i64 0) := cell_of_row w4 _ 1 _ _ _ b4
        have f2 : w4.cell? ⟨r + 1, 2, none⟩ = some (.int .i64 0) := cell_of_row w4 _ 2 _ _ _ b4
        have f0' : w4.frozen? ⟨r + 1, 0, none⟩ = false := frozen_of_row w4 _ 0 _ _ b4
        have f1' : w4.frozen? ⟨r + 1, 1, none⟩ = false := frozen_of_row w4 _ 1 _ _ b4
        have f2' : w4.frozen? ⟨r + 1, 2, none⟩ = false := frozen_of_row w4 _ 2 _ _ b4
        have HB4 := Lib.hid b4
        clear b4
        go_wp2_with fail
        go_region
        go_wp2_with fail
        have hfs := ft_set 11 x.p x.q HB4.out
        refine bodyPost_ret (ret_rf ((Turn.refl [] _).drew.heap hfs.1 (by simp)) rfl) rfl ⟨.bad k x HX.out HSN.out HO.out.1 rfl, ?_⟩
        refine ((HT0.out.trans' (HT4.out)).trans hfs.2 (fun g hg => .inr (by simp at hg; have := HRR.out; omega))).drew
    · obtain rfl : k = n := by omega
      have d1 : decide ((k : Int) < (k : Int)) = false := by simp
      have HALL : Hid (∀ j x, l[j]? = some x → sndB l j x = true) := Lib.hid fun j x hx => HO.out.1 j x (by have := (List.getElem?_eq_some_iff.1 hx).1; have := HN.out; omega) hx
      go_wp2_with fail
      go_loopw [4] (fun v4 wr => ∃ i : Nat, i ≤ k ∧ v4 = .int .i64 (i : Int) ∧ Hid ((∀ j, j < i → ¬ Cyc (esL l) j) ∧ Turn [] W0 wr)) (fun v4 _ => k - (intOf v4).toNat)
      case atStart => exact ⟨0, Nat.zero_le _, rfl, Lib.hid ⟨fun j hj => absurd hj (Nat.not_lt_zero j), HO.out.2⟩⟩
      case round =>
        obtain ⟨i, hi, rfl, HQ⟩ := hrel
        have q0 : wr.cell? ⟨r, 0, none⟩ = some (.slice A k c) := HP.out wr HQ.out.2 0 _ rfl
        by_cases hik : i < k
        · have d3 : decide ((i : Int) < (k : Int)) = true := by simp; omega
          have d4 : (i : Int) < (k : Int) := by omega
          obtain ⟨x, hx⟩ := at_lt (show i < l.length by have := HN.out; omega)
          obtain ⟨b, off, cs, rfl, hb, hbl, hcell, A3, c3, A4, n4, c4, A5, n5, c5, A6, n6, c6, I, rfl, hst⟩ := HR.out i x hx
          have HKC : Hid (∀ W, Turn [] W0 W → W.cell? ⟨b, off + i * 10 + 8, none⟩ = some (.int .i64 x.p) ∧ W.cell? ⟨b, off + i * 10 + 9, none⟩ = some (.int .i64 x.q)) := Lib.hid fun W t => ⟨(t.cell (p := ⟨b, off + i * 10 + 8, none⟩) hbl (by simp)).trans (hcell 8 _ rfl), (t.cell (p := ⟨b, off + i * 10 + 9, none⟩) hbl (by simp)).trans (hcell 9 _ rfl)⟩
          have HMx := Lib.hid (HMk.out wr i HQ.out.2 hik HALL.out)
          have HX := Lib.hid hx
          clear hcell hst hb hbl q0 hx
          have q0 : wr.cell? ⟨r, 0, none⟩ = some (.slice (some ⟨b, off, none⟩) k c) := HP.out wr (HQ.out.2) 0 _ rfl
          have q1 : wr.cell? ⟨r, 1, none⟩ = some m0 := HP.out wr (HQ.out.2) 1 _ rfl
          have q2 : wr.cell? ⟨r, 2, none⟩ = some m1 := HP.out wr (HQ.out.2) 2 _ rfl
          have q3 : wr.cell? ⟨r, 3, none⟩ = some m2 := HP.out wr (HQ.out.2) 3 _ rfl
          have q4 : wr.cell? ⟨r, 4, none⟩ = some m3 := HP.out wr (HQ.out.2) 4 _ rfl
          have q5 : wr.cell? ⟨r, 5, none⟩ = some m4 := HP.out wr (HQ.out.2) 5 _ rfl
          have q6 : wr.cell? ⟨r, 6, none⟩ = some m5 := HP.out wr (HQ.out.2) 6 _ rfl
          have q7 : wr.cell? ⟨r, 7, none⟩ = some m6 := HP.out wr (HQ.out.2) 7 _ rfl
          have q8 : wr.cell? ⟨r, 8, none⟩ = some m7 := HP.out wr (HQ.out.2) 8 _ rfl
          have q9 : wr.cell? ⟨r, 9, none⟩ = some m8 := HP.out wr (HQ.out.2) 9 _ rfl
          go_wp2_with fail
          refine HMx.out.mono ?_
          rintro e w4 ⟨g, ms, rfl, hom, hml, hmi, t4⟩
          have tt4 := HQ.out.2.trans' t4
          clear t4 q0 q1 q2 q3 q4 q5 q6 q7 q8 q9 HMx
          obtain ⟨mb, hmb⟩ := at_lt (show i < ms.length by rw [hml]; exact hik)
          have cm : w4.cell? ⟨g, i, none⟩ = some (.bool mb) := hom.at.1 i mb hmb
          have hcy : mb = true ↔ Cyc (esL l) i := by
            rw [Cyc, HEN.out]
            constructor
            · intro h
              subst h
              exact ⟨hik, (hmi i).1 hmb⟩
            · rintro ⟨_, h⟩
              have := (hmi i).2 h
              rw [hmb] at this
              injection this
          have HCY := Lib.hid hcy
          clear hom hml hmi hmb hcy
          cases mb with
          | false =>
            have HN2 : Hid ((∀ j, j < i + 1 → ¬ Cyc (esL l) j) ∧ Turn [] W0 w4) := Lib.hid ⟨fun j hj hy => by
              by_cases e : j = i
              · subst e
                have := HCY.out.2 hy
                cases this
              · exact HQ.out.1 j (by omega) hy, tt4⟩
            clear tt4
            go_wp2_with fail
            go_roundw
            case rel => exact ⟨i + 1, by omega, by go_num, HN2⟩
            case measure => simp [intOf]; omega
          | true =>
            have HT4 := Lib.hid tt4
            clear tt4
            obtain ⟨cp, cq⟩ := HKC.out w4 HT4.out
            have p0 : w4.cell? ⟨r, 0, none⟩ = some (.slice (some ⟨b, off, none⟩) k c) := HP.out w4 (HT4.out) 0 _ rfl
            have b4 := (HT4.out).heap HB1.out (by simp)
            have f0 : w4.cell? ⟨r + 1, 0, none⟩ = some (.int .i64 0) := cell_of_row w4 _ 0 _ _ _ b4
            have f1 : w4.cell? ⟨r + 1, 1, none⟩ = some (.int .i64 0) := cell_of_row w4 _ 1 _ _ _ b4
            have f2 : w4.cell? ⟨r + 1, 2, none⟩ = some (.int .i64 0) := cell_of_row w4 _ 2 _ _ _ b4
            have f0' : w4.frozen? ⟨r + 1, 0, none⟩ = false := frozen_of_row w4 _ 0 _ _ b4
            have f1' : w4.frozen? ⟨r + 1, 1, none⟩ = false := frozen_of_row w4 _ 1 _ _ b4
            have f2' : w4.frozen? ⟨r + 1, 2, none⟩ = false := frozen_of_row w4 _ 2 _ _ b4
            have HB4 := Lib.hid b4
            clear b4
            go_wp2_with fail
            go_region
            go_wp2_with fail
            have hfs := ft_set 11 x.p x.q HB4.out
            refine bodyPost_ret (ret_rf ((Turn.refl [] _).drew.heap hfs.1 (by simp)) rfl) rfl ⟨.rnd i x HX.out HALL.out (HCY.out.1 (by trivial)) HQ.out.1 rfl, ?_⟩
            refine ((HT0.out.trans' (HT4.out)).trans hfs.2 (fun g hg => .inr (by simp at hg; have := HRR.out; omega))).drew
        · obtain rfl : i = k := by omega
          have d3 : decide ((i : Int) < (i : Int)) = false := by simp
          have HNO : Hid (∀ j, ¬ Cyc (esL l) j) := Lib.hid fun j hj => by
            have h1 := hj.1
            rw [HEN.out] at h1
            exact HQ.out.1 j h1 hj
          have b4 := HQ.out.2.heap HB1.out (by simp)
          have f0 : wr.cell? ⟨r + 1, 0, none⟩ = some (.int .i64 0) := cell_of_row wr _ 0 _ _ _ b4
          have f1 : wr.cell? ⟨r + 1, 1, none⟩ = some (.int .i64 0) := cell_of_row wr _ 1 _ _ _ b4
          have f2 : wr.cell? ⟨r + 1, 2, none⟩ = some (.int .i64 0) := cell_of_row wr _ 2 _ _ _ b4
          have f0' : wr.frozen? ⟨r + 1, 0, none⟩ = false := frozen_of_row wr _ 0 _ _ b4
          have f1' : wr.frozen? ⟨r + 1, 1, none⟩ = false := frozen_of_row wr _ 1 _ _ b4
          have f2' : wr.frozen? ⟨r + 1, 2, none⟩ = false := frozen_of_row wr _ 2 _ _ b4
          have HB4 := Lib.hid b4
          clear b4
          go_wp2_with fail
          have hfs := ft_set 0 0 0 HB4.out
          refine bodyPost_ret (ret_rf hfs.1 rfl) rfl ⟨.ok HALL.out HNO.out rfl, ?_⟩
          exact (HT0.out.trans' HQ.out.2).trans hfs.2 (fun g hg => .inr (by simp at hg; have := HRR.out; omega))
end Go.Proofs.YtbocejiclellfaaGreatDoor

/- HierFaults. -/
set_option linter.unusedSimpArgs false
set_option linter.unusedVariables false
set_option maxRecDepth 100000
namespace Go.Proofs.YtbocejiclellfaaGreatDoor
open Go.RowKit

theorem faults_agree {l : List K8} (hk : KOk l) {r : Nat} {e1 e2 : Ending} {w1 : World} (h1 : NwR l r e1 w1) (h2 : FtR l e2) :
    ∃ (P : Option Addr) (er p q : Int), e1 = .returned (.tuple #[.pointer P, .agg (ftC er p q)]) ∧ e2 = .returned (.agg (ftC er p q)) ∧ ((P = none ∧ er = 11) ∨ ∃ t, P = some ⟨t, 0, none⟩ ∧ er = 0) := by
  have hlen := hk.len
  have hok : EsOk (esL l) := esL_ok hk.len (fun c hc => (hk.nm c hc).2.2.2)
  have hall : filK l l 0 = none → ∀ j x, l[j]? = some x → sndB l j x = true := fun hf j x hx => by
    have := filK_none l 0 hf j x hx
    rw [Nat.zero_add, okK_is hlen] at this
    exact this
  cases h1 with
  | bad k c hf hc he =>
    obtain ⟨c', _, h3, h4, h5⟩ := filK_some l 0 k hf
    rw [Nat.sub_zero, hc] at h3
    injection h3 with h3
    subst h3
    rw [okK_is hlen] at h4
    cases h2 with
    | bad k' c'' hc' hk' hall' he' =>
      have hkk : k = k' := by
        rcases Nat.lt_trichotomy k k' with h | h | h
        · have := hall' k c h hc
          rw [h4] at this
          cases this
        · exact h
        · have := h5 k' c'' (by omega) hc'
          rw [Nat.zero_add, okK_is hlen, hk'] at this
          cases this
      subst hkk
      rw [hc] at hc'
      injection hc' with hc'
      subst hc'
      exact ⟨_, _, _, _, he, he', .inl ⟨rfl, rfl⟩⟩
    | rnd k' c'' hc' ha' hk' hno he' =>
      have := ha' k c hc
      rw [h4] at this
      cases this
    | ok ha' hno he' =>
      have := ha' k c hc
      rw [h4] at this
      cases this
  | rnd s a c hf hs ha hc he =>
    rw [← esL_len l] at hs
    obtain ⟨h3, h4⟩ := round_says hok hs
    rw [ha] at h3 h4
    cases h2 with
    | bad k' c'' hc' hk' hall' he' =>
      have := hall hf k' c'' hc'
      rw [hk'] at this
      cases this
    | rnd k' c'' hc' ha' hk' hno he' =>
      have hak : a = k' := by
        have h5 := (h3 k' hk').2
        rcases h4 with h4 | ⟨d, h4, h6⟩
        · omega
        · have : ¬ d < k' := fun h => hno d h h6
          omega
      subst hak
      rw [hc] at hc'
      injection hc' with hc'
      subst hc'
      exact ⟨_, _, _, _, he, he', .inl ⟨rfl, rfl⟩⟩
    | ok ha' hno he' =>
      rcases h4 with h4 | ⟨d, h4, h6⟩
      · omega
      · exact absurd h6 (hno d)
  | ok s t m sz V hf hs ha he hrt ht hm =>
    rw [← esL_len l] at hs
    obtain ⟨h3, h4⟩ := round_says hok hs
    rw [ha] at h3 h4
    cases h2 with
    | bad k' c'' hc' hk' hall' he' =>
      have := hall hf k' c'' hc'
      rw [hk'] at this
      cases this
    | rnd k' c'' hc' ha' hk' hno he' =>
      have := (h3 k' hk').1
      omega
    | ok ha' hno he' => exact ⟨_, _, _, _, he, he', .inr ⟨_, rfl, rfl⟩⟩
end Go.Proofs.YtbocejiclellfaaGreatDoor

/- What HierTells knows of the table and of the reference, as contracts. -/
set_option linter.unusedSimpArgs false
set_option linter.unusedVariables false
namespace Go.Proofs.YtbocejiclellfaaGreatDoor
open Go.RowKit

/-- The classes are right. -/
structure Rgt (l : List K8) : Prop where
  kok : KOk l
  snd : ∀ j x, l[j]? = some x → sndB l j x = true
  acy : ∀ i, ¬ Cyc (esL l) i
theorem Rgt.fcs {l : List K8} (g : Rgt l) : ∀ x ∈ l, x.fcs.length ≤ 999 := fun x hx => (g.kok.nm x hx).2.2.2
theorem Rgt.rt {l : List K8} (g : Rgt l) : ∀ j x, l[j]? = some x → rtI l x = ofN (nxE (esL l) j) := fun j x hx => rt_is g.kok.len (g.snd j x hx) hx
theorem Rgt.ok {l : List K8} (g : Rgt l) : EsOk (esL l) := esL_ok g.kok.len g.fcs
theorem Rgt.ord {l : List K8} (g : Rgt l) : (ordL (esL l)).length = l.length := by
  rw [((ord_says g.ok).2.2.2 g.acy).2, esL_len]
theorem Rgt.ent {l : List K8} (g : Rgt l) {i : Nat} {x : K8} (hx : l[i]? = some x) : enAt (esL l) (i : Int) = ⟨x.nm, x.face, if x.sup = ⟨#[]⟩ then -1 else fndI l x.sup, (rtI l x).map Int.toNat⟩ := enAt_nat (snd_entry g.kok.len (g.snd i x hx) hx)
theorem Rgt.out {l : List K8} {i : Int} (h : ¬ (0 ≤ i ∧ i < (l.length : Int))) : enAt (esL l) i = en0 := enAt_out (by rw [esL_len]; exact h)
/-- What lies in memory behind New: the program's classes, the table, its map of names. -/
structure Bk (A : Option Addr) (B : Nat) (l : List K8) (r t m sz : Nat) (V : Value) (W : World) : Prop where
  rd : RdKs B W A l
  tl : Tl W (fun g => r ≤ g) t (.map (some m)) V (esL l)
  mp : MapS W m sz (fstF l l.length)
  tb : Tab W
theorem Bk.turn {A : Option Addr} {B : Nat} {l : List K8} {r t m sz : Nat} {V : Value} {W W' : World} (h : Bk A B l r t m sz V W) (k : Turn [] W W') : Bk A B l r t m sz V W' :=
  ⟨h.rd.turn k (by simp), h.tl.turn' k, h.mp.turn k (by simp), h.tb.turn' k⟩
theorem abv_len {Es : List En} (hn : Es.length ≤ 1000) (is : List Int) : (abvL Es is).length ≤ 1000000 := by
  have := (gd_abv (Es := Es) (by omega) is).len
  omega
section
variable {A : Option Addr} {c B : Nat} {l : List K8} {m0 m1 m2 m3 m4 m5 m6 m7 m8 : Value} {r t m sz : Nat} {V : Value}
theorem bk_len (W : World) (b : Bk A B l r t m sz V W) : Calls Tryz.prog 45 #[.pointer (some ⟨t, 0, none⟩)] W fun e w' => e = .returned (.int .i64 (l.length : Int)) ∧ Turn [] W w' := by
  refine (len_any8 b.tl).mono ?_
  rintro e w' ⟨rfl, rfl⟩
  exact ⟨by rw [esL_len], Turn.refl _ _⟩
theorem bk_order (g : Rgt l) (W : World) (b : Bk A B l r t m sz V W) : Calls Tryz.prog 32 #[.pointer (some ⟨t, 0, none⟩)] W fun e w' => ∃ U, e = .returned U ∧ OwnI w' W.heap.size U (ordL (esL l)) ∧ Turn [] W w' := order_any b.tl g.ok
theorem bk_above (g : Rgt l) (W : World) (b : Bk A B l r t m sz V W) (P : Option Addr) (ni ci : Nat) (is : List Int) (hI : Ints W P is) (hni : ni = is.length) (hn2 : ni ≤ 1000000) : Calls Tryz.prog 42 #[.pointer (some ⟨t, 0, none⟩), .slice P ni ci] W fun e w' => ∃ U, e = .returned U ∧ OwnI w' W.heap.size U (abvL (esL l) is) ∧ Turn [] W w' :=
  above_any b.tl (fun i => by have := g.ok.few i; omega) b.tb P ni ci is hI hni hn2
theorem bk_index (W : World) (b : Bk A B l r t m sz V W) (x : ByteArray) (hx : x.size ≤ 562949953421312) : Calls Tryz.prog 39 #[.pointer (some ⟨t, 0, none⟩), .string x] W fun e w' => e = .returned (.tuple #[.int .i64 (((fstF l l.length x).getD 0 : Nat) : Int), .bool (fstF l l.length x).isSome]) ∧ Turn [] W w' := by
  refine (index_any8 b.tl b.mp x hx).mono ?_
  rintro e w' ⟨rfl, rfl⟩
  exact ⟨rfl, Turn.refl _ _⟩
theorem bk_name (W : World) (b : Bk A B l r t m sz V W) (i : Int) : Calls Tryz.prog 40 #[.pointer (some ⟨t, 0, none⟩), .int .i64 i] W fun e w' => e = .returned (.string (enAt (esL l) i).nm) ∧ Turn [] W w' := name_any8 b.tl i
theorem bk_face (W : World) (b : Bk A B l r t m sz V W) (i : Int) : Calls Tryz.prog 44 #[.pointer (some ⟨t, 0, none⟩), .int .i64 i] W fun e w' => e = .returned (.bool (enAt (esL l) i).face) ∧ Turn [] W w' := face_any8 b.tl i
theorem bk_right (W : World) (b : Bk A B l r t m sz V W) (i : Int) (hrt : (enAt (esL l) i).rt.length ≤ 1000000) : Calls Tryz.prog 48 #[.pointer (some ⟨t, 0, none⟩), .int .i64 i] W fun e w' => ∃ U, e = .returned U ∧ OwnI w' W.heap.size U (ofN (enAt (esL l) i).rt) ∧ Turn [] W w' := right_any8 b.tl i hrt
theorem bk_rright (g : Rgt l) (W : World) (b : Bk A B l r t m sz V W) (i : Nat) (x : K8) (hx : l[i]? = some x) : Calls Tryz.prog 43 #[.agg #[.slice A l.length c, m0, m1, m2, m3, m4, m5, m6, m7, m8], .int .i64 (i : Int)] W fun e w' => ∃ U, e = .returned U ∧ OwnI w' W.heap.size U (ofN (enAt (esL l) (i : Int)).rt) ∧ Turn [] W w' := by
  have := rright_any A c B l m0 m1 m2 m3 m4 m5 m6 m7 m8 i x W b.rd g.kok.len hx (g.fcs x (List.mem_of_getElem? hx))
  rw [g.rt i x hx] at this
  exact this
theorem bk_find (g : Rgt l) (W : World) (b : Bk A B l r t m sz V W) (s : ByteArray) : Calls Tryz.prog 9 #[.agg #[.slice A l.length c, m0, m1, m2, m3, m4, m5, m6, m7, m8], .string s] W fun e w' => e = .returned (.int .i64 (fndI l s)) ∧ Turn [] W w' :=
  rfind_any A c B l m0 m1 m2 m3 m4 m5 m6 m7 m8 s W b.rd g.kok.len
end
/-- What Fault answers: a fault, or nothing of a program that is right. -/
theorem ft_two {l : List K8} (hk : KOk l) {e : Ending} (h : FtR l e) : (∃ p q : Int, e = .returned (.agg (ftC 11 p q))) ∨ (e = .returned (.agg (ftC 0 0 0)) ∧ Rgt l) := by
  cases h with
  | bad k c hc hk' hall he => exact .inl ⟨_, _, he⟩
  | rnd k c hc hall hk' hno he => exact .inl ⟨_, _, he⟩
  | ok hall hno he => exact .inr ⟨he, hk, hall, hno⟩
/-- What New answers of a program that is right. -/
theorem new_rgt {l : List K8} (g : Rgt l) {r : Nat} {e1 : Ending} {w1 : World} (h1 : NwR l r e1 w1) : ∃ (t m sz : Nat) (V : Value), e1 = .returned (.tuple #[.pointer (some ⟨t, 0, none⟩), .agg (ftC 0 0 0)]) ∧ Tl w1 (fun g => r ≤ g) t (.map (some m)) V (esL l) ∧ MapS w1 m sz (fstF l l.length) := by
  obtain ⟨P, er, p, q, he1, he2, hpe⟩ := faults_agree g.kok h1 (.ok g.snd g.acy rfl)
  simp only [ftC, Array.mk.injEq, List.cons.injEq, Value.agg.injEq, Ending.returned.injEq, Value.int.injEq, and_true, true_and] at he2
  cases h1 with
  | bad k c hf hc he' =>
    rw [he'] at he1
    simp only [ftC, Array.mk.injEq, List.cons.injEq, Value.pointer.injEq, Value.agg.injEq, Value.tuple.injEq, Ending.returned.injEq, Value.int.injEq, and_true, true_and] at he1
    omega
  | rnd s a c hf hs ha hc he' =>
    rw [he'] at he1
    simp only [ftC, Array.mk.injEq, List.cons.injEq, Value.pointer.injEq, Value.agg.injEq, Value.tuple.injEq, Ending.returned.injEq, Value.int.injEq, and_true, true_and] at he1
    omega
  | ok s t m sz V hf hs ha he' hrt ht hm => exact ⟨t, m, sz, V, he', ht, hm⟩
end Go.Proofs.YtbocejiclellfaaGreatDoor

/- Texts of types: the words, the brackets behind. -/
set_option linter.unusedSimpArgs false
set_option linter.unusedVariables false
namespace Go.Proofs.YtbocejiclellfaaGreatDoor
open Go.RowKit

def tInt : ByteArray := ⟨#[105, 110, 116]⟩
def tNull : ByteArray := ⟨#[110, 117, 108, 108]⟩
def tVoid : ByteArray := ⟨#[118, 111, 105, 100]⟩
def tBr : ByteArray := ⟨#[91, 93]⟩
/-- What stands ahead of the brackets; none: there are none. -/
def cutB (t : ByteArray) : Option ByteArray := if 2 ≤ t.size ∧ t.extract (t.size - 2) t.size = tBr then some (t.extract 0 (t.size - 2)) else none
theorem cutB_int : cutB tInt = none := by decide +kernel
theorem cutB_null : cutB tNull = none := by decide +kernel
theorem cutB_app (s : ByteArray) : cutB (s ++ tBr) = some s := by
  have h2 : tBr.size = 2 := rfl
  have hs : (s ++ tBr).size = s.size + 2 := by rw [ByteArray.size_append, h2]
  unfold cutB
  rw [if_pos]
  · congr 1
    rw [hs, show s.size + 2 - 2 = s.size by omega]
    apply ByteArray.ext
    simp [ByteArray.data_extract, ByteArray.data_append]
  · refine ⟨by omega, ?_⟩
    rw [hs, show s.size + 2 - 2 = s.size by omega]
    apply ByteArray.ext
    simp [ByteArray.data_extract, ByteArray.data_append, tBr]
theorem br_not {t : ByteArray} (h : ¬ 2 ≤ t.size) : cutB t = none := by
  unfold cutB
  rw [if_neg (fun c => h c.1)]
theorem br_yes {t : ByteArray} (h : 2 ≤ t.size) (e : t.extract (t.size - 2) t.size = tBr) : cutB t = some (t.extract 0 (t.size - 2)) := by
  unfold cutB
  rw [if_pos ⟨h, e⟩]
theorem br_no {t : ByteArray} (e : ¬ t.extract (t.size - 2) t.size = tBr) : cutB t = none := by
  unfold cutB
  rw [if_neg (fun c => e c.2)]
theorem br_list {a : ByteArray} : (a.toList == [91, 93]) = decide (a = tBr) := by
  rw [Bool.eq_iff_iff, beq_iff_eq, decide_eq_true_eq, ByteArray.toList_eq]
  constructor
  · intro h
    apply ByteArray.ext
    rw [← Array.toList_inj, h]
    rfl
  · intro h
    rw [h]
    rfl
end Go.Proofs.YtbocejiclellfaaGreatDoor

/- Types as texts: plain. -/
set_option linter.unusedSimpArgs false
set_option linter.unusedVariables false
set_option linter.unusedSectionVars false
namespace Go.Proofs.YtbocejiclellfaaGreatDoor
open Go.RowKit

def elI (l : List K8) (t : ByteArray) : Option Nat := (cutB t).bind (fstF l l.length)
def clI (l : List K8) (t : ByteArray) : Option Nat := if ((elI l t).isSome || decide (t = tInt) || decide (t = tNull)) = true then none else fstF l l.length t
def refB (l : List K8) (t : ByteArray) : Bool := decide (t = tNull) || (elI l t).isSome || (clI l t).isSome
def tyB (l : List K8) (t : ByteArray) : Bool := decide (t = tInt) || refB l t
def rtyB (l : List K8) : Option Nat → Option Nat → Bool
  | some a, some b => hasB (abvL (esL l) [(a : Int)]) (b : Int)
  | _, _ => false
def belB (l : List K8) (t u : ByteArray) : Bool := if t = u then tyB l t else if t = tNull then refB l u else rtyB l (clI l t) (clI l u)
/-- No class has a name that is a type's own, or written as one. -/
def PlainL (l : List K8) : Prop := ∀ x ∈ l, x.nm ≠ ⟨#[]⟩ ∧ x.nm ≠ tInt ∧ x.nm ≠ tNull ∧ x.nm ≠ tVoid ∧ cutB x.nm = none

/-- The types by themselves. -/
inductive Kd
  | int
  | null
  | cl (j : Nat)
  | ar (j : Nat)
  deriving DecidableEq
def nmL (l : List K8) (j : Nat) : ByteArray := ((l[j]?).map (·.nm)).getD ⟨#[]⟩
def txK (l : List K8) : Kd → ByteArray
  | .int => tInt
  | .null => tNull
  | .cl j => nmL l j
  | .ar j => nmL l j ++ tBr
def okKd (l : List K8) : Kd → Prop
  | .int => True
  | .null => True
  | .cl j => j < l.length
  | .ar j => j < l.length
def isAr : Kd → Bool
  | .ar _ => true
  | _ => false
theorem nmL_at {l : List K8} {j : Nat} {x : K8} (h : l[j]? = some x) : nmL l j = x.nm := by simp [nmL, h]
theorem kd_at {l : List K8} {j : Nat} (h : j < l.length) : ∃ x, l[j]? = some x ∧ nmL l j = x.nm := by
  obtain ⟨x, hx⟩ := at_lt h
  exact ⟨x, hx, nmL_at hx⟩
section
variable {l : List K8} (g : Rgt l) (p : PlainL l)
include g p
theorem el_tx {k : Kd} (hk : okKd l k) : elI l (txK l k) = match k with | .ar j => some j | _ => none := by
  unfold elI
  cases k with
  | int => rw [txK, cutB_int]; rfl
  | null => rw [txK, cutB_null]; rfl
  | cl j =>
    obtain ⟨x, hx, hn⟩ := kd_at hk
    rw [txK, hn, (p x (List.mem_of_getElem? hx)).2.2.2.2]
    rfl
  | ar j =>
    obtain ⟨x, hx, hn⟩ := kd_at hk
    rw [txK, cutB_app, Option.bind_some, hn]
    exact snd_first (g.snd j x hx)
theorem cl_tx {k : Kd} (hk : okKd l k) : clI l (txK l k) = match k with | .cl j => some j | _ => none := by
  unfold clI
  rw [el_tx g p hk]
  cases k with
  | int => rfl
  | null => rfl
  | cl j =>
    obtain ⟨x, hx, hn⟩ := kd_at hk
    have hp := p x (List.mem_of_getElem? hx)
    rw [txK, hn, if_neg (by simp [hp.2.1, hp.2.2.1])]
    exact snd_first (g.snd j x hx)
  | ar j => rfl
theorem tx_inj {k k' : Kd} (hk : okKd l k) (hk' : okKd l k') (h : txK l k = txK l k') : k = k' := by
  have he := el_tx g p hk
  have he' := el_tx g p hk'
  have hc := cl_tx g p hk
  have hc' := cl_tx g p hk'
  rw [h, he'] at he
  rw [h, hc'] at hc
  have hin : tInt ≠ tNull := by decide +kernel
  have hni : tNull ≠ tInt := by decide +kernel
  cases k with
  | int => cases k' with
    | int => rfl
    | null => exact absurd h hin
    | cl j => cases hc
    | ar j => cases he
  | null => cases k' with
    | int => exact absurd h hni
    | null => rfl
    | cl j => cases hc
    | ar j => cases he
  | cl i => cases k' with
    | int => cases hc
    | null => cases hc
    | cl j =>
      injection hc with hc
      rw [hc]
    | ar j => cases he
  | ar i => cases k' with
    | int => cases he
    | null => cases he
    | cl j => cases he
    | ar j =>
      injection he with he
      rw [he]
theorem null_tx {k : Kd} (hk : okKd l k) : (txK l k = tNull) ↔ k = .null := ⟨fun h => tx_inj g p hk (k' := .null) trivial h, fun h => by rw [h]; rfl⟩
theorem int_tx {k : Kd} (hk : okKd l k) : (txK l k = tInt) ↔ k = .int := ⟨fun h => tx_inj g p hk (k' := .int) trivial h, fun h => by rw [h]; rfl⟩
theorem ref_tx {k : Kd} (hk : okKd l k) : refB l (txK l k) = !decide (k = .int) := by
  unfold refB
  rw [el_tx g p hk, cl_tx g p hk]
  have h1 := null_tx g p hk
  cases k with
  | int => simp [h1]
  | null => simp [h1]
  | cl j => simp
  | ar j => simp
theorem is_tx {k : Kd} (hk : okKd l k) : tyB l (txK l k) = true := by
  unfold tyB
  rw [ref_tx g p hk]
  have h1 := int_tx g p hk
  cases k with
  | int => simp [h1]
  | null => simp
  | cl j => simp
  | ar j => simp
/-- May one stand for the other? -/
def belK (l : List K8) (k k' : Kd) : Bool := if k = k' then true else if k = .null then !decide (k' = .int) else
  match k, k' with
  | .cl a, .cl b => hasB (abvL (esL l) [(a : Int)]) (b : Int)
  | _, _ => false
theorem bel_tx {k k' : Kd} (hk : okKd l k) (hk' : okKd l k') : belB l (txK l k) (txK l k') = belK l k k' := by
  unfold belB belK
  by_cases h : k = k'
  · subst h
    rw [if_pos rfl, if_pos rfl, is_tx g p hk]
  · rw [if_neg (fun e => h (tx_inj g p hk hk' e)), if_neg h]
    by_cases h0 : k = .null
    · rw [if_pos ((null_tx g p hk).2 h0), if_pos h0, ref_tx g p hk']
    · rw [if_neg (fun e => h0 ((null_tx g p hk).1 e)), if_neg h0, cl_tx g p hk, cl_tx g p hk']
      cases k <;> cases k' <;> rfl
omit p in
theorem up_cl {a b : Nat} : hasB (abvL (esL l) [(a : Int)]) (b : Int) = true ↔ Up (esL l) a b := abv_up (by have := g.ok.n; omega) a b
/-- Two that stand for each other are one. -/
theorem bel_anti {k k' : Kd} (h : belK l k k' = true) (h' : belK l k' k = true) : k = k' := by
  refine Classical.byContradiction fun hn => ?_
  unfold belK at h h'
  rw [if_neg hn] at h
  rw [if_neg (fun e => hn e.symm)] at h'
  cases k <;> cases k' <;> simp_all
  rename_i a b
  have h1 := (up_cl g).1 h
  have h2 := (up_cl g).1 h'
  rcases (up_ab1.1 h1).2 with e | e
  · exact hn e.symm
  · obtain ⟨j, hj, hu⟩ := e
    exact g.acy a ⟨h1.start.1, j, hj, Ua.trans hu h2⟩
theorem bel_trans {a b c : Kd} (h : belK l a b = true) (h' : belK l b c = true) : belK l a c = true := by
  by_cases e1 : a = b
  · rw [e1]; exact h'
  by_cases e2 : b = c
  · rw [← e2]; exact h
  by_cases e3 : a = c
  · unfold belK; rw [if_pos e3]
  unfold belK at h h' ⊢
  rw [if_neg e1] at h
  rw [if_neg e2] at h'
  rw [if_neg e3]
  cases a <;> cases b <;> cases c <;> simp_all
  exact (up_cl g).2 (Ua.trans ((up_cl g).1 h) ((up_cl g).1 h'))
end
/-- Arrays stand for themselves alone, and null for each of them. -/
theorem bel_arr {l : List K8} {a b : Kd} (h : (isAr a || isAr b) = true) : belK l a b = (decide (a = b) || (isAr b && decide (a = .null))) := by
  unfold belK
  by_cases e : a = b
  · rw [if_pos e]; simp [e]
  · rw [if_neg e]
    cases a <;> cases b <;> simp_all [isAr]
end Go.Proofs.YtbocejiclellfaaGreatDoor
