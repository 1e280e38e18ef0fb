import Derived.Test.YtjnphoeifonenaaDoorQ07Hpc
import Derived.Test.YtjnphoeifonenaaDoorQ02Tbl
import Derived.Test.YtjnphoeifonenaaDoorQ06Flt

/- Order, plain. -/
set_option linter.unusedSimpArgs false
set_option linter.unusedVariables false
set_option maxRecDepth 100000
namespace Go.Proofs.YtjnphoeifonenaaDoor
open Go.RowKit

theorem swL_perm {h : List Int} {i j : Nat} (hi : i < h.length) (hj : j < h.length) : (swL h i j).Perm h := by
  have k := Array.swap_perm (xs := h.toArray) (i := i) (j := j) (by simpa using hi) (by simpa using hj)
  have e : (h.toArray.swap i j (by simpa using hi) (by simpa using hj)).toList = swL h i j := by
    unfold swL
    rw [List.getElem?_eq_getElem hi, List.getElem?_eq_getElem hj]
    simp [Array.swap]
  rw [← e]
  exact k.toList
theorem upF_perm : ∀ (f : Nat) (h : List Int) (j : Nat), j < h.length → (upF f h j).Perm h
  | 0, h, j, _ => List.Perm.refl _
  | f + 1, h, j, hj => by
    unfold upF
    split
    · exact List.Perm.refl _
    · split
      · have hp : (j - 1) / 2 < h.length := by omega
        exact (upF_perm f _ _ (by rw [swL_len]; exact hp)).trans (swL_perm hp hj)
      · exact List.Perm.refl _
theorem pushL_perm (h : List Int) (x : Int) : (pushL h x).Perm (h ++ [x]) := upF_perm _ _ _ (by simp)
theorem downF_perm : ∀ (f : Nat) (h : List Int) (i m : Nat), m ≤ h.length → (downF f h i m).Perm h
  | 0, h, i, m, _ => List.Perm.refl _
  | f + 1, h, i, m, hm => by
    unfold downF
    split
    · exact List.Perm.refl _
    · rename_i hc
      split
      · have := chJ_le h i m (by omega)
        exact (downF_perm f _ _ _ (by rw [swL_len]; exact hm)).trans (swL_perm (by omega) (by omega))
      · exact List.Perm.refl _
theorem popL_spec {h : List Int} {x : Int} (hx : h[0]? = some x) : downF (h.length - 1) (swL h 0 (h.length - 1)) 0 (h.length - 1) = popL h ++ [x] := by
  have hpos : 0 < h.length := (List.getElem?_eq_some_iff.1 hx).1
  obtain ⟨L, hL⟩ : ∃ L, h.length - 1 = L := ⟨_, rfl⟩
  obtain ⟨y, hy⟩ := at_lt (show L < h.length by omega)
  have hlen : (downF L (swL h 0 L) 0 L).length = h.length := by rw [downF_len, swL_len]
  have hat : (downF L (swL h 0 L) 0 L)[L]? = some x := by
    rw [downF_at _ _ _ _ _ (Nat.le_refl _)]
    unfold swL
    rw [hx, hy]
    simp only [Option.getD_some]
    have h1 : L < (h.set 0 y).length := by rw [List.length_set]; omega
    rw [List.getElem?_set_self h1]
  have h1 := take_snoc hat
  rw [List.take_of_length_le (by omega)] at h1
  unfold popL
  rw [hL, h1, List.dropLast_concat]
theorem popL_perm {h : List Int} {x : Int} (hx : h[0]? = some x) : (popL h ++ [x]).Perm h := by
  have hpos : 0 < h.length := (List.getElem?_eq_some_iff.1 hx).1
  rw [← popL_spec hx]
  exact (downF_perm _ _ _ _ (by rw [swL_len]; omega)).trans (swL_perm hpos (by omega))
theorem pushL_len (h : List Int) (x : Int) : (pushL h x).length = h.length + 1 := by
  rw [(pushL_perm h x).length_eq]
  simp
theorem popL_len {h : List Int} {x : Int} (hx : h[0]? = some x) : (popL h).length + 1 = h.length := by
  have := (popL_perm hx).length_eq
  simpa using this

/-- Behind k numbers: how many right above each, and which of them wait for none. -/
def ordI (Es : List En) : Nat → List Int × List Int
  | 0 => (List.replicate Es.length 0, [])
  | k + 1 => ((ordI Es k).1.set k ((nxE Es k).length : Int), if (nxE Es k).length = 0 then pushL (ordI Es k).2 (k : Int) else (ordI Es k).2)
theorem ordI_len (Es : List En) : ∀ k, (ordI Es k).1.length = Es.length ∧ (ordI Es k).2.length ≤ k
  | 0 => by simp [ordI]
  | k + 1 => by
    have h := ordI_len Es k
    unfold ordI
    refine ⟨by simpa using h.1, ?_⟩
    simp only
    split
    · rw [pushL_len]; omega
    · omega
/-- Those right below one have one less to wait for. -/
def dec1 (ws h : List Int) (u : Int) : List Int × List Int := (ws.set u.toNat (ws[u.toNat]?.getD 0 - 1), if ws[u.toNat]?.getD 0 - 1 = 0 then pushL h u else h)
def decF : List Int → List Int → List Int → List Int × List Int
  | [], ws, h => (ws, h)
  | u :: us, ws, h => decF us (dec1 ws h u).1 (dec1 ws h u).2
def mainF (Es : List En) : Nat → List Int → List Int → List Int → List Int
  | 0, _, _, o => o
  | f + 1, ws, h, o => match h[0]? with
    | none => o
    | some x => mainF Es f (decF ((belowL Es)[x.toNat]?.getD []) ws (popL h)).1 (decF ((belowL Es)[x.toNat]?.getD []) ws (popL h)).2 (o ++ [x])
/-- What Order answers. -/
def ordL (Es : List En) : List Int := mainF Es (Es.length + 1) (ordI Es Es.length).1 (ordI Es Es.length).2 []
/-- What holds of those that may come next, and those that have come. -/
structure OI (n D : Nat) (ws h o : List Int) : Prop where
  len : ws.length = n
  nd : (h ++ o).Nodup
  lo : ∀ y ∈ h ++ o, 0 ≤ y ∧ y < (n : Int) ∧ ws[y.toNat]?.getD 0 ≤ 0
  wb : ∀ (i : Nat) (c : Int), ws[i]? = some c → -(D : Int) ≤ c ∧ c ≤ 1000
theorem OI.le {n D : Nat} {ws h o : List Int} (k : OI n D ws h o) : h.length + o.length ≤ n := by
  have := nodup_le n (h ++ o) k.nd (fun i hi => ⟨(k.lo i hi).1, (k.lo i hi).2.1⟩)
  simpa using this
theorem OI.pop {n D : Nat} {ws h o : List Int} {x : Int} (k : OI n D ws h o) (hx : h[0]? = some x) : OI n D ws (popL h) (o ++ [x]) := by
  have hp : (popL h ++ (o ++ [x])).Perm (h ++ o) := by
    refine List.Perm.trans ?_ ((popL_perm hx).append_right o)
    rw [List.append_assoc]
    exact List.Perm.append_left _ List.perm_append_comm
  exact ⟨k.len, hp.nodup_iff.2 k.nd, fun y hy => k.lo y (hp.mem_iff.1 hy), k.wb⟩
theorem OI.dec {n D : Nat} {ws h o : List Int} {u : Int} (k : OI n D ws h o) (h0 : 0 ≤ u) (hu : u < (n : Int)) : OI n (D + 1) (dec1 ws h u).1 (dec1 ws h u).2 o := by
  obtain ⟨j, rfl⟩ := Int.eq_ofNat_of_zero_le h0
  have hj : j < ws.length := by rw [k.len]; omega
  obtain ⟨c, hc⟩ := at_lt hj
  have hcb := k.wb j c hc
  unfold dec1
  simp only [Int.toNat_natCast, hc, Option.getD_some]
  have hset : ∀ y : Int, 0 ≤ y → (ws.set j (c - 1))[y.toNat]?.getD 0 = if y = (j : Int) then c - 1 else ws[y.toNat]?.getD 0 := fun y hy => by
    by_cases e : y = (j : Int)
    · subst e
      rw [if_pos rfl, Int.toNat_natCast, List.getElem?_set_self hj]
      rfl
    · rw [if_neg e, List.getElem?_set_ne (by omega)]
  have hwb : ∀ (i : Nat) (d : Int), (ws.set j (c - 1))[i]? = some d → -((D + 1 : Nat) : Int) ≤ d ∧ d ≤ 1000 := fun i d hd => by
    by_cases e : i = j
    · subst e
      rw [List.getElem?_set_self hj] at hd
      injection hd with hd
      omega
    · rw [List.getElem?_set_ne (by omega)] at hd
      have := k.wb i d hd
      omega
  have hlo : ∀ y ∈ h ++ o, 0 ≤ y ∧ y < (n : Int) ∧ (ws.set j (c - 1))[y.toNat]?.getD 0 ≤ 0 := fun y hy => by
    have := k.lo y hy
    refine ⟨this.1, this.2.1, ?_⟩
    rw [hset y this.1]
    split
    · rename_i e
      have h2 := this.2.2
      rw [e, Int.toNat_natCast, hc] at h2
      simp at h2
      omega
    · exact this.2.2
  by_cases hz : c - 1 = 0
  · rw [if_pos hz]
    have hni : (j : Int) ∉ h ++ o := fun hm => by
      have := (k.lo _ hm).2.2
      rw [Int.toNat_natCast, hc] at this
      simp at this
      omega
    have hp : (pushL h (j : Int) ++ o).Perm ((j : Int) :: (h ++ o)) := by
      refine List.Perm.trans ((pushL_perm h _).append_right o) ?_
      rw [List.append_assoc]
      exact List.perm_middle
    refine ⟨by rw [List.length_set]; exact k.len, hp.nodup_iff.2 (List.nodup_cons.2 ⟨hni, k.nd⟩), fun y hy => ?_, hwb⟩
    rcases List.mem_cons.1 (hp.mem_iff.1 hy) with rfl | hy
    · refine ⟨by omega, hu, ?_⟩
      rw [hset _ (by omega), if_pos rfl]
      omega
    · exact hlo y hy
  · rw [if_neg hz]
    exact ⟨by rw [List.length_set]; exact k.len, k.nd, hlo, hwb⟩
theorem ordI_ok {Es : List En} (hok : EsOk Es) : ∀ k, k ≤ Es.length → (∀ y ∈ (ordI Es k).2, 0 ≤ y ∧ y < (k : Int) ∧ (ordI Es k).1[y.toNat]?.getD 0 ≤ 0) ∧ (ordI Es k).2.Nodup ∧ (∀ (i : Nat) (c : Int), (ordI Es k).1[i]? = some c → 0 ≤ c ∧ c ≤ 1000)
  | 0, _ => by
    refine ⟨by simp [ordI], by simp [ordI], fun i c hc => ?_⟩
    have := List.eq_of_mem_replicate (List.mem_of_getElem? hc)
    omega
  | k + 1, hk => by
    obtain ⟨h1, h2, h3⟩ := ordI_ok hok k (by omega)
    have hl := (ordI_len Es k).1
    have hset : ∀ (y : Int), 0 ≤ y → y < (k : Int) → ((ordI Es k).1.set k ((nxE Es k).length : Int))[y.toNat]?.getD 0 = (ordI Es k).1[y.toNat]?.getD 0 := fun y hy hyk => by rw [List.getElem?_set_ne (by omega)]
    have hs3 : ∀ (i : Nat) (c : Int), ((ordI Es k).1.set k ((nxE Es k).length : Int))[i]? = some c → 0 ≤ c ∧ c ≤ 1000 := fun i c hc => by
      by_cases e : i = k
      · subst e
        rw [List.getElem?_set_self (by omega)] at hc
        injection hc with hc
        have := hok.few i
        omega
      · rw [List.getElem?_set_ne (by omega)] at hc
        exact h3 i c hc
    unfold ordI
    simp only
    by_cases hz : (nxE Es k).length = 0
    · rw [if_pos hz]
      have hp : (pushL (ordI Es k).2 (k : Int)).Perm ((k : Int) :: (ordI Es k).2) := (pushL_perm _ _).trans List.perm_append_comm
      refine ⟨fun y hy => ?_, hp.nodup_iff.2 (List.nodup_cons.2 ⟨fun hm => by have := (h1 _ hm).2.1; omega, h2⟩), hs3⟩
      rcases List.mem_cons.1 (hp.mem_iff.1 hy) with rfl | hy
      · refine ⟨by omega, by omega, ?_⟩
        rw [Int.toNat_natCast, List.getElem?_set_self (by omega), hz]
        simp
      · have := h1 y hy
        exact ⟨this.1, by omega, by rw [hset y this.1 this.2.1]; exact this.2.2⟩
    · rw [if_neg hz]
      refine ⟨fun y hy => ?_, h2, hs3⟩
      have := h1 y hy
      exact ⟨this.1, by omega, by rw [hset y this.1 this.2.1]; exact this.2.2⟩
theorem ordI_OI {Es : List En} (hok : EsOk Es) : OI Es.length 0 (ordI Es Es.length).1 (ordI Es Es.length).2 [] := by
  obtain ⟨h1, h2, h3⟩ := ordI_ok hok Es.length (Nat.le_refl _)
  exact ⟨(ordI_len Es _).1, by simpa using h2, fun y hy => h1 y (by simpa using hy), fun i c hc => by have := h3 i c hc; omega⟩
theorem decF_OI {n : Nat} {o : List Int} : ∀ (us : List Int) {D : Nat} {ws h : List Int}, OI n D ws h o → (∀ u ∈ us, 0 ≤ u ∧ u < (n : Int)) → OI n (D + us.length) (decF us ws h).1 (decF us ws h).2 o
  | [], D, ws, h, k, _ => k
  | u :: us, D, ws, h, k, hu => by
    unfold decF
    have := decF_OI us (k.dec (hu u (by simp)).1 (hu u (by simp)).2) (fun v hv => hu v (by simp [hv]))
    rw [List.length_cons, show D + (us.length + 1) = D + 1 + us.length by omega]
    exact this
end Go.Proofs.YtjnphoeifonenaaDoor

/- Order. -/
set_option linter.unusedSimpArgs false
set_option linter.unusedVariables false
set_option maxRecDepth 100000
namespace Go.Proofs.YtjnphoeifonenaaDoor
open Go.RowKit
attribute [local go_sem] fldE0 fldE1 fldE2 fldE3

theorem OwnI.base {w : World} {B : Nat} {v : Value} {l : List Int} (h : OwnI w 0 v l) (hb : ∀ g, v.ownBlock = some g → B ≤ g) : OwnI w B v l := by
  obtain ⟨h1, h2⟩ := h
  refine ⟨h1, ?_⟩
  rcases h2 with h2 | ⟨g, cap, cur, e, _, h3⟩
  · exact .inl h2
  · exact .inr ⟨g, cap, cur, e, hb g (by rw [show v = _ from e]; rfl), h3⟩
/-- What waits, and what may come next, in memory. -/
structure Ow (w1 wr : World) (gw rb n : Nat) (V : Value) (ws h : List Int) : Prop where
  tr : Turn [] w1 wr
  wt : OwnI wr 0 (.slice (some ⟨gw, 0, none⟩) n n) ws
  hp : Hp wr rb V h
  g1 : w1.heap.size ≤ gw
  g2 : gw < rb
theorem Ow.keep {w1 wr w' : World} {gw rb n : Nat} {V : Value} {ws h : List Int} (k : Ow w1 wr gw rb n V ws h) (t : Turn [] wr w') : Ow w1 w' gw rb n V ws h := ⟨k.tr.trans' t, k.wt.turn' t, k.hp.turn' t, k.g1, k.g2⟩
theorem Ow.setW {w1 wr : World} {gw rb n : Nat} {V : Value} {ws h : List Int} (k : Ow w1 wr gw rb n V ws h) (hn : n = ws.length) (j : Nat) (y : Int) :
    Ow w1 (wr.setCell ⟨gw, j, none⟩ (.int .i64 y)) gw rb n V (ws.set j y) h ∧ Turn [gw] wr (wr.setCell ⟨gw, j, none⟩ (.int .i64 y)) := by
  have tS : Turn [gw] wr (wr.setCell ⟨gw, j, none⟩ (.int .i64 y)) := (Turn.refl [gw] wr).setCell (.inl (by simp)) _
  have h2 := k.g2
  have h1 := k.g1
  exact ⟨⟨k.tr.trans tS (fun g hg => .inr (by simp at hg; omega)), k.wt.putAt hn, k.hp.turn tS (by simp; omega) (fun g hg hh => by have := k.hp.ap g hg; simp at hh; omega), k.g1, k.g2⟩, tS⟩
theorem Ow.heap {w1 wr w' : World} {gw rb n : Nat} {V V' : Value} {ws h h' : List Int} (k : Ow w1 wr gw rb n V ws h) (a : HpO wr w' rb V V' h') : Ow w1 w' gw rb n V' ws h' := by
  have h2 := k.g2
  have h1 := k.g1
  have hF : ∀ g ∈ rb :: V.ownBlock.toList, rb ≤ g := fun g hg => by
    rcases List.mem_cons.1 hg with rfl | hg
    · exact Nat.le_refl _
    · have := k.hp.ap g (by simpa using hg); omega
  exact ⟨k.tr.trans a.tr (fun g hg => .inr (by have := hF g hg; omega)), k.wt.turn a.tr (fun g hg hh => by
    have e : gw = g := by injection hg
    have := hF g hh
    omega), a.hp, k.g1, k.g2⟩
/-- The order so far, too. -/
structure Om (w1 wr : World) (gw rb n : Nat) (V Vo : Value) (ws h o : List Int) : Prop where
  ow : Ow w1 wr gw rb n V ws h
  od : OwnI wr 0 Vo o
  oa : ∀ g, Vo.ownBlock = some g → rb < g ∧ V.ownBlock ≠ some g
theorem Om.keep {w1 wr w' : World} {gw rb n : Nat} {V Vo : Value} {ws h o : List Int} (k : Om w1 wr gw rb n V Vo ws h o) (t : Turn [] wr w') : Om w1 w' gw rb n V Vo ws h o := ⟨k.ow.keep t, k.od.turn' t, k.oa⟩
theorem Om.setW {w1 wr : World} {gw rb n : Nat} {V Vo : Value} {ws h o : List Int} (k : Om w1 wr gw rb n V Vo ws h o) (hn : n = ws.length) (j : Nat) (y : Int) :
    Om w1 (wr.setCell ⟨gw, j, none⟩ (.int .i64 y)) gw rb n V Vo (ws.set j y) h o := by
  obtain ⟨h1, tS⟩ := k.ow.setW hn j y
  have h2 := k.ow.g2
  exact ⟨h1, k.od.turn tS (fun g hg hh => by have := (k.oa g hg).1; simp at hh; omega), k.oa⟩
theorem Om.heap {w1 wr w' : World} {gw rb n : Nat} {V V' Vo : Value} {ws h h' o : List Int} (k : Om w1 wr gw rb n V Vo ws h o) (a : HpO wr w' rb V V' h') : Om w1 w' gw rb n V' Vo ws h' o := by
  refine ⟨k.ow.heap a, k.od.turn a.tr (fun g hg hh => ?_), fun g hg => ⟨(k.oa g hg).1, fun hv => ?_⟩⟩
  · rcases List.mem_cons.1 hh with rfl | hh
    · have := (k.oa g hg).1; omega
    · exact (k.oa g hg).2 (by simpa using hh)
  · rcases a.mv with m | ⟨g', m1, m2⟩
    · rw [m] at hv; exact (k.oa g hg).2 hv
    · rw [m1] at hv
      injection hv with hv
      have := (k.od.lt g hg).2
      omega
theorem Om.app {w1 wr w' : World} {gw rb n : Nat} {V Vo Vo' : Value} {ws h o o' : List Int} (k : Om w1 wr gw rb n V Vo ws h o) (ho : OwnI w' 0 Vo' o') (t : Turn Vo.ownBlock.toList wr w') (m : Vo'.ownBlock = Vo.ownBlock ∨ ∃ g, Vo'.ownBlock = some g ∧ wr.heap.size ≤ g) : Om w1 w' gw rb n V Vo' ws h o' := by
  have h2 := k.ow.g2
  have h1 := k.ow.g1
  have hF : ∀ g ∈ Vo.ownBlock.toList, rb < g ∧ V.ownBlock ≠ some g := fun g hg => k.oa g (by simpa using hg)
  have hrb : rb < wr.heap.size := (Array.getElem?_eq_some_iff.1 k.ow.hp.blk).1
  refine ⟨⟨k.ow.tr.trans t (fun g hg => .inr (by have := (hF g hg).1; omega)), k.ow.wt.turn t (fun g hg hh => ?_), k.ow.hp.turn t (fun hh => by have := (hF _ hh).1; omega) (fun g hg hh => (hF g hh).2 hg), k.ow.g1, k.ow.g2⟩, ho, fun g hg => ?_⟩
  · have e : gw = g := by injection hg
    have := (hF g hh).1
    omega
  · rcases m with m | ⟨g', m1, m2⟩
    · rw [m] at hg; exact k.oa g hg
    · rw [m1] at hg
      injection hg with hg
      subst hg
      refine ⟨by omega, fun hv => ?_⟩
      have := (k.ow.hp.own.lt g' hv).2
      omega
def lenV : Value → Nat
  | .slice _ n _ => n
  | _ => 0
theorem dle0 {D a : Nat} (h : D ≤ a) : D ≤ a + 0 := h
theorem zbd {D a q m : Nat} {z : Int} (h1 : -(D : Int) ≤ z ∧ z ≤ 1000) (h2 : D ≤ a * 1000000 + q) (h3 : a ≤ 1000) (h4 : q < m) (h5 : m ≤ 1000000) : IntKind.i64.wrap (z - 1) = z - 1 := by rw [IntKind.wrap_i64]; omega
/-- How it stands in the main loop. -/
def Rm (Es : List En) (w1 wr : World) (gw rb n : Nat) (Vo : Value) : Prop :=
  ∃ V ws h o f D, Om w1 wr gw rb n V Vo ws h o ∧ OI n D ws h o ∧ n + 1 ≤ o.length + f ∧ mainF Es f ws h o = ordL Es ∧ D ≤ o.length * 1000000

set_option maxHeartbeats 25600000 in
theorem order_any {A : Nat → Prop} {t : Nat} {M V : Value} {Es : List En} {w : World} (h : Tl w A t M V Es) (hok : EsOk Es) :
    Calls Tryd.prog 14 #[.pointer (some ⟨t, 0, none⟩)] w fun e w' => ∃ U, e = .returned U ∧ OwnI w' w.heap.size U (ordL Es) ∧ Turn [] w w' := by
  obtain ⟨r, hr⟩ : ∃ r, w.heap.size = r := ⟨_, rfl⟩
  obtain ⟨n, hn⟩ : ∃ n, Es.length = n := ⟨_, rfl⟩
  have hn1 : n ≤ 1000 := by rw [← hn]; exact hok.n
  have HE : Hid (∀ W (i : Int), Turn [] w W → Calls Tryd.prog 33 #[.pointer (some ⟨t, 0, none⟩), .int .i64 i] W fun e w' => ∃ U, e = .returned (.agg #[.string (enAt Es i).nm, .bool (enAt Es i).face, .int .i64 (enAt Es i).sup, U]) ∧ RdV 1 RdN (fun g => A g ∧ g < r) w' U (enAt Es i).rt ∧ Turn [] W w') := Lib.hid fun W i k => entry_any8 ((Tl.below h hr).turn' k) i
  have HL : Hid (∀ W, Turn [] w W → Calls Tryd.prog 12 #[.pointer (some ⟨t, 0, none⟩)] W fun e w' => e = .returned (.int .i64 (n : Int)) ∧ W = w') := Lib.hid fun W k => by rw [← hn]; exact len_any8 (h.turn' k)
  have HB := Lib.hid (below_any h hok)
  have HN := Lib.hid hn
  have HRR := Lib.hid hr
  have HOK := Lib.hid hok
  clear h hok hn hr
  go_enter Tryd.func14, Tryd.ntmps14
  go_wp2_with fail
  refine HB.out.mono ?_
  rintro e w1 ⟨U, xs, rfl, hU, t1⟩
  obtain ⟨A0, c0, rfl, hrw⟩ := hU.form
  rw [belowL_len, HN.out]
  obtain ⟨gw, hgw⟩ : ∃ g, w1.heap.size = g := ⟨_, rfl⟩
  obtain ⟨W2, hW2⟩ : ∃ W, w1.alloc (.cells (madeCells #[.int .i64 0] n) 3) = W := ⟨_, rfl⟩
  have t2 : Turn [] w1 W2 := by rw [← hW2]; exact (Turn.refl [] w1).alloc _
  have s2 : W2.heap.size = gw + 1 := by rw [← hW2, ← hgw]; simp
  have hz : OwnI W2 0 (.slice (some ⟨gw, 0, none⟩) n n) (List.replicate n 0) := by
    have := OwnI.zeros w1 0 n (by omega) (by omega)
    rw [Nat.mul_one, hgw, hW2] at this
    exact this
  obtain ⟨W3, hW3⟩ : ∃ W, W2.alloc (.cells #[.slice none 0 0] 80) = W := ⟨_, rfl⟩
  have t3 : Turn [] W2 W3 := by rw [← hW3]; exact (Turn.refl [] W2).alloc _
  have b3 : W3.heap[gw + 1]? = some (.cells #[.slice none 0 0] 80 (0, 0)) := by rw [← hW3, ← s2]; exact heap_alloc_new W2 _
  have hOw : Ow w1 W3 gw (gw + 1) n (.slice none 0 0) (List.replicate n 0) [] := ⟨t2.trans' t3, hz.turn' t3, ⟨b3, OwnI.nil _ _, fun g hg => by cases hg⟩, by omega, by omega⟩
  have HT1 := Lib.hid t1
  have HRW := Lib.hid hrw
  have HGW := Lib.hid hgw
  have HW2 := Lib.hid hW2
  have HW3 := Lib.hid hW3
  have HS2 := Lib.hid s2
  have HOw := Lib.hid hOw
  have HL1 := Lib.hid (HL.out w1 t1)
  have hmk := fun W : World => make_ints n (by omega) W
  simp only [Nat.mul_one] at hmk
  clear hU t1 hrw hgw hW2 hW3 s2 hOw t2 t3 hz b3 HB
  go_wp2_with fail
  refine HL1.out.mono ?_
  rintro e w2 ⟨rfl, rfl⟩
  go_wp2_with fail
  rw [HGW.out, HW2.out, HW3.out]
  go_loopw [20] (fun v20 wr => ∃ k : Nat, k ≤ n ∧ v20 = .int .i64 (k : Int) ∧ Hid (∃ V, Ow w1 wr gw (gw + 1) n V (ordI Es k).1 (ordI Es k).2)) (fun v20 _ => n - (intOf v20).toNat)
  case atStart => exact ⟨0, Nat.zero_le _, rfl, Lib.hid ⟨_, by unfold ordI; rw [HN.out]; exact HOw.out⟩⟩
  case round =>
    obtain ⟨k, hk, rfl, HK⟩ := hrel
    by_cases hlt : k < n
    · have d1 : decide ((k : Int) < (n : Int)) = true := by simp; omega
      have d2 : (k : Int) < (n : Int) := by omega
      obtain ⟨V0, hO⟩ := HK.out
      have HCe := Lib.hid (HE.out wr (k : Int) (HT1.out.trans' hO.tr))
      obtain ⟨y, hy⟩ : ∃ y, enAt Es (k : Int) = y := ⟨_, rfl⟩
      have hrt : nxE Es k = y.rt := by unfold nxE; rw [hy]
      rw [hy] at HCe
      obtain ⟨nm, face, sup, rt⟩ := y
      simp only at HCe hrt
      have HO := Lib.hid hO
      have HRT := Lib.hid hrt
      clear hO hrt HK hy
      go_wp2_with fail
      refine HCe.out.mono ?_
      rintro e w4 ⟨U4, rfl, hU4, t4⟩
      obtain ⟨P4, c4, rfl, hc4, _⟩ := hU4
      obtain ⟨L, hL⟩ : ∃ L, rt.length = L := ⟨_, rfl⟩
      have hO4 := HO.out.keep t4
      have hwl := (ordI_len Es k).1
      rw [HN.out] at hwl
      obtain ⟨g', c', e', _, hg', _, hcell, hfr⟩ := hO4.wt.slot (by omega)
      have eg : gw = g' := by injection e' with e1 _ _; injection e1 with e1; injection e1
      subst eg
      obtain ⟨z, hz⟩ := at_lt (show k < (ordI Es k).1.length by omega)
      have k4 := hcell k z hz
      have kf4 := hfr k
      obtain ⟨hO5, t5⟩ := hO4.setW hwl.symm k (L : Int)
      have hsuc : ordI Es (k + 1) = ((ordI Es k).1.set k (L : Int), if L = 0 then pushL (ordI Es k).2 (k : Int) else (ordI Es k).2) := by
        rw [ordI, HRT.out, hL]
      have HX := Lib.hid (And.intro hO5 (And.intro t5 hsuc))
      rw [hL] at hc4 ⊢
      clear hO4 hwl hcell hfr hz hO5 t5 hsuc hL t4 HCe e' hg'
      by_cases hz0 : L = 0
      · have e1 : decide ((L : Int) = 0) = true := by simp; omega
        have e3 : ((L : Int) == 0) = true := by simp; omega
        have HZ := Lib.hid hz0
        have HP := Lib.hid (hpush_any HX.out.1.hp (k : Int) (by have := (ordI_len Es k).2; omega))
        clear hz0
        go_wp2_with fail
        refine HP.out.mono ?_
        rintro e w6 ⟨rfl, V6, hO6⟩
        have HN1 : Hid (∃ V, Ow w1 w6 gw (gw + 1) n V (ordI Es (k + 1)).1 (ordI Es (k + 1)).2) := by
          rw [HX.out.2.2, if_pos HZ.out]
          exact Lib.hid ⟨V6, HX.out.1.heap hO6⟩
        clear hO6 HP HX
        go_wp2_with fail
        go_roundw
        case rel => exact ⟨k + 1, by omega, by go_num, HN1⟩
        case measure => simp [intOf]; omega
      · have e1 : decide ((L : Int) = 0) = false := by simp; omega
        have e2 : ¬ ((L : Int) = 0) := by omega
        have e3 : ((L : Int) == 0) = false := by simp; omega
        have HZ := Lib.hid hz0
        clear hz0
        go_wp2_with fail
        have HN1 : Hid (∃ V, Ow w1 (w4.setCell ⟨gw, k, none⟩ (.int .i64 (L : Int))) gw (gw + 1) n V (ordI Es (k + 1)).1 (ordI Es (k + 1)).2) := by
          rw [HX.out.2.2, if_neg HZ.out]
          exact Lib.hid ⟨_, HX.out.1⟩
        clear HX
        go_roundw
        case rel => exact ⟨k + 1, by omega, by go_num, HN1⟩
        case measure => simp [intOf]; omega
    · obtain rfl : k = n := by omega
      have d1 : decide ((k : Int) < (k : Int)) = false := by simp
      obtain ⟨V0, hO⟩ := HK.out
      have HL2 := Lib.hid (HL.out wr (HT1.out.trans' hO.tr))
      have hmk2 : ∀ W : World, (Instr.makeSlice 40 (.int .i64 0) (.int .i64 (k : Int))).run Tryd.prog W = .ok (.slice (some ⟨W.heap.size, 0, none⟩) 0 k) (W.alloc (.cells (madeCells #[.int .i64 0] k) 3)) := fun W => by
        obtain ⟨i0, hi0, hz0, hz1, hz2⟩ := info_parts int_info
        have := run_make (P := Tryd.prog) W 40 3 i0 _ Tryd.underlying40 hi0 hz0 .i64 .i64 0 (k : Int) (by omega) (by omega) (by rw [hz2]; omega) (by omega)
        rw [hz1] at this
        simp at this
        exact this
      have HO := Lib.hid hO
      clear hO HK hmk
      go_wp2_with fail
      refine HL2.out.mono ?_
      rintro e w2 ⟨rfl, rfl⟩
      go_wp2_with fail
      have HS0 : Hid (Rm Es w1 (wr.alloc (.cells (madeCells #[.int .i64 0] k) 3)) gw (gw + 1) k (.slice (some ⟨wr.heap.size, 0, none⟩) 0 k)) := by
        have hO := HO.out
        have tA : Turn [] wr (wr.alloc (.cells (madeCells #[.int .i64 0] k) 3)) := (Turn.refl [] wr).alloc _
        have hrb := (Array.getElem?_eq_some_iff.1 hO.hp.blk).1
        have hOI := ordI_OI HOK.out
        rw [HN.out] at hOI
        refine Lib.hid ⟨V0, _, _, [], k + 1, 0, ⟨hO.keep tA, ?_, fun g hg => ?_⟩, hOI, by simp, by unfold ordL; rw [HN.out], by simp⟩
        · exact World.ownsRow_made wr _ k (Nat.zero_le _) (by simp only [maxLen]; omega) (by simp [size_madeCells])
        · have e : wr.heap.size = g := by injection hg
          refine ⟨by omega, fun hv => ?_⟩
          have := (hO.hp.own.lt g hv).2
          omega
      clear HO hmk2 HL2
      obtain ⟨W9, hW9⟩ : ∃ W, wr.alloc (.cells (madeCells #[.int .i64 0] k) 3) = W := ⟨_, rfl⟩
      rw [hW9] at HS0 ⊢
      clear hW9
      go_loopw [7] (fun v7 wr => Hid (Rm Es w1 wr gw (gw + 1) k v7)) (fun v7 _ => k - lenV v7)
      case atStart => exact HS0
      case round =>
        have HK := hrel
        clear hrel HS0
        obtain ⟨Wr, hWr⟩ : ∃ q, q = wr := ⟨_, rfl⟩
        obtain ⟨V, ws, h, o, f, D, hO, hI, hf, hm, hD⟩ := HK.out
        obtain ⟨AV, cV, hV, hcV⟩ := hO.ow.hp.form
        obtain ⟨N, hNN⟩ : ∃ N, h.length = N := ⟨_, rfl⟩
        have hle := hI.le
        obtain ⟨Ao, co, hVo, _, _⟩ := hO.od.form
        obtain ⟨no, hno⟩ : ∃ no, o.length = no := ⟨_, rfl⟩
        rw [hNN] at hV hcV hle
        rw [hno] at hVo
        subst hV
        have cr : wr.cell? ⟨gw + 1, 0, none⟩ = some (.slice AV N cV) := cell_of_row wr (gw + 1) 0 _ _ _ hO.ow.hp.blk
        have HSl := Lib.hid (fun W => slen_any AV N cV W (by omega))
        by_cases hz : N = 0
        · subst hz
          have hh : h = [] := List.eq_nil_of_length_eq_zero (by omega)
          have hoo : o = ordL Es := by
            rw [← hm, hh]
            cases f <;> rfl
          have HX := Lib.hid (And.intro hO (And.intro hoo hVo))
          subst hVo
          clear hO hI hf hm hD hNN hle hh hoo HK hcV
          go_wp2_with fail
          refine (HSl.out _).mono ?_
          rintro e w2 ⟨rfl, rfl⟩
          go_wp2_with fail
          go_ret
          refine ⟨_, rfl, ?_, HT1.out.trans' HX.out.1.ow.tr⟩
          have hod := HX.out.1.od
          rw [HX.out.2.1] at hod
          have hs1 := HT1.out.size
          have hg1 := HX.out.1.ow.g1
          exact hod.base (fun g hg => by have := (HX.out.1.oa g hg).1; have := HRR.out; omega)
        · have e1 : decide ((0 : Int) < (N : Int)) = true := by simp; omega
          have e2 : (0 : Int) < (N : Int) := by omega
          obtain ⟨x, hx⟩ := at_lt (show 0 < h.length by omega)
          have hxm : x ∈ h ++ o := List.mem_append_left _ (List.mem_of_getElem? hx)
          obtain ⟨x0, x1, _⟩ := hI.lo x hxm
          obtain ⟨xn, rfl⟩ := Int.eq_ofNat_of_zero_le x0
          have hIp := hI.pop hx
          have hlep := hIp.le
          have HP := Lib.hid (hpop_any hO.ow.hp hx (by omega))
          obtain ⟨f', hf'⟩ : ∃ f', f = f' + 1 := ⟨f - 1, by omega⟩
          have hstep : mainF Es f' (decF ((belowL Es)[xn]?.getD []) ws (popL h)).1 (decF ((belowL Es)[xn]?.getD []) ws (popL h)).2 (o ++ [(xn : Int)]) = ordL Es := by
            rw [← hm, hf', mainF, hx]
            rfl
          have hta := fun W => ta_int (xn : Int) W
          have hxk : xn < k := by omega
          have hxk2 : (xn : Int) < (k : Int) := by omega
          obtain ⟨lb, hlb⟩ := at_lt (show xn < (belowL Es).length by rw [belowL_len, HN.out]; exact hxk)
          have hol : o.length ≤ 10000000 := by omega
          have HX := Lib.hid (And.intro hO (And.intro hIp (And.intro hstep (And.intro hVo (And.intro hlb (And.intro hf (And.intro hf' (And.intro hD (And.intro hlep (And.intro hWr hno))))))))))
          obtain ⟨b0, off0, A1, c1, rfl, hb0, hcb, hIn⟩ := HRW.out xn lb hlb
          obtain ⟨m, hml⟩ : ∃ m, lb.length = m := ⟨_, rfl⟩
          rw [hml] at hcb
          have HIn := Lib.hid (And.intro hcb (And.intro hIn (And.intro hml hb0)))
          clear hO hI hf hm hD hNN hle HK hcV hz hxm x0 x1 hx hIp hlep hf' hstep hlb hVo hcb hIn hml hb0 hno
          go_wp2_with fail
          refine (HSl.out _).mono ?_
          rintro e w2 ⟨rfl, rfl⟩
          go_wp2_with fail
          refine HP.out.mono ?_
          rintro e w3 ⟨rfl, V3, hO3⟩
          have hM3 := HX.out.1.heap hO3
          have HM3 := Lib.hid hM3
          clear hM3 hO3 HP
          go_wp2_with (at_builtin
                       refine wpList_app1' rfl (.tmp 55) (.tmp 57) rfl w3 0 u7 o (xn : Int) 1 rfl HM3.out.od (by simp [Act.eval]) hol (Nat.zero_le _) ?_
                       intro v6 w6 ho6 ht6 hm6
                       have HM6 := Lib.hid (HM3.out.app ho6 ht6 hm6)
                       have cb6 := (HM6.out.ow.tr.cell (p := ⟨b0, off0 + xn, none⟩) HIn.out.2.2.2 (by simp)).trans HIn.out.1
                       clear ho6 ht6 hm6)
          have hH6 : Hid (∃ V ws' h' D', Om w1 w6 gw (gw + 1) k V v6 ws' h' (o ++ [(xn : Int)]) ∧ OI k D' ws' h' (o ++ [(xn : Int)]) ∧ D' ≤ o.length * 1000000 + 0 ∧ decF (lb.drop 0) ws' h' = decF lb ws (popL h)) :=
            Lib.hid ⟨_, _, _, D, HM6.out, HX.out.2.1, dle0 HX.out.2.2.2.2.2.2.2.1, by rw [List.drop_zero]⟩
          clear HM6 HM3
          go_wp2_with fail
          go_loopw [64] (fun v64 wr => ∃ q : Nat, q ≤ m ∧ v64 = .int .i64 (q : Int) ∧ Hid (∃ V ws' h' D', Om w1 wr gw (gw + 1) k V v6 ws' h' (o ++ [(xn : Int)]) ∧ OI k D' ws' h' (o ++ [(xn : Int)]) ∧ D' ≤ o.length * 1000000 + q ∧ decF (lb.drop q) ws' h' = decF lb ws (popL h))) (fun v64 _ => m - (intOf v64).toNat)
          case atStart => exact ⟨0, Nat.zero_le _, rfl, hH6⟩
          case round =>
            obtain ⟨q, hq, rfl, HQ⟩ := hrel
            obtain ⟨V7, ws7, h7, D7, hO7, hI7, hD7, hdf⟩ := HQ.out
            have hmb : m ≤ 1000000 := by have := (below_facts HOK.out).1 lb (List.mem_of_getElem? HX.out.2.2.2.2.1); have := HIn.out.2.2.1; omega
            by_cases hqm : q < m
            · have d1' : decide ((q : Int) < (m : Int)) = true := by simp; omega
              have d2' : (q : Int) < (m : Int) := by omega
              obtain ⟨u, hu⟩ := at_lt (show q < lb.length by have := HIn.out.2.2.1; omega)
              obtain ⟨u0, u1⟩ := (below_facts HOK.out).2 lb (List.mem_of_getElem? HX.out.2.2.2.2.1) u (List.mem_of_getElem? hu)
              rw [HN.out] at u1
              obtain ⟨un, rfl⟩ := Int.eq_ofNat_of_zero_le u0
              obtain ⟨bi, offi, rfl, hbi, hci⟩ := HIn.out.2.1 q _ hu
              have cu : wr.cell? ⟨bi, offi + q, none⟩ = some (.int .i64 (un : Int)) := (hO7.ow.tr.cell (p := ⟨bi, offi + q, none⟩) hbi (by simp)).trans hci
              have hunk : un < k := by omega
              have hunk2 : (un : Int) < (k : Int) := by omega
              obtain ⟨g', c', e', _, hg', _, hcell, hfr⟩ := hO7.ow.wt.slot (by rw [hI7.len]; omega)
              have eg : gw = g' := by injection e' with e1 _ _; injection e1 with e1; injection e1
              subst eg
              obtain ⟨z, hz⟩ := at_lt (show un < ws7.length by rw [hI7.len]; exact hunk)
              have hzb := hI7.wb un z hz
              have k4 := hcell un z hz
              have kf4 := hfr un
              have hoj : o.length ≤ 1000 := by have := HX.out.2.2.2.2.2.2.2.2.1; simp at this; omega
              have wz : IntKind.i64.wrap (z - 1) = z - 1 := zbd hzb hD7 hoj hqm hmb
              have hO8 := hO7.setW hI7.len.symm un (z - 1)
              have hI8 := hI7.dec u0 u1
              have hdr : lb.drop q = (un : Int) :: lb.drop (q + 1) := by
                obtain ⟨hh, he⟩ := List.getElem?_eq_some_iff.1 hu
                rw [List.drop_eq_getElem_cons hh, he]
              have hd1 : dec1 ws7 h7 (un : Int) = (ws7.set un (z - 1), if z - 1 = 0 then pushL h7 (un : Int) else h7) := by
                unfold dec1
                rw [Int.toNat_natCast, hz]
                rfl
              rw [hd1] at hI8
              rw [hdr, decF, hd1] at hdf
              have hle8 := hI7.le
              have HY := Lib.hid (And.intro hO8 (And.intro hI8 (And.intro hD7 hdf)))
              clear hO7 hI7 hD7 hdf HQ hu u0 u1 hbi hci hcell hfr hz hzb hO8 hI8 hdr hd1 e' hg' hH6
              by_cases hz1 : z - 1 = 0
              · have e1' : decide (z - 1 = 0) = true := by simpa using hz1
                have e3' : (z - 1 == 0) = true := by simpa using hz1
                have HZ := Lib.hid hz1
                have HP8 := Lib.hid (hpush_any HY.out.1.ow.hp (un : Int) (by omega))
                clear hz1
                go_wp2_with fail
                refine HP8.out.mono ?_
                rintro e w9 ⟨rfl, V9, hO9⟩
                have HN1 : Hid (∃ V ws' h' D', Om w1 w9 gw (gw + 1) k V v6 ws' h' (o ++ [(xn : Int)]) ∧ OI k D' ws' h' (o ++ [(xn : Int)]) ∧ D' ≤ o.length * 1000000 + (q + 1) ∧ decF (lb.drop (q + 1)) ws' h' = decF lb ws (popL h)) := by
                  obtain ⟨y1, y2, y3, y4⟩ := HY.out
                  rw [if_pos HZ.out] at y2 y4
                  exact Lib.hid ⟨V9, _, _, D7 + 1, y1.heap hO9, y2, by omega, y4⟩
                clear hO9 HP8 HY
                go_wp2_with fail
                go_roundw
                case rel => exact ⟨q + 1, by omega, by go_num, HN1⟩
                case measure => simp [intOf]; omega
              · have e1' : decide (z - 1 = 0) = false := by simpa using hz1
                have e3' : (z - 1 == 0) = false := by simpa using hz1
                have HZ := Lib.hid hz1
                have HN1 : Hid (∃ V ws' h' D', Om w1 (wr.setCell ⟨gw, un, none⟩ (.int .i64 (z - 1))) gw (gw + 1) k V v6 ws' h' (o ++ [(xn : Int)]) ∧ OI k D' ws' h' (o ++ [(xn : Int)]) ∧ D' ≤ o.length * 1000000 + (q + 1) ∧ decF (lb.drop (q + 1)) ws' h' = decF lb ws (popL h)) := by
                  obtain ⟨y1, y2, y3, y4⟩ := HY.out
                  rw [if_neg HZ.out] at y2 y4
                  exact Lib.hid ⟨_, _, _, D7 + 1, y1, y2, by omega, y4⟩
                clear hz1 HY
                go_wp2_with fail
                go_roundw
                case rel => exact ⟨q + 1, by omega, by go_num, HN1⟩
                case measure => simp [intOf]; omega
            · obtain rfl : q = m := by omega
              have d1' : decide ((q : Int) < (q : Int)) = false := by simp
              have HN2 : Hid (Rm Es w1 wr gw (gw + 1) k v6) := by
                rw [← HIn.out.2.2.1, List.drop_length, decF] at hdf
                obtain ⟨y1, y2, y3, y4, y5, y6, y7, y8, y9⟩ := HX.out
                rw [y5] at y3
                simp only [Option.getD_some] at y3
                rw [← hdf] at y3
                have hq1 := HIn.out.2.2.1
                refine Lib.hid ⟨V7, ws7, h7, _, _, D7, hO7, hI7, ?_, y3, ?_⟩
                · simp; omega
                · simp; omega
              have hv6 : lenV v6 = no + 1 := by
                obtain ⟨A6, c6, e6, _, _⟩ := hO7.od.form
                rw [e6]
                have := HX.out.2.2.2.2.2.2.2.2.2.2
                simp [lenV, this]
              have hlm : no < k := by have := HX.out.2.2.2.2.2.2.2.2.1; have := HX.out.2.2.2.2.2.2.2.2.2.2; simp at *; omega
              have HV := Lib.hid (And.intro hv6 hlm)
              clear hO7 hI7 hD7 hdf HQ hH6 hv6 hlm
              go_wp2_with fail
              go_roundw
              case rel => exact HN2
              case measure =>
                have h1 := HX.out.2.2.2.1
                rw [HV.out.1, h1]
                have h2 := HV.out.2
                simp only [lenV]
                omega
end Go.Proofs.YtjnphoeifonenaaDoor

/- climbed's state is one: plain. -/
set_option linter.unusedSimpArgs false
set_option linter.unusedVariables false
set_option maxRecDepth 100000
namespace Go.Proofs.YtjnphoeifonenaaDoor
open Go.RowKit

theorem cstep_nil {Es : List En} {s : Cs} (h : s.p = []) : cstep Es s = none := by
  unfold cstep
  rw [h]
  rfl
theorem crun_nil {Es : List En} {s : Cs} (h : s.p = []) : ∀ f, crun Es f s = s
  | 0 => rfl
  | f + 1 => by rw [crun, cstep_nil h]
theorem crun_det {Es : List En} : ∀ (f g : Nat) (x : Cs), (crun Es f x).p = [] → (crun Es g x).p = [] → crun Es f x = crun Es g x
  | 0, g, x, h, _ => by rw [crun_nil (s := x) h g]; rfl
  | f + 1, 0, x, h, hg => by rw [crun_nil (s := x) hg (f + 1)]; rfl
  | f + 1, g + 1, x, h, hg => by
    rw [crun] at h ⊢
    rw [crun] at hg ⊢
    cases hc : cstep Es x with
    | none => rfl
    | some s' =>
      rw [hc] at h hg
      exact crun_det f g s' h hg
def climbC (Es : List En) (F : Nat) : Nat → Cs
  | 0 => cs0 Es.length
  | k + 1 => crun Es F (enterS (climbC Es F k) (k : Int))
theorem climb_det {Es : List En} {F : Nat} : ∀ (k : Nat) (s : Cs), climbTo Es k s → (∀ j, j ≤ k → (climbC Es F j).p = []) → s = climbC Es F k
  | 0, s, h, _ => h
  | k + 1, s, h, hp => by
    obtain ⟨s0, f, h0, h1, h2⟩ := h
    have e := climb_det k s0 h0 (fun j hj => hp j (by omega))
    subst e
    have h3 := hp (k + 1) (Nat.le_refl _)
    rw [climbC] at h3 ⊢
    rw [← h1]
    rw [← h1] at h2
    exact crun_det _ _ _ h2 h3
def clAll (Es : List En) (F : Nat) : Nat → Bool
  | 0 => (climbC Es F 0).p.isEmpty
  | k + 1 => (climbC Es F (k + 1)).p.isEmpty && clAll Es F k
theorem clAll_of {Es : List En} {F : Nat} : ∀ (k : Nat), clAll Es F k = true → ∀ j, j ≤ k → (climbC Es F j).p = []
  | 0, h, j, hj => by
    have : j = 0 := by omega
    subst this
    simpa [clAll] using h
  | k + 1, h, j, hj => by
    unfold clAll at h
    rw [Bool.and_eq_true] at h
    by_cases e : j = k + 1
    · subst e
      simpa using h.1
    · exact clAll_of k h.2 j (by omega)
def kA : K8 := ⟨⟨#[65]⟩, ⟨#[66]⟩, false, [], 0, 0⟩
def kB : K8 := ⟨⟨#[66]⟩, ⟨#[]⟩, false, [], 0, 0⟩
theorem ab_fil : filK [kA, kB] [kA, kB] 0 = none := by decide +kernel
theorem ab_cl : clAll (esL [kA, kB]) 50 2 = true := by decide +kernel
theorem ab_round : roundL (esL [kA, kB]) (climbC (esL [kA, kB]) 50 2).d.reverse [] (-1) = -1 := by decide +kernel
theorem ab_ord : ordL (esL [kA, kB]) = [1, 0] := by decide +kernel
theorem ab_abv : abvL (esL [kA, kB]) [0] = [0, 1] := by decide +kernel
end Go.Proofs.YtjnphoeifonenaaDoor

/- awake: the document's example. -/
set_option linter.unusedSimpArgs false
set_option linter.unusedVariables false
set_option maxRecDepth 100000
namespace Go.Proofs.YtjnphoeifonenaaDoor
open Go.RowKit

theorem ab_ok : KOk [kA, kB] where
  len := by simp
  nm := by
    intro k hk
    simp at hk
    rcases hk with rfl | rfl
    · exact ⟨by decide +kernel, by decide +kernel, fun s hs => absurd hs (by simp [kA]), by decide +kernel⟩
    · exact ⟨by decide +kernel, by decide +kernel, fun s hs => absurd hs (by simp [kB]), by decide +kernel⟩
theorem ints_two (W : World) (T : TypeId) (x y : Int) : Ints (W.alloc (.cells #[.int .i64 x, .int .i64 y] T)) (some ⟨W.heap.size, 0, none⟩) [x, y] := fun k z hz => by
  have h := heap_alloc_new W (.cells #[.int .i64 x, .int .i64 y] T)
  refine ⟨_, 0, rfl, by simp, ?_⟩
  rw [cell_of_row _ W.heap.size _ _ _ _ h]
  match k, hz with
  | 0, hz => simp at hz; subst hz; simp
  | 1, hz => simp at hz; subst hz; simp
  | k + 2, hz => simp at hz
theorem eq_fault (w : World) : (binOp .eql 36 (.agg #[.int .i64 0, .int .i64 0, .int .i64 0]) (.agg #[.int .i64 0, .int .i64 0, .int .i64 0])).run Tryd.prog w = .ok (.bool true) w := by kernel_rfl
def abC : Array Value := #[.string ⟨#[65]⟩, .string ⟨#[66]⟩, .bool false, .slice none 0 0, .slice none 0 0, .slice none 0 0, .slice none 0 0, .pointer none, .int .i64 0, .int .i64 0, .string ⟨#[66]⟩, .string ⟨#[]⟩, .bool false, .slice none 0 0, .slice none 0 0, .slice none 0 0, .slice none 0 0, .pointer none, .int .i64 0, .int .i64 0]
theorem ab_rd {W : World} {b : Nat} {T : TypeId} (h : W.heap[b]? = some (.cells abC T (0, 0))) : RdKs (b + 1) W (some ⟨b, 0, none⟩) [kA, kB] := by
  have hb := (Array.getElem?_eq_some_iff.1 h).1
  intro j c hc
  match j, hc with
  | 0, hc =>
    simp at hc
    subst hc
    refine ⟨b, 0, [.string ⟨#[65]⟩, .string ⟨#[66]⟩, .bool false, .slice none 0 0, .slice none 0 0, .slice none 0 0, .slice none 0 0, .pointer none, .int .i64 0, .int .i64 0], rfl, by omega, hb, fun i v hv => ?_, none, 0, none, 0, 0, none, 0, 0, none, 0, 0, none, rfl, fun k s hs => by simp [kA] at hs⟩
    rw [cell_of_row W b _ _ _ _ h]
    have hi : i < 10 := by have := (List.getElem?_eq_some_iff.1 hv).1; simpa using this
    match i, hi, hv with
    | 0, _, hv | 1, _, hv | 2, _, hv | 3, _, hv | 4, _, hv | 5, _, hv | 6, _, hv | 7, _, hv | 8, _, hv | 9, _, hv => simpa [abC] using hv
  | 1, hc =>
    simp at hc
    subst hc
    refine ⟨b, 0, [.string ⟨#[66]⟩, .string ⟨#[]⟩, .bool false, .slice none 0 0, .slice none 0 0, .slice none 0 0, .slice none 0 0, .pointer none, .int .i64 0, .int .i64 0], rfl, by omega, hb, fun i v hv => ?_, none, 0, none, 0, 0, none, 0, 0, none, 0, 0, none, rfl, fun k s hs => by simp [kB] at hs⟩
    rw [cell_of_row W b _ _ _ _ h]
    have hi : i < 10 := by have := (List.getElem?_eq_some_iff.1 hv).1; simpa using this
    match i, hi, hv with
    | 0, _, hv | 1, _, hv | 2, _, hv | 3, _, hv | 4, _, hv | 5, _, hv | 6, _, hv | 7, _, hv | 8, _, hv | 9, _, hv => simpa [abC] using hv
  | j + 2, hc => simp at hc
/-- New, when all is right: the plain words that say so. -/
theorem nw_ok {l : List K8} {r F : Nat} {e : Ending} {w' : World} (h : NwR l r e w') (h1 : filK l l 0 = none) (h2 : clAll (esL l) F l.length = true) (h3 : roundL (esL l) (climbC (esL l) F l.length).d.reverse [] (-1) = -1) :
    ∃ t m sz V, e = .returned (.tuple #[.pointer (some ⟨t, 0, none⟩), .agg (ftC 0 0 0)]) ∧ r ≤ t ∧ Tl w' (fun g => r ≤ g) t (.map (some m)) V (esL l) ∧ MapS w' m sz (fstF l l.length) := by
  cases h with
  | bad k c hk hc he => rw [h1] at hk; cases hk
  | rnd s a c hf hs ha hc he =>
    have := climb_det _ s hs (clAll_of _ h2)
    rw [this, h3] at ha
    omega
  | ok s t m sz V hf hs ha he hr ht hm => exact ⟨t, m, sz, V, he, hr, ht, hm⟩

set_option maxHeartbeats 12800000 in
theorem awake_any (w : World) (hT : Tab w) : Calls Tryd.prog 8 #[] w fun e w' => e = .returned (.bool true) ∧ Turn [] w w' := by
  obtain ⟨r, hr⟩ : ∃ r, w.heap.size = r := ⟨_, rfl⟩
  obtain ⟨W1, hW1⟩ : ∃ W, w.alloc (.cells abC 51) = W := ⟨_, rfl⟩
  have t1 : Turn [] w W1 := by rw [← hW1]; exact (Turn.refl [] w).alloc _
  have b1 : W1.heap[r]? = some (.cells abC 51 (0, 0)) := by rw [← hW1, ← hr]; exact heap_alloc_new w _
  have s1 : W1.heap.size = r + 1 := by rw [← hW1, ← hr]; simp
  have HNw := Lib.hid (fun m0 m1 m2 m3 m4 m5 m6 m7 m8 => new_any (some ⟨r, 0, none⟩) 2 (r + 1) [kA, kB] m0 m1 m2 m3 m4 m5 m6 m7 m8 W1 (ab_rd b1) (by omega) ab_ok)
  have HT := Lib.hid (hT.turn' t1)
  have HT1 := Lib.hid t1
  have HR := Lib.hid hr
  unfold abC at hW1
  have HW1 := Lib.hid hW1
  have hef := eq_fault
  clear t1 b1 s1 hT hW1 hr
  go_enter Tryd.func8, Tryd.ntmps8
  go_wp2_with fail
  rw [HR.out, HW1.out]
  refine (HNw.out _ _ _ _ _ _ _ _ _).mono ?_
  rintro e w2 ⟨hN, t2⟩
  obtain ⟨t, m, sz, V, rfl, hrt, hTl, hM⟩ := nw_ok (F := 50) hN ab_fil ab_cl ab_round
  have hok : EsOk (esL [kA, kB]) := esL_ok ab_ok.len (fun c hc => (ab_ok.nm c hc).2.2.2)
  obtain ⟨W3, hW3⟩ : ∃ W, w2.alloc (.cells #[.int .i64 0, .int .i64 0, .int .i64 0] 36) = W := ⟨_, rfl⟩
  have t3 : Turn [] w2 W3 := by rw [← hW3]; exact (Turn.refl [] w2).alloc _
  have HTl := Lib.hid (hTl.turn' t3)
  have HO := Lib.hid (order_any (hTl.turn' t3) hok)
  have HT3 := Lib.hid (t2.trans' t3)
  have HW3 := Lib.hid hW3
  have HOK := Lib.hid hok
  clear hN t2 hTl hM hok hW3 t3 HNw
  unfold ftC
  go_wp2_with fail
  rw [HW3.out]
  refine HO.out.mono ?_
  rintro e w4 ⟨U4, rfl, hU4, t4⟩
  rw [ab_ord] at hU4
  obtain ⟨A4, c4, hv4, hi4, hc4⟩ := hU4.form
  subst hv4
  have tA := (Turn.refl [] w4).alloc (.cells #[.int .i64 1, .int .i64 0] 3)
  have HS4 := Lib.hid (refSame_any A4 (some ⟨w4.heap.size, 0, none⟩) 2 2 c4 2 [1, 0] [1, 0] (w4.alloc (.cells #[.int .i64 1, .int .i64 0] 3)) (hi4.below tA) (ints_two w4 3 1 0) rfl rfl (by omega) (by omega))
  have HT4 := Lib.hid t4
  clear hU4 hi4 t4 tA HO hc4
  go_wp2_with fail
  refine HS4.out.mono ?_
  rintro e w5 ⟨rfl, q5, h5⟩
  have t5 : Turn [] W3 w5 := by rw [h5]; exact ((HT4.out.alloc _).drewN _)
  have HT5 := Lib.hid t5
  rw [show sameB [1, 0] [1, 0] = true by rfl]
  clear h5 t5 HS4
  have tB := (Turn.refl [] w5).alloc (.cells #[.int .i64 0] 3)
  have HA := Lib.hid (above_any (HTl.out.turn' (HT5.out.trans' tB)) (fun i => by have := HOK.out.few i; omega) (HT.out.turn' ((HT3.out.trans' HT5.out).trans' tB)) (some ⟨w5.heap.size, 0, none⟩) 1 1 [0] (ints_one w5 3 0) rfl (by omega))
  clear tB
  go_wp2_with fail
  refine HA.out.mono ?_
  rintro e w6 ⟨U6, rfl, hU6, t6⟩
  rw [ab_abv] at hU6
  obtain ⟨A6, c6, hv6, hi6, hc6⟩ := hU6.form
  subst hv6
  have tC := (Turn.refl [] w6).alloc (.cells #[.int .i64 0, .int .i64 1] 3)
  have HS6 := Lib.hid (refSame_any A6 (some ⟨w6.heap.size, 0, none⟩) 2 2 c6 2 [0, 1] [0, 1] (w6.alloc (.cells #[.int .i64 0, .int .i64 1] 3)) (hi6.below tC) (ints_two w6 3 0 1) rfl rfl (by omega) (by omega))
  have HT6 := Lib.hid t6
  clear hU6 hi6 t6 tC HA hc6
  go_wp2_with fail
  refine HS6.out.mono ?_
  rintro e w7 ⟨rfl, q7, h7⟩
  have t7 : Turn [] w w7 := by rw [h7]; exact ((((((HT1.out.trans' HT3.out).trans' HT5.out).alloc _).trans' HT6.out).alloc _).drewN _)
  have HT7 := Lib.hid t7
  rw [show sameB [0, 1] [0, 1] = true by rfl]
  clear h7 t7 HS6
  go_wp2_with fail
  go_ret
  exact ⟨rfl, HT7.out⟩
end Go.Proofs.YtjnphoeifonenaaDoor

/- Name, Face, Super. -/
set_option linter.unusedSimpArgs false
set_option linter.unusedVariables false
set_option maxRecDepth 100000
namespace Go.Proofs.YtjnphoeifonenaaDoor
open Go.RowKit
attribute [local go_sem] fldE0 fldE1 fldE2 fldE3

set_option maxHeartbeats 1600000 in
theorem name_any8 {A : Nat → Prop} {t : Nat} {M V : Value} {Es : List En} {w : World} (h : Tl w A t M V Es) (i : Int) :
    Calls Tryd.prog 20 #[.pointer (some ⟨t, 0, none⟩), .int .i64 i] w fun e w' => e = .returned (.string (enAt Es i).nm) ∧ Turn [] w w' := by
  have HE := Lib.hid (entry_any8 h i)
  obtain ⟨x, hx⟩ : ∃ x, enAt Es i = x := ⟨_, rfl⟩
  rw [hx] at HE ⊢
  obtain ⟨nm, face, sup, rt⟩ := x
  simp only at HE ⊢
  clear h hx
  go_enter Tryd.func20, Tryd.ntmps20
  go_wp2_with fail
  refine HE.out.mono ?_
  rintro e w1 ⟨U, rfl, hU, t1⟩
  obtain ⟨P, c, rfl, _, _⟩ := id hU
  have HT := Lib.hid t1
  clear hU t1
  go_wp2_with fail
  go_ret
  exact ⟨rfl, HT.out⟩
set_option maxHeartbeats 1600000 in
theorem face_any8 {A : Nat → Prop} {t : Nat} {M V : Value} {Es : List En} {w : World} (h : Tl w A t M V Es) (i : Int) :
    Calls Tryd.prog 21 #[.pointer (some ⟨t, 0, none⟩), .int .i64 i] w fun e w' => e = .returned (.bool (enAt Es i).face) ∧ Turn [] w w' := by
  have HE := Lib.hid (entry_any8 h i)
  obtain ⟨x, hx⟩ : ∃ x, enAt Es i = x := ⟨_, rfl⟩
  rw [hx] at HE ⊢
  obtain ⟨nm, face, sup, rt⟩ := x
  simp only at HE ⊢
  clear h hx
  go_enter Tryd.func21, Tryd.ntmps21
  go_wp2_with fail
  refine HE.out.mono ?_
  rintro e w1 ⟨U, rfl, hU, t1⟩
  obtain ⟨P, c, rfl, _, _⟩ := id hU
  have HT := Lib.hid t1
  clear hU t1
  go_wp2_with fail
  go_ret
  exact ⟨rfl, HT.out⟩
set_option maxHeartbeats 1600000 in
theorem super_any8 {A : Nat → Prop} {t : Nat} {M V : Value} {Es : List En} {w : World} (h : Tl w A t M V Es) (i : Int) :
    Calls Tryd.prog 22 #[.pointer (some ⟨t, 0, none⟩), .int .i64 i] w fun e w' => e = .returned (.int .i64 (enAt Es i).sup) ∧ Turn [] w w' := by
  have HE := Lib.hid (entry_any8 h i)
  obtain ⟨x, hx⟩ : ∃ x, enAt Es i = x := ⟨_, rfl⟩
  rw [hx] at HE ⊢
  obtain ⟨nm, face, sup, rt⟩ := x
  simp only at HE ⊢
  clear h hx
  go_enter Tryd.func22, Tryd.ntmps22
  go_wp2_with fail
  refine HE.out.mono ?_
  rintro e w1 ⟨U, rfl, hU, t1⟩
  obtain ⟨P, c, rfl, _, _⟩ := id hU
  have HT := Lib.hid t1
  clear hU t1
  go_wp2_with fail
  go_ret
  exact ⟨rfl, HT.out⟩
end Go.Proofs.YtjnphoeifonenaaDoor

/- Index; Right. -/
set_option linter.unusedSimpArgs false
set_option linter.unusedVariables false
set_option maxRecDepth 100000
namespace Go.Proofs.YtjnphoeifonenaaDoor
open Go.RowKit
attribute [local go_sem] fldE0 fldE1 fldE2 fldE3

set_option maxHeartbeats 1600000 in
theorem index_any8 {A : Nat → Prop} {t m s : Nat} {V : Value} {Es : List En} {f : ByteArray → Option Nat} {w : World} (h : Tl w A t (.map (some m)) V Es) (hm : MapS w m s f) (x : ByteArray) (hx : x.size ≤ 281474976710656) :
    Calls Tryd.prog 19 #[.pointer (some ⟨t, 0, none⟩), .string x] w fun e w' => e = .returned (.tuple #[.int .i64 (((f x).getD 0 : Nat) : Int), .bool (f x).isSome]) ∧ w = w' := by
  have hlook := run_lookS_ok hm x (max9 hx)
  have c1 : w.cell? ⟨t, 0, none⟩ = some (.map (some m)) := cell_of_row w t 0 _ _ _ h.blk
  obtain ⟨y, hy⟩ : ∃ y, (f x).getD 0 = y := ⟨_, rfl⟩
  obtain ⟨o, ho⟩ : ∃ o, (f x).isSome = o := ⟨_, rfl⟩
  rw [hy, ho] at hlook ⊢
  clear h hm hy ho
  go_enter Tryd.func19, Tryd.ntmps19
  go_wp2_with fail
  go_ret2
  exact ⟨rfl, rfl⟩
theorem eqI_nil (n c : Nat) (w : World) : (binOp .eql 40 (.slice none n c) (.slice none 0 0)).run Tryd.prog w = .ok (.bool true) w := by kernel_rfl
theorem eqI_some (a : Addr) (n c : Nat) (w : World) : (binOp .eql 40 (.slice (some a) n c) (.slice none 0 0)).run Tryd.prog w = .ok (.bool false) w := by kernel_rfl
attribute [local go_sem] eqI_nil eqI_some
/-- slices.Clone's append: onto a slice of no cells that lies in a block of its own, just ahead. -/
theorem wpList_clone {ops : Array Oper} {rest : List Oper} {o : Oper} {a : Act} {Q : Exit → Act → World → Prop} (hgd : o.guard = none) (s x : Operand)
    (ho : o.op = .call { callee := .builtin .append, args := #[s, x], argTypes := #[40, 40] })
    (W : World) (l : List Int) (A : Addr) (m c : Nat) (hs : a.eval s = .slice (some ⟨W.heap.size, 0, none⟩) 0 0) (hx : a.eval x = .slice (some A) m c) (hr : Ints W (some A) l) (hm : m = l.length)
    (hl : l.length ≤ 1000000)
    (h : ∀ v' w', OwnI w' W.heap.size v' l → Turn [] W w' → wpList Tryd.prog ops Q rest (a.put o.dst v') w') :
    wpList Tryd.prog ops Q (o :: rest) a (W.alloc (.cells #[] 3)) := by
  refine wpList_appAll hgd s x ho (W.alloc (.cells #[] 3)) W.heap.size (.slice (some ⟨W.heap.size, 0, none⟩) 0 0) [] l (some A) m c hs ?_ hx (hr.below ((Turn.refl [] W).alloc _)) hm (by simp) hl (by simp) ?_
  · exact World.ownsRow_made W #[] 0 (Nat.le_refl _) (by unfold maxLen; omega) rfl
  · intro v' w' ho2 ht2 _
    exact h v' w' (by simpa using ho2) (((Turn.refl [] W).alloc _).trans ht2 (by simp [Value.ownBlock]))
set_option maxHeartbeats 1600000 in
theorem clone_any8 (P : Option Addr) (m c : Nat) (l : List Int) (w : World) (h : Ints w P l) (hm : m = l.length) (hl : l.length ≤ 1000000) :
    Calls Tryd.prog 43 #[.slice P m c] w fun e w' => ∃ v', e = .returned v' ∧ OwnI w' w.heap.size v' l ∧ Turn [] w w' := by
  cases P with
  | none =>
    have h0 : l = [] := by
      cases l with
      | nil => rfl
      | cons x l =>
        obtain ⟨b, off, e, _⟩ := h 0 x rfl
        cases e
    subst h0
    clear h hm
    go_enter Tryd.func43, Tryd.ntmps43
    go_wp2_with fail
    go_ret
    exact ⟨_, rfl, OwnI.nil _ _, Turn.refl _ _⟩
  | some a =>
    have HI := Lib.hid h
    have HM := Lib.hid hm
    clear h hm
    go_enter Tryd.func43, Tryd.ntmps43
    go_wp2_with (at_builtin; refine wpList_clone rfl (.tmp 5) (.tmp 6) rfl w l a m c rfl rfl HI.out HM.out hl ?_; intro v' w2 ho2 ht2)
    go_ret
    exact ⟨_, rfl, ho2, ht2⟩
set_option maxHeartbeats 1600000 in
theorem right_any8 {A : Nat → Prop} {t : Nat} {M V : Value} {Es : List En} {w : World} (h : Tl w A t M V Es) (i : Int) (hrt : (enAt Es i).rt.length ≤ 1000000) :
    Calls Tryd.prog 23 #[.pointer (some ⟨t, 0, none⟩), .int .i64 i] w fun e w' => ∃ v', e = .returned v' ∧ OwnI w' w.heap.size v' (ofN (enAt Es i).rt) ∧ Turn [] w w' := by
  have HE := Lib.hid (entry_any8 h i)
  obtain ⟨x, hx⟩ : ∃ x, enAt Es i = x := ⟨_, rfl⟩
  rw [hx] at HE hrt ⊢
  obtain ⟨nm, face, sup, rt⟩ := x
  simp only at HE hrt ⊢
  have HRT := Lib.hid hrt
  clear h hx hrt
  go_enter Tryd.func23, Tryd.ntmps23
  go_wp2_with fail
  refine HE.out.mono ?_
  rintro e w1 ⟨U, rfl, hU, t1⟩
  obtain ⟨P, c, rfl, _, _⟩ := id hU
  obtain ⟨_, hUi, _⟩ := rdn_ints hU
  have HC := Lib.hid (clone_any8 P rt.length c (ofN rt) w1 hUi (by simp [ofN]) (by simpa [ofN] using HRT.out))
  have HT := Lib.hid t1
  clear hU t1 hUi
  go_wp2_with fail
  refine HC.out.mono ?_
  rintro e w2 ⟨v', rfl, ho, t2⟩
  have HO := Lib.hid (And.intro ho t2)
  clear ho t2
  go_wp2_with fail
  go_ret
  exact ⟨_, rfl, HO.out.1.mono HT.out.size, HT.out.trans' HO.out.2⟩
end Go.Proofs.YtjnphoeifonenaaDoor

/- The reference's Small. -/
set_option linter.unusedSimpArgs false
set_option linter.unusedVariables false
set_option maxRecDepth 100000
namespace Go.Proofs.YtjnphoeifonenaaDoor
open Go.RowKit

def smallB (l : List K8) : Bool := decide (l.length ≤ 20) && l.all (fun k => decide (k.fcs.length ≤ 10))
set_option maxHeartbeats 3200000 in
theorem small_any8 (A : Option Addr) (c B : Nat) (l : List K8) (m0 m1 m2 m3 m4 m5 m6 m7 m8 : Value) (w : World) (hr : RdKs B w A l) :
    Calls Tryd.prog 9 #[.agg #[.slice A l.length c, m0, m1, m2, m3, m4, m5, m6, m7, m8]] w fun e w' => e = .returned (.bool (smallB l)) ∧ Turn [] w w' := by
  obtain ⟨n, hn⟩ : ∃ n, l.length = n := ⟨_, rfl⟩
  obtain ⟨r, hrr⟩ : ∃ r, w.heap.size = r := ⟨_, rfl⟩
  obtain ⟨W0, hW0⟩ : ∃ W, w.alloc (.cells #[.slice A n c, m0, m1, m2, m3, m4, m5, m6, m7, m8] 30) = W := ⟨_, rfl⟩
  have t0 : Turn [] w W0 := by rw [← hW0]; exact (Turn.refl [] w).alloc _
  have b0 : W0.heap[r]? = some (.cells #[.slice A n c, m0, m1, m2, m3, m4, m5, m6, m7, m8] 30 (0, 0)) := by rw [← hW0, ← hrr]; exact heap_alloc_new w _
  have c0 : W0.cell? ⟨r, 0, none⟩ = some (.slice A n c) := cell_of_row W0 r 0 _ _ _ b0
  have HR := Lib.hid (hr.turn t0 (by simp))
  have HN := Lib.hid hn
  have HT := Lib.hid t0
  have HW := Lib.hid hW0
  have HRR := Lib.hid hrr
  have HB : Hid (smallB l = (decide (n ≤ 20) && l.all (fun k => decide (k.fcs.length ≤ 10)))) := Lib.hid (by rw [← hn]; rfl)
  rw [hn]
  obtain ⟨S, hS⟩ : ∃ S, smallB l = S := ⟨_, rfl⟩
  rw [hS] at HB ⊢
  clear hr hn t0 hW0 hrr b0 hS
  by_cases h20 : n ≤ 20
  · have d0 : decide ((20 : Int) < (n : Int)) = false := by simp; omega
    have d0' : ¬ (20 : Int) < (n : Int) := by omega
    go_enter Tryd.func9, Tryd.ntmps9
    go_upto_region 1 with fail
    rw [HRR.out, HW.out]
    go_wp2_with fail
    go_loop [3] (fun v3 => ∃ k : Nat, k ≤ n ∧ v3 = .int .i64 (k : Int) ∧ Hid (∀ x ∈ l.take k, x.fcs.length ≤ 10)) (fun v3 => n - (intOf v3).toNat)
    case atStart => exact ⟨0, Nat.zero_le _, rfl, Lib.hid (by simp)⟩
    case round =>
      obtain ⟨k, hk, rfl, HK⟩ := hrel
      by_cases hlt : k < n
      · obtain ⟨x, hx⟩ := at_lt (show k < l.length by have := HN.out; omega)
        obtain ⟨b, off, cs, rfl, hb, hbl, hcell, A3, c3, A4, n4, c4, A5, n5, c5, A6, n6, c6, I, rfl, hst⟩ := HR.out k x hx
        have e3 : W0.cell? ⟨b, off + k * 10 + 3, none⟩ = some (.slice A3 x.fcs.length c3) := hcell 3 _ rfl
        have d1 : decide ((k : Int) < (n : Int)) = true := by simp; omega
        have d2 : (k : Int) < (n : Int) := by omega
        have HX := Lib.hid hx
        obtain ⟨q, hq⟩ : ∃ q, x.fcs.length = q := ⟨_, rfl⟩
        rw [hq] at e3
        have HQ := Lib.hid hq
        clear hx hcell hst hq
        by_cases h10 : q ≤ 10
        · have d3 : decide ((10 : Int) < (q : Int)) = false := by simp; omega
          have d4 : ¬ (10 : Int) < (q : Int) := by omega
          have HN1 : Hid (∀ y ∈ l.take (k + 1), y.fcs.length ≤ 10) := Lib.hid (by
            rw [take_snoc HX.out]
            intro y hy
            rcases List.mem_append.1 hy with hy | hy
            · exact HK.out y hy
            · simp at hy
              rw [hy, HQ.out]
              exact h10)
          go_wp2_with fail
          go_round
          case rel => exact ⟨k + 1, by omega, by go_num, HN1⟩
          case measure => simp [intOf]; omega
        · have d3 : decide ((10 : Int) < (q : Int)) = true := by simp; omega
          have d4 : (10 : Int) < (q : Int) := by omega
          have HS : Hid (S = false) := Lib.hid (by
            rw [HB.out]
            simp
            intro _
            exact ⟨x, List.mem_of_getElem? HX.out, by rw [HQ.out]; omega⟩)
          go_wp2_with fail
          go_ret
          exact ⟨ret_bool HS.out.symm, HT.out⟩
      · obtain rfl : k = n := by omega
        have d1 : decide ((k : Int) < (k : Int)) = false := by simp
        have HS : Hid (S = true) := Lib.hid (by
          rw [HB.out]
          have h2 := HK.out
          rw [List.take_of_length_le (by rw [HN.out]; exact Nat.le_refl _)] at h2
          simp [h20]
          exact h2)
        go_wp2_with fail
        go_ret
        exact ⟨ret_bool HS.out.symm, HT.out⟩
  · have d0 : decide ((20 : Int) < (n : Int)) = true := by simp; omega
    have d0' : (20 : Int) < (n : Int) := by omega
    have HS : Hid (S = false) := Lib.hid (by rw [HB.out]; simp [h20])
    go_enter Tryd.func9, Tryd.ntmps9
    go_upto_region 1 with fail
    rw [HRR.out, HW.out]
    go_wp2_with fail
    go_ret
    exact ⟨ret_bool HS.out.symm, HT.out⟩
end Go.Proofs.YtjnphoeifonenaaDoor
