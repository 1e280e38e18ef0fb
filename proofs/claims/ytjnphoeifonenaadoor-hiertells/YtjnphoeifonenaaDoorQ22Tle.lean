import Derived.Test.YtjnphoeifonenaaDoorQ18Rfd
import Derived.Test.YtjnphoeifonenaaDoorQ12Kos
import Derived.Test.YtjnphoeifonenaaDoorQ08Orp
import Derived.Deep.DeepCutAuto
import Derived.Test.YtjnphoeifonenaaDoorQ06Flt
import Derived.Deep.RegionHeld3
import Derived.BigQuiet
import Derived.Test.YtjnphoeifonenaaDoorQ20LFa

/- What the table tells of a program that is right: plain. -/
set_option linter.unusedSimpArgs false
set_option linter.unusedVariables false
namespace Go.Proofs.YtjnphoeifonenaaDoor
open Go.RowKit

theorem snd_first {l : List K8} {i : Nat} {x : K8} (h : sndB l i x = true) : fstF l l.length x.nm = some i := by
  have h0 : fndI l x.nm = (i : Int) := by
    unfold sndB at h
    simp only [Bool.and_eq_true] at h
    simpa using h.1.1
  unfold fndI at h0
  cases hf : fstF l l.length x.nm with
  | none => rw [hf] at h0; simp at h0
  | some j => rw [hf] at h0; rw [show j = i by simp at h0; omega]
theorem snd_entry {l : List K8} (hl : l.length ≤ 1000) {i : Nat} {x : K8} (h : sndB l i x = true) (hx : l[i]? = some x) : (esL l)[i]? = some ⟨x.nm, x.face, if x.sup = ⟨#[]⟩ then -1 else fndI l x.sup, (rtI l x).map Int.toNat⟩ := by
  have he : entR8 l x = some (if x.sup = ⟨#[]⟩ then -1 else fndI l x.sup, rtI l x) := by
    rw [ent_is hl, if_pos]
    unfold sndB at h
    rw [fcs_all] at h
    simp only [Bool.and_eq_true] at h ⊢
    exact ⟨h.1.2, h.2⟩
  unfold esL
  rw [List.getElem?_map, hx]
  simp only [Option.map_some, enOf, he]
theorem fnd_index (l : List K8) (s : ByteArray) : ((fstF l l.length s).isSome = decide (0 ≤ fndI l s)) ∧ (0 ≤ fndI l s → (((fstF l l.length s).getD 0 : Nat) : Int) = fndI l s) ∧ (fndI l s < 0 → (fstF l l.length s).getD 0 = 0) := by
  unfold fndI
  cases hf : fstF l l.length s with
  | none => simp
  | some j => simp; omega
end Go.Proofs.YtjnphoeifonenaaDoor

/- The ready heap keeps its order: its head is the least. -/
set_option linter.unusedSimpArgs false
set_option linter.unusedVariables false
namespace Go.Proofs.YtjnphoeifonenaaDoor
open Go.RowKit

def atI (h : List Int) (k : Nat) : Int := h[k]?.getD 0
theorem at_sw {h : List Int} {i j k : Nat} (hi : i < h.length) (hj : j < h.length) : atI (swL h i j) k = if k = j then atI h i else if k = i then atI h j else atI h k := by
  unfold atI swL
  rw [List.getElem?_set]
  by_cases e : j = k
  · subst e
    rw [if_pos rfl, if_pos rfl]
    simp [hj]
  · rw [if_neg e, if_neg (fun h => e h.symm), List.getElem?_set]
    by_cases e2 : i = k
    · subst e2
      rw [if_pos rfl, if_pos rfl]
      simp [hi]
    · rw [if_neg e2, if_neg (fun h => e2 h.symm)]
/-- Each is at least what stands above it. -/
def HpOk (h : List Int) (m : Nat) : Prop := ∀ k, 0 < k → k < m → atI h ((k - 1) / 2) ≤ atI h k
theorem HpOk.head {h : List Int} {m : Nat} (hh : HpOk h m) : ∀ k, k < m → atI h 0 ≤ atI h k := by
  intro k
  induction k using Nat.strongRecOn with
  | _ k ih =>
    intro hk
    by_cases h0 : k = 0
    · rw [h0]; exact Int.le_refl _
    · exact Int.le_trans (ih ((k - 1) / 2) (by omega) (by omega)) (hh k (by omega) hk)
theorem upF_ok : ∀ (f : Nat) (h : List Int) (j : Nat), j ≤ f → j < h.length → (∀ k, 0 < k → k < h.length → k ≠ j → atI h ((k - 1) / 2) ≤ atI h k) → (∀ k, 0 < k → k < h.length → (k - 1) / 2 = j → 0 < j → atI h ((j - 1) / 2) ≤ atI h k) → HpOk (upF f h j) h.length
  | 0, h, j, hf, hj, ha, hb => by
    unfold upF
    intro k h0 hk
    exact ha k h0 hk (by omega)
  | f + 1, h, j, hf, hj, ha, hb => by
    unfold upF
    by_cases e : (j - 1) / 2 = j
    · rw [if_pos e]
      intro k h0 hk
      exact ha k h0 hk (by omega)
    · rw [if_neg e]
      by_cases hl : h[j]?.getD 0 < h[(j - 1) / 2]?.getD 0
      · rw [if_pos hl]
        have hl' : atI h j < atI h ((j - 1) / 2) := hl
        obtain ⟨p, hp⟩ : ∃ p, (j - 1) / 2 = p := ⟨_, rfl⟩
        rw [hp] at hl' ⊢
        have hpj : p < j := by omega
        have hpl : p < h.length := by omega
        have := upF_ok f (swL h p j) p (by omega) (by rw [swL_len]; exact hpl) ?_ ?_
        · rw [swL_len] at this
          exact this
        · rw [swL_len]
          intro k h0 hk hkp
          rw [at_sw hpl hj, at_sw hpl hj]
          by_cases hkj : k = j
          · subst hkj
            rw [hp, if_pos rfl, if_neg (by omega), if_pos rfl]
            omega
          · rw [if_neg hkj, if_neg hkp]
            by_cases h1 : (k - 1) / 2 = j
            · rw [if_pos h1]
              have := hb k h0 hk h1 (by omega)
              rw [hp] at this
              exact this
            · rw [if_neg h1]
              by_cases h2 : (k - 1) / 2 = p
              · rw [if_pos h2]
                have := ha k h0 hk hkj
                rw [h2] at this
                omega
              · rw [if_neg h2]
                exact ha k h0 hk hkj
        · rw [swL_len]
          intro k h0 hk hkp h1
          rw [at_sw hpl hj, at_sw hpl hj, if_neg (by omega), if_neg (by omega)]
          have hpp := ha p h1 hpl (by omega)
          by_cases hkj : k = j
          · rw [if_pos hkj]
            exact hpp
          · rw [if_neg hkj, if_neg (by omega)]
            have := ha k h0 hk hkj
            rw [hkp] at this
            omega
      · rw [if_neg hl]
        have hl' : ¬ atI h j < atI h ((j - 1) / 2) := hl
        intro k h0 hk
        by_cases hkj : k = j
        · subst hkj
          omega
        · exact ha k h0 hk hkj
theorem downF_ok : ∀ (f : Nat) (h : List Int) (i m : Nat), m ≤ i + f → m ≤ h.length → (∀ k, 0 < k → k < m → (k - 1) / 2 ≠ i → atI h ((k - 1) / 2) ≤ atI h k) → (∀ k, 0 < k → k < m → (k - 1) / 2 = i → 0 < i → atI h ((i - 1) / 2) ≤ atI h k) → HpOk (downF f h i m) m
  | 0, h, i, m, hf, hm, ha, hb => by
    unfold downF
    intro k h0 hk
    exact ha k h0 hk (by omega)
  | f + 1, h, i, m, hf, hm, ha, hb => by
    unfold downF
    by_cases e : m ≤ 2 * i + 1
    · rw [if_pos e]
      intro k h0 hk
      exact ha k h0 hk (by omega)
    · rw [if_neg e]
      have hch : (chJ h i m = 2 * i + 1 ∨ chJ h i m = 2 * i + 2) ∧ chJ h i m < m ∧ ∀ k, k < m → 0 < k → (k - 1) / 2 = i → atI h (chJ h i m) ≤ atI h k := by
        unfold chJ atI
        split
        · rename_i hc
          refine ⟨.inr rfl, by omega, fun k hk h0 hki => ?_⟩
          have : k = 2 * i + 1 ∨ k = 2 * i + 2 := by omega
          rcases this with rfl | rfl
          · omega
          · omega
        · rename_i hc
          refine ⟨.inl rfl, by omega, fun k hk h0 hki => ?_⟩
          have : k = 2 * i + 1 ∨ k = 2 * i + 2 := by omega
          rcases this with rfl | rfl
          · omega
          · have : ¬ h[2 * i + 2]?.getD 0 < h[2 * i + 1]?.getD 0 := fun hlt => hc ⟨by omega, hlt⟩
            omega
      obtain ⟨j, hj⟩ : ∃ j, chJ h i m = j := ⟨_, rfl⟩
      rw [hj] at hch ⊢
      obtain ⟨hj1, hjm, hjs⟩ := hch
      have hpj : (j - 1) / 2 = i := by omega
      have hil : i < h.length := by omega
      have hjl : j < h.length := by omega
      by_cases hl : h[j]?.getD 0 < h[i]?.getD 0
      · rw [if_pos hl]
        have hl' : atI h j < atI h i := hl
        refine downF_ok f (swL h i j) j m (by omega) (by rw [swL_len]; exact hm) ?_ ?_
        · intro k h0 hk hkj
          rw [at_sw hil hjl, at_sw hil hjl, if_neg hkj]
          by_cases hki : (k - 1) / 2 = i
          · rw [if_pos hki]
            by_cases hkj2 : k = j
            · rw [if_pos hkj2]
              omega
            · rw [if_neg hkj2, if_neg (by omega)]
              exact hjs k hk h0 hki
          · rw [if_neg hki]
            by_cases hkj2 : k = j
            · omega
            · rw [if_neg hkj2]
              by_cases hki2 : k = i
              · rw [if_pos hki2]
                subst hki2
                exact hb j (by omega) hjm hpj h0
              · rw [if_neg hki2]
                exact ha k h0 hk hki
        · intro k h0 hk hkj _
          rw [at_sw hil hjl, at_sw hil hjl, hpj, if_neg (by omega), if_pos rfl, if_neg (by omega), if_neg (by omega)]
          have := ha k h0 hk (by omega)
          rw [hkj] at this
          exact this
      · rw [if_neg hl]
        have hl' : ¬ atI h j < atI h i := hl
        intro k h0 hk
        by_cases hki : (k - 1) / 2 = i
        · rw [hki]
          have := hjs k hk h0 hki
          omega
        · exact ha k h0 hk hki
theorem pushL_ok {h : List Int} {x : Int} (hh : HpOk h h.length) : HpOk (pushL h x) (pushL h x).length := by
  rw [pushL_len]
  have hat : ∀ k, k < h.length → atI (h ++ [x]) k = atI h k := fun k hk => by
    unfold atI
    rw [List.getElem?_append_left hk]
  have := upF_ok h.length (h ++ [x]) h.length (Nat.le_refl _) (by simp) (fun k h0 hk hkn => by
    have hk' : k < h.length := by simp at hk; omega
    rw [hat k hk', hat _ (by omega)]
    exact hh k h0 hk') (fun k h0 hk hkn h1 => by simp at hk; omega)
  rw [List.length_append] at this
  exact this
theorem popL_ok {h : List Int} {x : Int} (hx : h[0]? = some x) (hh : HpOk h h.length) : HpOk (popL h) (popL h).length := by
  have hl := popL_len hx
  have hpos : 0 < h.length := by omega
  have hs := popL_spec hx
  have hdn := downF_ok (h.length - 1) (swL h 0 (h.length - 1)) 0 (h.length - 1) (by omega) (by rw [swL_len]; omega) (fun k h0 hk hk0 => by
    rw [at_sw hpos (by omega), at_sw hpos (by omega), if_neg (by omega), if_neg (by omega), if_neg (by omega), if_neg (by omega)]
    exact hh k h0 (by omega)) (fun k h0 hk hk0 h1 => absurd h1 (Nat.lt_irrefl 0))
  rw [hs] at hdn
  intro k h0 hk
  have := hdn k h0 (by omega)
  unfold atI at this ⊢
  rw [List.getElem?_append_left (by omega), List.getElem?_append_left (by omega)] at this
  exact this
theorem HpOk.least {h : List Int} {x : Int} (hh : HpOk h h.length) (hx : h[0]? = some x) : ∀ y ∈ h, x ≤ y := by
  intro y hy
  obtain ⟨k, hk⟩ := List.mem_iff_getElem?.1 hy
  have := hh.head k (List.getElem?_eq_some_iff.1 hk).1
  unfold atI at this
  rw [hx, hk] at this
  exact this
theorem HpOk.nil : HpOk [] ([] : List Int).length := fun k h0 hk => by simp at hk
end Go.Proofs.YtjnphoeifonenaaDoor

/- Order takes the least that may come, each time: there is one such order alone. -/
set_option linter.unusedSimpArgs false
set_option linter.unusedVariables false
namespace Go.Proofs.YtjnphoeifonenaaDoor
open Go.RowKit

/-- May u come behind o? -/
def Rdy (Es : List En) (o : List Int) (u : Nat) : Prop := u < Es.length ∧ (u : Int) ∉ o ∧ ∀ a ∈ nxE Es u, (a : Int) ∈ o
/-- Each may come where it stands, and is the least that may. -/
def Gr (Es : List En) (o : List Int) : Prop := ∀ (o1 : List Int) (y : Int) (o2 : List Int), o = o1 ++ y :: o2 → ∃ yn : Nat, y = (yn : Int) ∧ Rdy Es o1 yn ∧ ∀ u, Rdy Es o1 u → yn ≤ u
theorem Gr.nil (Es : List En) : Gr Es [] := fun o1 y o2 h => by simp at h
theorem snoc_cut {p p1 p2 : List Int} {x y : Int} (h : p ++ [y] = p1 ++ x :: p2) : (p2 = [] ∧ x = y ∧ p1 = p) ∨ ∃ p2', p2 = p2' ++ [y] ∧ p = p1 ++ x :: p2' := snoc_split h
theorem Gr.snoc {Es : List En} {o : List Int} {x : Nat} (h : Gr Es o) (hx : Rdy Es o x) (hl : ∀ u, Rdy Es o u → x ≤ u) : Gr Es (o ++ [(x : Int)]) := fun o1 y o2 e => by
  rcases snoc_cut e with ⟨_, rfl, rfl⟩ | ⟨o2', _, e'⟩
  · exact ⟨x, rfl, hx, hl⟩
  · exact h o1 y o2' e'
theorem gr_same {Es : List En} {o o' : List Int} (h : Gr Es o) (h' : Gr Es o') (hl : o.length = o'.length) : o = o' := by
  have key : ∀ k, k ≤ o.length → o.take k = o'.take k := by
    intro k
    induction k with
    | zero => intro _; simp
    | succ k ih =>
      intro hk
      have e := ih (by omega)
      obtain ⟨y, hy⟩ := at_lt (show k < o.length by omega)
      obtain ⟨y', hy'⟩ := at_lt (show k < o'.length by omega)
      have s : o = o.take k ++ y :: o.drop (k + 1) := by
        conv => lhs; rw [← List.take_append_drop k o]
        rw [List.drop_eq_getElem_cons (by omega)]
        rw [List.getElem?_eq_getElem (by omega)] at hy
        injection hy with hy
        rw [hy]
      have s' : o' = o'.take k ++ y' :: o'.drop (k + 1) := by
        conv => lhs; rw [← List.take_append_drop k o']
        rw [List.drop_eq_getElem_cons (by omega)]
        rw [List.getElem?_eq_getElem (by omega)] at hy'
        injection hy' with hy'
        rw [hy']
      obtain ⟨a, rfl, ha, hla⟩ := h _ _ _ s
      obtain ⟨b, rfl, hb, hlb⟩ := h' _ _ _ s'
      rw [e] at ha hla
      have h1 := hla b hb
      have h2 := hlb a ha
      have : a = b := by omega
      subst this
      rw [take_snoc hy, take_snoc hy', e]
  have := key o.length (Nat.le_refl _)
  rw [List.take_length, hl, List.take_length] at this
  exact this
theorem dec1_ok {ws h : List Int} {v : Int} (hh : HpOk h h.length) : HpOk (dec1 ws h v).2 (dec1 ws h v).2.length := by
  unfold dec1
  simp only
  split
  · exact pushL_ok hh
  · exact hh
theorem decF_ok : ∀ (us ws h : List Int), HpOk h h.length → HpOk (decF us ws h).2 (decF us ws h).2.length
  | [], ws, h, hh => hh
  | v :: us, ws, h, hh => by
    rw [decF]
    exact decF_ok us _ _ (dec1_ok hh)
theorem ordI_hp (Es : List En) : ∀ k, HpOk (ordI Es k).2 (ordI Es k).2.length
  | 0 => fun k h0 hk => by simp [ordI] at hk
  | k + 1 => by
    have ih := ordI_hp Es k
    unfold ordI
    simp only
    split
    · exact pushL_ok ih
    · exact ih
theorem oj_ready {Es : List En} {ws h o : List Int} (J : OJ Es ws h o) {u : Nat} (hu : Rdy Es o u) : (u : Int) ∈ h := by
  obtain ⟨h1, h2, h3⟩ := hu
  have hw := J.w u h1
  have hz : ((nxE Es u).filter (fun (a : Nat) => decide ((a : Int) ∉ o))) = [] := by
    rw [List.filter_eq_nil_iff]
    intro a ha
    simpa using h3 a ha
  rw [hz] at hw
  rcases (J.m u h1).2 hw with h | h
  · exact h
  · exact absurd h h2
theorem main_gr {Es : List En} (hok : EsOk Es) : ∀ (f D : Nat) (ws h o : List Int), OI Es.length D ws h o → OJ Es ws h o → HpOk h h.length → Gr Es o → Gr Es (mainF Es f ws h o)
  | 0, D, ws, h, o, I, J, H, G => G
  | f + 1, D, ws, h, o, I, J, H, G => by
    rw [mainF]
    cases hx : h[0]? with
    | none => exact G
    | some x =>
      have hxh := List.mem_of_getElem? hx
      have hxr := I.lo x (List.mem_append_left _ hxh)
      obtain ⟨xn, rfl⟩ := Int.eq_ofNat_of_zero_le hxr.1
      have hxl : xn < Es.length := by have := hxr.2.1; omega
      have hJ := J.step hok I hx
      have hI := decF_OI ((belowL Es)[xn]?.getD []) (I.pop hx) (fun v hv => by
        cases hb : (belowL Es)[xn]? with
        | none => rw [hb] at hv; simp at hv
        | some l =>
          rw [hb] at hv
          exact (below_facts hok).2 l (List.mem_of_getElem? hb) v hv)
      have hxo : (xn : Int) ∉ o := fun ho => by
        have := I.nd
        rw [List.nodup_append] at this
        exact this.2.2 _ hxh _ ho rfl
      have hrx : Rdy Es o xn := ⟨hxl, hxo, hJ.q o xn [] rfl⟩
      exact main_gr hok f _ _ _ _ hI hJ (decF_ok _ _ _ (popL_ok hx H)) (G.snoc hrx (fun u hu => by
        have := H.least hx (u : Int) (oj_ready J hu)
        omega))
theorem ord_gr {Es : List En} (hok : EsOk Es) : Gr Es (ordL Es) := main_gr hok _ 0 _ _ [] (ordI_OI hok) (ordI_OJ Es) (ordI_hp Es _) (Gr.nil Es)
/-- If none is above itself, one more may come until all have. -/
theorem rdy_some {Es : List En} (hok : EsOk Es) (hac : ∀ i, ¬ Cyc Es i) {o : List Int} (hl : o.length < Es.length) : ∃ u, Rdy Es o u := by
  obtain ⟨_, _, _, h4⟩ := ord_says hok
  have hall := (h4 hac).1
  have hne : ∃ u : Nat, u < Es.length ∧ (u : Int) ∉ o := by
    refine Classical.byContradiction fun hn => ?_
    have := le_of_all Es.length o (fun u hu => Classical.byContradiction fun h => hn ⟨u, hu, h⟩)
    omega
  obtain ⟨u, hu, huo⟩ := hne
  have key : ∀ (k : Nat), k ≤ (ordL Es).length → (∀ y ∈ (ordL Es).take k, y ∈ o) ∨ ∃ u, Rdy Es o u := by
    intro k
    induction k with
    | zero => intro _; left; simp
    | succ k ih =>
      intro hk
      rcases ih (by omega) with h | h
      · obtain ⟨y, hy⟩ := at_lt (show k < (ordL Es).length by omega)
        by_cases hyo : y ∈ o
        · left
          rw [take_snoc hy]
          intro z hz
          rcases List.mem_append.1 hz with hz | hz
          · exact h z hz
          · rw [List.mem_singleton.1 hz]; exact hyo
        · right
          have s : ordL Es = (ordL Es).take k ++ y :: (ordL Es).drop (k + 1) := by
            conv => lhs; rw [← List.take_append_drop k (ordL Es)]
            rw [List.drop_eq_getElem_cons (by omega)]
            rw [List.getElem?_eq_getElem (by omega)] at hy
            injection hy with hy
            rw [hy]
          obtain ⟨yn, rfl, hr, _⟩ := ord_gr hok _ _ _ s
          exact ⟨yn, hr.1, hyo, fun a ha => h _ (hr.2.2 a ha)⟩
      · exact .inr h
  rcases key _ (Nat.le_refl _) with h | h
  · rw [List.take_length] at h
    exact absurd (h _ (hall u hu)) huo
  · exact h
end Go.Proofs.YtjnphoeifonenaaDoor

/- The reference's Order. -/
set_option linter.unusedSimpArgs false
set_option linter.unusedVariables false
set_option maxRecDepth 100000
namespace Go.Proofs.YtjnphoeifonenaaDoor
open Go.RowKit

def O1 (Es : List En) (n g : Nat) (W0 wr : World) (V : Value) (o : List Int) (ms : List Bool) : Prop := OwnI wr (g + 1) V o ∧ Gr Es o ∧ o.length ≤ n ∧ OwnB wr 0 (.slice (some ⟨g, 0, none⟩) n n) ms ∧ ms.length = n ∧ (∀ u : Nat, u < n → ms[u]? = some (decide ((u : Int) ∈ o))) ∧ Turn [] W0 wr
theorem O1.turn {Es : List En} {n g : Nat} {W0 wr w' : World} {V : Value} {o : List Int} {ms : List Bool} (h : O1 Es n g W0 wr V o ms) (t : Turn [] wr w') : O1 Es n g W0 w' V o ms := by
  obtain ⟨h1, h2, h3, h4, h5, h6, h7⟩ := h
  exact ⟨h1.turn' t, h2, h3, h4.turn' t, h5, h6, h7.trans' t⟩
/-- Is i ready, by the first k of those right above it? -/
def rdB (Es : List En) (o : List Int) (i k : Nat) : Bool := !decide ((i : Int) ∈ o) && ((nxE Es i).take k).all fun a => decide ((a : Int) ∈ o)
theorem rdB_zero (Es : List En) (o : List Int) (i : Nat) : rdB Es o i 0 = !decide ((i : Int) ∈ o) := by simp [rdB]
theorem rdB_next {Es : List En} {o : List Int} {i k a : Nat} (ha : (nxE Es i)[k]? = some a) : rdB Es o i (k + 1) = (rdB Es o i k && decide ((a : Int) ∈ o)) := by
  unfold rdB
  rw [take_snoc ha, List.all_append, Bool.and_assoc]
  simp
theorem rdB_rdy {Es : List En} {o : List Int} {i : Nat} (hi : i < Es.length) : rdB Es o i (nxE Es i).length = true ↔ Rdy Es o i := by
  unfold rdB Rdy
  rw [List.take_length, Bool.and_eq_true, List.all_eq_true]
  constructor
  · rintro ⟨h1, h2⟩
    exact ⟨hi, by simpa using h1, fun a ha => by simpa using h2 a ha⟩
  · rintro ⟨_, h1, h2⟩
    exact ⟨by simpa using h1, fun a ha => by simpa using h2 a ha⟩
set_option maxHeartbeats 25600000 in
theorem rorder_any (A : Option Addr) (c B : Nat) (l : List K8) (m0 m1 m2 m3 m4 m5 m6 m7 m8 : Value) (w : World) (hr : RdKs B w A l) (hl : l.length ≤ 1000) (hfl : ∀ x ∈ l, x.fcs.length ≤ 999) (hrt : ∀ j x, l[j]? = some x → rtI l x = ofN (nxE (esL l) j)) (hac : ∀ i, ¬ Cyc (esL l) i) :
    Calls Tryd.prog 15 #[.agg #[.slice A l.length c, m0, m1, m2, m3, m4, m5, m6, m7, m8]] w fun e w' => ∃ U o, e = .returned U ∧ OwnI w' w.heap.size U o ∧ Gr (esL l) o ∧ o.length = l.length ∧ Turn [] w w' := by
  obtain ⟨n, hn⟩ : ∃ n, l.length = n := ⟨_, rfl⟩
  obtain ⟨r, hrr⟩ : ∃ r, w.heap.size = r := ⟨_, rfl⟩
  obtain ⟨W0, hW0⟩ : ∃ W, w.alloc (.cells #[.slice A n c, m0, m1, m2, m3, m4, m5, m6, m7, m8] 30) = W := ⟨_, rfl⟩
  have t0 : Turn [] w W0 := by rw [← hW0]; exact (Turn.refl [] w).alloc _
  have s0 : W0.heap.size = r + 1 := by rw [← hW0, ← hrr]; simp
  have b0 : W0.heap[r]? = some (.cells #[.slice A n c, m0, m1, m2, m3, m4, m5, m6, m7, m8] 30 (0, 0)) := by rw [← hW0, ← hrr]; exact heap_alloc_new w _
  obtain ⟨Es, hEs⟩ : ∃ Es, esL l = Es := ⟨_, rfl⟩
  have hok : EsOk Es := by rw [← hEs]; exact esL_ok hl hfl
  have hen : Es.length = n := by rw [← hEs, esL_len, hn]
  rw [hEs] at hrt hac ⊢
  have HRt : Hid (∀ W (j : Nat), Turn [] W0 W → j < n → Calls Tryd.prog 24 #[.agg #[.slice A n c, m0, m1, m2, m3, m4, m5, m6, m7, m8], .int .i64 (j : Int)] W fun e w' => ∃ U, e = .returned U ∧ OwnI w' W.heap.size U (ofN (nxE Es j)) ∧ Turn [] W w') := Lib.hid fun W j t hj => by
    obtain ⟨x, hx⟩ := at_lt (show j < l.length by omega)
    rw [← hn, ← hrt j x hx]
    exact rright_any A c B l m0 m1 m2 m3 m4 m5 m6 m7 m8 j x W ((hr.turn t0 (by simp)).turn t (by simp)) hl hx (hfl x (List.mem_of_getElem? hx))
  have p0 : W0.cell? ⟨r, 0, none⟩ = some (.slice A n c) := cell_of_row W0 r 0 _ _ _ b0
  have hpc : ∀ W, Turn [] W0 W → ∀ (q : Nat) (v : Value), (#[Value.slice A n c, m0, m1, m2, m3, m4, m5, m6, m7, m8] : Array Value)[q]? = some v → W.cell? ⟨r, q, none⟩ = some v := fun W t q v hv => (cell_of_row W r q _ _ _ (t.heap b0 (by simp))).trans hv
  obtain ⟨g, hg⟩ : ∃ g, W0.heap.size = g := ⟨_, rfl⟩
  obtain ⟨W1, hW1⟩ : ∃ W, W0.alloc (.cells (madeCells #[.bool false] n) 4) = W := ⟨_, rfl⟩
  have t1 : Turn [] W0 W1 := by rw [← hW1]; exact (Turn.refl [] W0).alloc _
  have hd1 : OwnB W1 0 (.slice (some ⟨g, 0, none⟩) n n) (List.replicate n false) := by
    have := OwnB.falses W0 0 n (Nat.zero_le _) (by omega)
    rw [Nat.mul_one, hg, hW1] at this
    exact this
  have hmk := fun W : World => make_bools n (by omega) W
  simp only [Nat.mul_one] at hmk
  have hrn : r < W0.heap.size := by omega
  have HSZ : Hid (W0.heap.size = g ∧ g < W1.heap.size) := Lib.hid ⟨hg, by rw [← hW1, ← hg]; simp⟩
  have H10 : Hid (O1 Es n g W0 W1 (.slice none 0 0) [] (List.replicate n false)) := Lib.hid ⟨OwnI.nil _ _, Gr.nil _, Nat.zero_le _, hd1, by simp, fun u hu => by simp [hu], t1⟩
  have HP := Lib.hid hpc
  have HOK := Lib.hid hok
  have HEN := Lib.hid hen
  have HT0 := Lib.hid t0
  have HW0 := Lib.hid hW0
  have HW1 := Lib.hid hW1
  have HRR := Lib.hid hrr
  have HG := Lib.hid hg
  have HAC := Lib.hid hac
  have HRG : Hid (r < g) := Lib.hid (by omega)
  have hn1 : n ≤ 1000 := by omega
  rw [hn]
  clear hr hrr hW0 t0 s0 b0 hW1 t1 hd1 hpc hok hen hg hrt hEs hfl hn hl hac
  go_enter Tryd.func15, Tryd.ntmps15
  go_upto_region 1 with fail
  rw [HRR.out, HW0.out]
  go_upto_region 3 with fail
  rw [HG.out, HW1.out]
  clear hmk p0 hrn
  go_wp2_with fail
  go_loopw [3] (fun v3 wr => ∃ (o : List Int) (ms : List Bool), Hid (O1 Es n g W0 wr v3 o ms)) (fun v3 _ => n - lenV v3)
  case atStart => exact ⟨_, _, H10⟩
  case round =>
    clear H10
    obtain ⟨o, ms, HO⟩ := hrel
    obtain ⟨A3, c3, hv3, _, _⟩ := HO.out.1.form
    obtain ⟨L, hL⟩ : ∃ L, o.length = L := ⟨_, rfl⟩
    rw [hL] at hv3
    have hLn : L ≤ n := by have := HO.out.2.2.1; omega
    have HL := Lib.hid hL
    subst hv3
    clear hL
    by_cases hLn2 : L < n
    · have d1 : decide ((L : Int) < (n : Int)) = true := by simp; omega
      have d2 : (L : Int) < (n : Int) := by omega
      have H20 : Hid (O1 Es n g W0 wr (.slice A3 L c3) o ms ∧ ∀ u, u < 0 → ¬ Rdy Es o u) := Lib.hid ⟨HO.out, fun u hu => absurd hu (Nat.not_lt_zero u)⟩
      clear HO
      go_wp2_with fail
      go_loopw [3, 5] (fun v3 v5 wr => ∃ i : Nat, i ≤ n ∧ v3 = .slice A3 L c3 ∧ v5 = .int .i64 (i : Int) ∧ Hid (O1 Es n g W0 wr (.slice A3 L c3) o ms ∧ ∀ u, u < i → ¬ Rdy Es o u)) (fun _ v5 _ => n - (intOf v5).toNat)
      case atStart => exact ⟨0, Nat.zero_le _, rfl, rfl, H20⟩
      case round =>
        clear H20
        obtain ⟨i, hi, rfl, rfl, H2⟩ := hrel
        by_cases hin : i < n
        · have d3 : decide ((i : Int) < (n : Int)) = true := by simp; omega
          have d4 : (i : Int) < (n : Int) := by omega
          have tt := H2.out.1.2.2.2.2.2.2
          have cm : wr.cell? ⟨g, i, none⟩ = some (.bool (decide ((i : Int) ∈ o))) := H2.out.1.2.2.2.1.at.1 i _ (H2.out.1.2.2.2.2.2.1 i hin)
          obtain ⟨b0, hb0⟩ : ∃ b0, decide ((i : Int) ∈ o) = b0 := ⟨_, rfl⟩
          rw [hb0] at cm
          have HB0 : Hid (rdB Es o i 0 = !b0) := Lib.hid (by rw [rdB_zero, hb0])
          clear hb0
          have q0 : wr.cell? ⟨r, 0, none⟩ = some (.slice A n c) := HP.out wr (tt) 0 _ rfl
          have q1 : wr.cell? ⟨r, 1, none⟩ = some m0 := HP.out wr (tt) 1 _ rfl
          have q2 : wr.cell? ⟨r, 2, none⟩ = some m1 := HP.out wr (tt) 2 _ rfl
          have q3 : wr.cell? ⟨r, 3, none⟩ = some m2 := HP.out wr (tt) 3 _ rfl
          have q4 : wr.cell? ⟨r, 4, none⟩ = some m3 := HP.out wr (tt) 4 _ rfl
          have q5 : wr.cell? ⟨r, 5, none⟩ = some m4 := HP.out wr (tt) 5 _ rfl
          have q6 : wr.cell? ⟨r, 6, none⟩ = some m5 := HP.out wr (tt) 6 _ rfl
          have q7 : wr.cell? ⟨r, 7, none⟩ = some m6 := HP.out wr (tt) 7 _ rfl
          have q8 : wr.cell? ⟨r, 8, none⟩ = some m7 := HP.out wr (tt) 8 _ rfl
          have q9 : wr.cell? ⟨r, 9, none⟩ = some m8 := HP.out wr (tt) 9 _ rfl
          obtain ⟨q, hq⟩ : ∃ q, wr.heap.size = q := ⟨_, rfl⟩
          have HRx := Lib.hid (HRt.out wr i tt hin)
          rw [hq] at HRx
          clear hq tt
          go_wp2_with fail
          refine HRx.out.mono ?_
          rintro e w4 ⟨U, rfl, hU, t4⟩
          obtain ⟨AU, cU, hUe, hUi, _⟩ := hU.form
          obtain ⟨N, hN⟩ : ∃ N, (nxE Es i).length = N := ⟨_, rfl⟩
          have hNo : (ofN (nxE Es i)).length = N := by unfold ofN; rw [List.length_map, hN]
          rw [hNo] at hUe
          have hN1 : N ≤ 1000 := by rw [← hN]; exact HOK.out.few i
          have H4 := Lib.hid (H2.out.1.turn t4)
          have H4N : Hid (∀ u, u < i → ¬ Rdy Es o u) := Lib.hid H2.out.2
          have HUI := Lib.hid hUi
          subst hUe
          have HNN := Lib.hid hN
          clear hU hUi t4 hN hNo q0 q1 q2 q3 q4 q5 q6 q7 q8 q9 cm HRx H2
          go_wp2_with fail
          go_loopw [6, 8] (fun v6 v8 wr => ∃ (k : Nat), k ≤ N ∧ v6 = .bool (rdB Es o i k) ∧ v8 = .int .i64 (k : Int) ∧ wr = w4) (fun _ v8 _ => N - (intOf v8).toNat)
          case atStart => exact ⟨0, Nat.zero_le _, by rw [HB0.out], rfl, rfl⟩
          case round =>
            obtain ⟨k, hk, rfl, rfl, rfl⟩ := hrel
            obtain ⟨bb, hbb⟩ : ∃ bb, rdB Es o i k = bb := ⟨_, rfl⟩
            rw [hbb]
            have HBB := Lib.hid hbb
            clear hbb
            by_cases hkN : k < N
            · have d5 : decide ((k : Int) < (N : Int)) = true := by simp; omega
              have d6 : (k : Int) < (N : Int) := by omega
              obtain ⟨a, ha⟩ := at_lt (show k < (nxE Es i).length by rw [HNN.out]; exact hkN)
              have HNX : Hid (rdB Es o i (k + 1) = (bb && decide ((a : Int) ∈ o))) := Lib.hid (by rw [rdB_next ha, HBB.out])
              cases bb with
              | false =>
                have HN3 : Hid (rdB Es o i (k + 1) = false) := Lib.hid HNX.out
                clear ha
                go_wp2_with fail
                go_roundw
                case rel => exact ⟨k + 1, by omega, by rw [HN3.out], by go_num, by trivial⟩
                case measure => simp [intOf]; omega
              | true =>
                obtain ⟨ab, aoff, rfl, _, ca⟩ := HUI.out k (a : Int) (by unfold ofN; simp [ha])
                have han : a < n := by have := HOK.out.lt i a (List.mem_of_getElem? ha); rw [HEN.out] at this; exact this
                have d7 : (a : Int) < (n : Int) := by omega
                have cb : wr.cell? ⟨g, a, none⟩ = some (.bool (decide ((a : Int) ∈ o))) := H4.out.2.2.2.1.at.1 a _ (H4.out.2.2.2.2.2.1 a han)
                obtain ⟨bd, hbd⟩ : ∃ bd, decide ((a : Int) ∈ o) = bd := ⟨_, rfl⟩
                rw [hbd] at cb HNX
                have HN3 : Hid (rdB Es o i (k + 1) = bd) := Lib.hid (by rw [HNX.out]; rfl)
                clear ha hbd
                go_wp2_with fail
                go_roundw
                case rel => exact ⟨k + 1, by omega, by rw [HN3.out], by go_num, by trivial⟩
                case measure => simp [intOf]; omega
            · obtain rfl : k = N := by omega
              have d5 : decide ((k : Int) < (k : Int)) = false := by simp
              have HRD : Hid (bb = true ↔ Rdy Es o i) := Lib.hid (by rw [← HBB.out, ← HNN.out]; exact rdB_rdy (by rw [HEN.out]; exact hin))
              cases bb with
              | false =>
                have HN2 : Hid (O1 Es n g W0 wr (.slice A3 L c3) o ms ∧ ∀ u, u < i + 1 → ¬ Rdy Es o u) := Lib.hid ⟨H4.out, fun u hu => by
                  by_cases e : u = i
                  · subst e
                    intro h
                    have := HRD.out.2 h
                    cases this
                  · exact H4N.out u (by omega)⟩
                go_wp2_with fail
                go_roundw
                case rel => exact ⟨i + 1, by omega, by trivial, by go_num, HN2⟩
                case measure => simp [intOf]; omega
              | true =>
                have hrd : Rdy Es o i := HRD.out.1 rfl
                have HRI := Lib.hid hrd
                have cbf : wr.frozen? ⟨g, i, none⟩ = false := H4.out.2.2.2.1.at.2 i
                have cm : wr.cell? ⟨g, i, none⟩ = some (.bool (decide ((i : Int) ∈ o))) := H4.out.2.2.2.1.at.1 i _ (H4.out.2.2.2.2.2.1 i hin)
                have tS : Turn [g] wr (wr.setCell ⟨g, i, none⟩ (.bool true)) := (Turn.refl [g] wr).setCell (.inl (by simp)) _
                have hso : OwnI (wr.setCell ⟨g, i, none⟩ (.bool true)) (g + 1) (.slice A3 L c3) o := H4.out.1.turn tS (fun x hx hh => by have := (H4.out.1.lt x hx).1; simp at hh; omega)
                have hgs : g + 1 ≤ (wr.setCell ⟨g, i, none⟩ (.bool true)).heap.size := by
                  have h1 := H4.out.2.2.2.1.lt g rfl
                  have h2 := tS.size
                  omega
                have hol : o.length ≤ 10000000 := by have := HL.out; omega
                have HSO := Lib.hid (And.intro hso (And.intro hgs tS))
                clear hrd hso hgs tS
                go_wp2_with (at_builtin
                             refine wpList_app1' rfl (.tmp 52) (.tmp 54) rfl (wr.setCell ⟨g, i, none⟩ (.bool true)) (g + 1) (.slice A3 L c3) o (i : Int) 1 rfl HSO.out.1 (by simp [Act.eval, World.setCell]) hol HSO.out.2.1 ?_
                             intro v6 w6 ho6 ht6 hm6
                             have HO6 := Lib.hid (And.intro ho6 (And.intro ht6 hm6))
                             clear ho6 ht6 hm6)
                obtain ⟨A6, c6, hv6, _, _⟩ := HO6.out.1.form
                have hown : ∀ x, (Value.slice A3 L c3).ownBlock = some x → g + 1 ≤ x := fun x hx => (H4.out.1.lt x hx).1
                have hLo : o.length = L := HL.out
                refine ⟨⟨o ++ [(i : Int)], ms.set i true, Lib.hid ⟨HO6.out.1, H4.out.2.1.snoc HRI.out (fun u hu => ?_), ?_, ?_, ?_, fun u hu => ?_, ?_⟩⟩, ?_⟩
                · refine Classical.byContradiction fun h => H4N.out u (by omega) hu
                · rw [List.length_append, hLo]
                  simp
                  omega
                · exact (H4.out.2.2.2.1.putAt H4.out.2.2.2.2.1.symm).turn HO6.out.2.1 (fun x hx hh => by
                    have h1 := hown x (by simpa using hh)
                    have h2 := ob_some hx
                    omega)
                · rw [List.length_set]
                  exact H4.out.2.2.2.2.1
                · rw [List.getElem?_set]
                  by_cases e : i = u
                  · subst e
                    rw [if_pos rfl, if_pos (by rw [H4.out.2.2.2.2.1]; exact hu)]
                    simp
                  · rw [if_neg e, H4.out.2.2.2.2.2.1 u hu]
                    have : ¬ ((u : Int) = (i : Int)) := by omega
                    simp [this]
                · refine (H4.out.2.2.2.2.2.2.trans HSO.out.2.2 (fun x hx => .inr ?_)).trans HO6.out.2.1 (fun x hx => .inr ?_)
                  · simp at hx
                    have := HG.out
                    omega
                  · have := hown x (by simpa using hx)
                    have := HG.out
                    omega
                · rw [hv6]
                  simp only [lenV, List.length_append, List.length_cons, List.length_nil]
                  omega
        · obtain rfl : i = n := by omega
          obtain ⟨u, hu⟩ := rdy_some HOK.out HAC.out (o := o) (by rw [HL.out, HEN.out]; exact hLn2)
          exact absurd hu (H2.out.2 u (by have := hu.1; rw [HEN.out] at this; exact this))
    · obtain rfl : L = n := by omega
      have d1 : decide ((L : Int) < (L : Int)) = false := by simp
      go_wp2_with fail
      go_ret
      refine ⟨_, o, rfl, ?_, HO.out.2.1, HL.out, HT0.out.trans' HO.out.2.2.2.2.2.2⟩
      rw [HRR.out]
      exact HO.out.1.mono (by have := HRG.out; omega)
end Go.Proofs.YtjnphoeifonenaaDoor

/- The reference's Above: plain. -/
set_option linter.unusedSimpArgs false
set_option linter.unusedVariables false
set_option maxRecDepth 100000
namespace Go.Proofs.YtjnphoeifonenaaDoor
open Go.RowKit

theorem up_ab1 {Es : List En} {i j : Nat} : Up Es i j ↔ i < Es.length ∧ (j = i ∨ Ab1 Es i j) := by
  constructor
  · intro h
    refine ⟨h.start.1, ?_⟩
    by_cases e : i = j
    · exact .inl e.symm
    · right
      obtain ⟨a, ha, hu⟩ := Ua.first h e
      exact ⟨a, ha, hu⟩
  · rintro ⟨hi, rfl | ⟨a, ha, hu⟩⟩
    · exact .refl hi (by simp)
    · exact Ua.head hi (by simp) ha hu
/-- Does one of the first q have k above it, or is k? -/
def Inq (Es : List En) (is : List Int) (k q : Nat) : Prop := ∃ i : Nat, (i : Int) ∈ is.take q ∧ Up Es i k
noncomputable def inB (Es : List En) (is : List Int) (k q : Nat) : Bool := by
  classical exact decide (Inq Es is k q)
theorem inB_iff {Es : List En} {is : List Int} {k q : Nat} : inB Es is k q = true ↔ Inq Es is k q := by
  unfold inB
  simp
theorem inB_zero (Es : List En) (is : List Int) (k : Nat) : inB Es is k 0 = false := by
  rw [Bool.eq_false_iff]
  intro h
  obtain ⟨i, h, _⟩ := inB_iff.1 h
  simp at h
theorem inB_next {Es : List En} {is : List Int} {k q : Nat} {z : Int} (hz : is[q]? = some z) {b : Bool} (hb : b = true ↔ ∃ i : Nat, z = (i : Int) ∧ Up Es i k) : inB Es is k (q + 1) = (inB Es is k q || b) := by
  rw [Bool.eq_iff_iff, inB_iff, Bool.or_eq_true, inB_iff, hb]
  unfold Inq
  rw [take_snoc hz]
  constructor
  · rintro ⟨i, h, hu⟩
    rcases List.mem_append.1 h with h | h
    · exact .inl ⟨i, h, hu⟩
    · exact .inr ⟨i, (List.mem_singleton.1 h).symm, hu⟩
  · rintro (⟨i, h, hu⟩ | ⟨i, h, hu⟩)
    · exact ⟨i, List.mem_append_left _ h, hu⟩
    · exact ⟨i, List.mem_append_right _ (List.mem_singleton.2 h.symm), hu⟩
def Ao (Es : List En) (is : List Int) (k : Nat) (o : List Int) : Prop := Sd o ∧ o.length ≤ k ∧ ∀ y, y ∈ o ↔ ∃ j : Nat, j < k ∧ y = (j : Int) ∧ Inq Es is j is.length
theorem Ao.skip {Es : List En} {is : List Int} {k : Nat} {o : List Int} (h : Ao Es is k o) (hk : ¬ Inq Es is k is.length) : Ao Es is (k + 1) o := by
  obtain ⟨h1, h2, h3⟩ := h
  refine ⟨h1, by omega, fun y => ?_⟩
  rw [h3]
  constructor
  · rintro ⟨j, hj, e, hi⟩
    exact ⟨j, by omega, e, hi⟩
  · rintro ⟨j, hj, e, hi⟩
    refine ⟨j, ?_, e, hi⟩
    by_cases ej : j = k
    · subst ej; exact absurd hi hk
    · omega
theorem Ao.put {Es : List En} {is : List Int} {k : Nat} {o : List Int} (h : Ao Es is k o) (hk : Inq Es is k is.length) : Ao Es is (k + 1) (o ++ [(k : Int)]) := by
  obtain ⟨h1, h2, h3⟩ := h
  refine ⟨?_, by simp; omega, fun y => ?_⟩
  · unfold Sd
    rw [List.pairwise_append]
    refine ⟨h1, by simp, fun a ha b hb => ?_⟩
    obtain ⟨j, hj, e, _⟩ := (h3 a).1 ha
    have := List.mem_singleton.1 hb
    omega
  · rw [List.mem_append, h3, List.mem_singleton]
    constructor
    · rintro (⟨j, hj, e, hi⟩ | e)
      · exact ⟨j, by omega, e, hi⟩
      · exact ⟨k, by omega, e, hk⟩
    · rintro ⟨j, hj, e, hi⟩
      by_cases ej : j = k
      · subst ej; exact .inr e
      · exact .inl ⟨j, by omega, e, hi⟩
theorem Ao.done {Es : List En} (hn : Es.length ≤ 1000000) {is o : List Int} (h : Ao Es is Es.length o) : o = abvL Es is := by
  obtain ⟨h1, h2, h3⟩ := h
  refine sd_ext h1 (sd_abv Es is) fun y => ?_
  rw [h3, abv_mem hn]
  constructor
  · rintro ⟨j, hj, e, i, hi, hu⟩
    rw [List.take_length] at hi
    exact ⟨i, j, hi, e, hu⟩
  · rintro ⟨i, j, hi, e, hu⟩
    exact ⟨j, hu.lt, e, i, by rw [List.take_length]; exact hi, hu⟩
end Go.Proofs.YtjnphoeifonenaaDoor

/- The reference's Above. -/
set_option linter.unusedSimpArgs false
set_option linter.unusedVariables false
set_option maxRecDepth 100000
namespace Go.Proofs.YtjnphoeifonenaaDoor
open Go.RowKit

def A1 (Es : List En) (is : List Int) (r : Nat) (W0 wr : World) (V : Value) (k : Nat) (o : List Int) : Prop := OwnI wr r V o ∧ Ao Es is k o ∧ Turn [] W0 wr
set_option maxHeartbeats 25600000 in
theorem rabove_any (A : Option Addr) (c B : Nat) (l : List K8) (m0 m1 m2 m3 m4 m5 m6 m7 m8 : Value) (P : Option Addr) (ni ci : Nat) (is : List Int) (w : World) (hr : RdKs B w A l) (hl : l.length ≤ 1000) (hfl : ∀ x ∈ l, x.fcs.length ≤ 999) (hrt : ∀ j x, l[j]? = some x → rtI l x = ofN (nxE (esL l) j)) (hI : Ints w P is) (hni : ni = is.length) (hn2 : ni ≤ 1000000) :
    Calls Tryd.prog 17 #[.agg #[.slice A l.length c, m0, m1, m2, m3, m4, m5, m6, m7, m8], .slice P ni ci] w fun e w' => ∃ U, e = .returned U ∧ OwnI w' w.heap.size U (abvL (esL l) is) ∧ Turn [] w w' := by
  obtain ⟨n, hn⟩ : ∃ n, l.length = n := ⟨_, rfl⟩
  obtain ⟨r, hrr⟩ : ∃ r, w.heap.size = r := ⟨_, rfl⟩
  obtain ⟨W0, hW0⟩ : ∃ W, w.alloc (.cells #[.slice A n c, m0, m1, m2, m3, m4, m5, m6, m7, m8] 30) = W := ⟨_, rfl⟩
  have t0 : Turn [] w W0 := by rw [← hW0]; exact (Turn.refl [] w).alloc _
  have s0 : W0.heap.size = r + 1 := by rw [← hW0, ← hrr]; simp
  have b0 : W0.heap[r]? = some (.cells #[.slice A n c, m0, m1, m2, m3, m4, m5, m6, m7, m8] 30 (0, 0)) := by rw [← hW0, ← hrr]; exact heap_alloc_new w _
  obtain ⟨Es, hEs⟩ : ∃ Es, esL l = Es := ⟨_, rfl⟩
  have hok : EsOk Es := by rw [← hEs]; exact esL_ok hl hfl
  have hen : Es.length = n := by rw [← hEs, esL_len, hn]
  rw [hEs] at hrt ⊢
  have HMk : Hid (∀ W (j : Nat), Turn [] W0 W → j < n → Calls Tryd.prog 31 #[.agg #[.slice A n c, m0, m1, m2, m3, m4, m5, m6, m7, m8], .int .i64 (j : Int)] W fun e w' => ∃ g ms, e = .returned (.slice (some ⟨g, 0, none⟩) n n) ∧ OwnB w' 0 (.slice (some ⟨g, 0, none⟩) n n) ms ∧ ms.length = n ∧ (∀ k : Nat, ms[k]? = some true ↔ Ab1 Es j k) ∧ Turn [] W w') := Lib.hid fun W j t hj => by
    have := rmarks_any A c B l m0 m1 m2 m3 m4 m5 m6 m7 m8 j W ((hr.turn t0 (by simp)).turn t (by simp)) hl hfl (by rw [hEs]; exact hrt) (by omega)
    rw [hn, hEs] at this
    exact this
  have hpc : ∀ W, Turn [] W0 W → ∀ (q : Nat) (v : Value), (#[Value.slice A n c, m0, m1, m2, m3, m4, m5, m6, m7, m8] : Array Value)[q]? = some v → W.cell? ⟨r, q, none⟩ = some v := fun W t q v hv => (cell_of_row W r q _ _ _ (t.heap b0 (by simp))).trans hv
  have HI := Lib.hid (hI.below t0)
  have HP := Lib.hid hpc
  have HOK := Lib.hid hok
  have HEN := Lib.hid hen
  have HT0 := Lib.hid t0
  have HW0 := Lib.hid hW0
  have HRR := Lib.hid hrr
  have HS0 := Lib.hid s0
  have HNI := Lib.hid hni
  have hn1 : n ≤ 1000 := by omega
  rw [hn]
  clear hr hrr hW0 t0 s0 b0 hpc hok hen hrt hEs hfl hn hl hI hni
  go_enter Tryd.func17, Tryd.ntmps17
  go_upto_region 1 with fail
  rw [HRR.out, HW0.out]
  go_wp2_with fail
  go_loopw [5, 6] (fun v5 v6 wr => ∃ (k : Nat) (o : List Int), k ≤ n ∧ v6 = .int .i64 (k : Int) ∧ Hid (A1 Es is (r + 1) W0 wr v5 k o)) (fun _ v6 _ => n - (intOf v6).toNat)
  case atStart => exact ⟨0, [], Nat.zero_le _, rfl, Lib.hid ⟨OwnI.nil _ _, ⟨by simp [Sd], Nat.le_refl _, fun y => by simp⟩, Turn.refl _ _⟩⟩
  case round =>
    obtain ⟨k, o, hk, rfl, HO⟩ := hrel
    have p0 : wr.cell? ⟨r, 0, none⟩ = some (.slice A n c) := HP.out wr HO.out.2.2 0 _ rfl
    by_cases hkn : k < n
    · have d1 : decide ((k : Int) < (n : Int)) = true := by simp; omega
      have d2 : (k : Int) < (n : Int) := by omega
      obtain ⟨A5, c5, hv5, _, _⟩ := HO.out.1.form
      obtain ⟨L, hL⟩ : ∃ L, o.length = L := ⟨_, rfl⟩
      rw [hL] at hv5
      subst hv5
      have HL := Lib.hid hL
      clear hL
      have H20 : Hid (A1 Es is (r + 1) W0 wr (.slice A5 L c5) k o) := HO
      clear HO
      go_wp2_with fail
      go_loopw [7, 8] (fun v7 v8 wr => ∃ q : Nat, q ≤ ni ∧ v7 = .bool (inB Es is k q) ∧ v8 = .int .i64 (q : Int) ∧ Hid (A1 Es is (r + 1) W0 wr (.slice A5 L c5) k o)) (fun _ v8 _ => ni - (intOf v8).toNat)
      case atStart => exact ⟨0, Nat.zero_le _, by rw [inB_zero], rfl, H20⟩
      case round =>
        clear H20 p0
        obtain ⟨q, hq, rfl, rfl, H2⟩ := hrel
        by_cases hqn : q < ni
        · have d3 : decide ((q : Int) < (ni : Int)) = true := by simp; omega
          have d4 : (q : Int) < (ni : Int) := by omega
          obtain ⟨z, hz⟩ := at_lt (show q < is.length by have := HNI.out; omega)
          obtain ⟨ib, ioff, rfl, hib, hic⟩ := HI.out q z hz
          have tt := H2.out.2.2
          have HT := Lib.hid tt
          have HIB : Hid (ib < wr.heap.size) := Lib.hid (Nat.lt_of_lt_of_le hib tt.size)
          have ci0 : wr.cell? ⟨ib, ioff + q, none⟩ = some (.int .i64 z) := (tt.cell (p := ⟨ib, ioff + q, none⟩) hib (by simp)).trans hic
          have p0 : wr.cell? ⟨r, 0, none⟩ = some (.slice A n c) := HP.out wr tt 0 _ rfl
          have HZ := Lib.hid hz
          have HQQ : Hid (∀ b : Bool, (b = true ↔ ∃ i : Nat, z = (i : Int) ∧ Up Es i k) → inB Es is k (q + 1) = (inB Es is k q || b)) := Lib.hid fun b hb => inB_next hz hb
          obtain ⟨bq, hbq⟩ : ∃ bq, inB Es is k q = bq := ⟨_, rfl⟩
          rw [hbq] at HQQ ⊢
          clear hz hic hbq
          by_cases hz0 : 0 ≤ z
          · obtain ⟨i, rfl⟩ := Int.eq_ofNat_of_zero_le hz0
            have d5 : decide ((i : Int) ≥ 0) = true := by simp
            have d5' : decide ((0 : Int) ≤ (i : Int)) = true := by simp
            by_cases hin : i < n
            · have d6 : decide ((i : Int) < (n : Int)) = true := by simp; omega
              by_cases hik : i = k
              · subst hik
                have HN2 : Hid (inB Es is i (q + 1) = true) := Lib.hid (by rw [HQQ.out true ⟨fun _ => ⟨i, rfl, up_ab1.2 ⟨by rw [HEN.out]; exact hin, .inl rfl⟩⟩, fun _ => rfl⟩]; simp)
                have d7 : ((i : Int) == (i : Int)) = true := by simp
                clear tt
                go_upto_region 9 with fail
                go_quiet (fail)
                go_wp2_with fail
                go_roundw
                case rel => exact ⟨q + 1, by omega, by rw [HN2.out], by go_num, Lib.hid ⟨H2.out.1.turn' ((Turn.refl [] _).drewN _), H2.out.2.1, H2.out.2.2.drewN _⟩⟩
                case measure => simp [intOf]; omega
              · have d7 : ((i : Int) == (k : Int)) = false := by simp; omega
                have d7' : decide ((i : Int) = (k : Int)) = false := by simp; omega
                have HMx := Lib.hid (HMk.out wr.drew i (HT.out.drew) hin)
                have HSS : Hid (∀ w', Turn [] wr w' → (w'.cell? ⟨r, 0, none⟩ = some (.slice A n c) ∧ w'.cell? ⟨r, 1, none⟩ = some m0 ∧ w'.cell? ⟨r, 2, none⟩ = some m1 ∧ w'.cell? ⟨r, 3, none⟩ = some m2 ∧ w'.cell? ⟨r, 4, none⟩ = some m3 ∧ w'.cell? ⟨r, 5, none⟩ = some m4 ∧ w'.cell? ⟨r, 6, none⟩ = some m5 ∧ w'.cell? ⟨r, 7, none⟩ = some m6 ∧ w'.cell? ⟨r, 8, none⟩ = some m7 ∧ w'.cell? ⟨r, 9, none⟩ = some m8 ∧ w'.cell? ⟨ib, ioff + q, none⟩ = some (.int .i64 (i : Int)))) := Lib.hid (fun W t => ⟨HP.out W (HT.out.trans' t) 0 _ rfl, HP.out W (HT.out.trans' t) 1 _ rfl, HP.out W (HT.out.trans' t) 2 _ rfl, HP.out W (HT.out.trans' t) 3 _ rfl, HP.out W (HT.out.trans' t) 4 _ rfl, HP.out W (HT.out.trans' t) 5 _ rfl, HP.out W (HT.out.trans' t) 6 _ rfl, HP.out W (HT.out.trans' t) 7 _ rfl, HP.out W (HT.out.trans' t) 8 _ rfl, HP.out W (HT.out.trans' t) 9 _ rfl, (t.cell (p := ⟨ib, ioff + q, none⟩) (HIB.out) (by simp)).trans ci0⟩)
                have hS0 := HSS.out wr (Turn.refl _ _)
                have hS0' := HSS.out wr.drew (Turn.refl _ _).drew
                have hkl : k < n := hkn
                go_upto_region 9 with fail
                refine wp_region_held_drew (S := fun w' => w'.cell? ⟨r, 0, none⟩ = some (.slice A n c) ∧ w'.cell? ⟨r, 1, none⟩ = some m0 ∧ w'.cell? ⟨r, 2, none⟩ = some m1 ∧ w'.cell? ⟨r, 3, none⟩ = some m2 ∧ w'.cell? ⟨r, 4, none⟩ = some m3 ∧ w'.cell? ⟨r, 5, none⟩ = some m4 ∧ w'.cell? ⟨r, 6, none⟩ = some m5 ∧ w'.cell? ⟨r, 7, none⟩ = some m6 ∧ w'.cell? ⟨r, 8, none⟩ = some m7 ∧ w'.cell? ⟨r, 9, none⟩ = some m8 ∧ w'.cell? ⟨ib, ioff + q, none⟩ = some (.int .i64 (i : Int))) (by kernel_rfl) ?_ (fun hHeld => ?_)
                · first | exact hS0 | exact hS0'
                refine wpAnyH_take (i := 0) (oi := { dst := some 22, op := Op.move (Operand.tmp 1), type := 40, pos := "ref.go:97", after := #[], guard := none }) (v := ?_) rfl (by kernel_rfl) (by kernel_rfl) (by kernel_rfl) (fun _ _ _ h => h) (Or.inl ⟨by rfl, ?_⟩) (by assumption) ?_
                rotate_left
                · intro w hSw; (try dsimp only at hSw); go_simp; (try with_reducible rfl)
                try simp only [Act.put, List.setIfInBounds_toArray, List.set_cons_zero, List.set_cons_succ]
                refine wpAnyH_take (i := 1) (oi := { dst := some 23, op := Op.move (Operand.tmp 8), type := 3, pos := "ref.go:97", after := #[], guard := none }) (v := ?_) rfl (by kernel_rfl) (by kernel_rfl) (by kernel_rfl) (fun _ _ _ h => h) (Or.inl ⟨by rfl, ?_⟩) (by assumption) ?_
                rotate_left
                · intro w hSw; (try dsimp only at hSw); go_simp; (try with_reducible rfl)
                try simp only [Act.put, List.setIfInBounds_toArray, List.set_cons_zero, List.set_cons_succ]
                refine wpAnyH_take (i := 2) (oi := { dst := some 24, op := Op.indexAddr 40 (Operand.tmp 22) (Operand.tmp 23), type := 0, pos := "ref.go:97", after := #[{ on := 0, ground := Ground.data }, { on := 1, ground := Ground.data }], guard := none }) (v := ?_) rfl (by kernel_rfl) (by kernel_rfl) (by kernel_rfl) (fun _ _ _ h => h) (Or.inl ⟨by rfl, ?_⟩) (by assumption) ?_
                rotate_left
                · intro w hSw; (try dsimp only at hSw); go_simp; (try with_reducible rfl)
                try simp only [Act.put, List.setIfInBounds_toArray, List.set_cons_zero, List.set_cons_succ]
                refine wpAnyH_take (i := 3) (oi := { dst := some 25, op := Op.load 3 (Operand.tmp 24), type := 3, pos := "ref.go:97", after := #[{ on := 2, ground := Ground.data }], guard := none }) (v := ?_) rfl (by kernel_rfl) (by kernel_rfl) (by kernel_rfl) (fun _ _ _ h => h) (Or.inl ⟨by rfl, ?_⟩) (by assumption) ?_
                rotate_left
                · intro w hSw; (try dsimp only at hSw); go_simp; (try with_reducible rfl)
                try simp only [Act.put, List.setIfInBounds_toArray, List.set_cons_zero, List.set_cons_succ]
                refine wpAnyH_take (i := 4) (oi := { dst := some 26, op := Op.binOp BinOp.geq 3 (Operand.tmp 25) (Operand.const (Value.int IntKind.i64 0)) 3, type := 4, pos := "ref.go:97", after := #[{ on := 3, ground := Ground.data }], guard := none }) (v := ?_) rfl (by kernel_rfl) (by kernel_rfl) (by kernel_rfl) (fun _ _ _ h => h) (Or.inl ⟨by rfl, ?_⟩) (by assumption) ?_
                rotate_left
                · intro w hSw; (try dsimp only at hSw); go_simp; (try with_reducible rfl)
                try simp only [Act.put, List.setIfInBounds_toArray, List.set_cons_zero, List.set_cons_succ]
                refine wpAnyH_take (i := 5) (oi := { dst := some 27, op := Op.move (Operand.tmp 26), type := 4, pos := "ref.go:97", after := #[{ on := 4, ground := Ground.data }], guard := none }) (v := ?_) rfl (by kernel_rfl) (by kernel_rfl) (by kernel_rfl) (fun _ _ _ h => h) (Or.inl ⟨by rfl, ?_⟩) (by assumption) ?_
                rotate_left
                · intro w hSw; (try dsimp only at hSw); go_simp; (try with_reducible rfl)
                try simp only [Act.put, List.setIfInBounds_toArray, List.set_cons_zero, List.set_cons_succ]
                refine wpAnyH_take (i := 6) (oi := { dst := some 28, op := Op.move (Operand.tmp 1), type := 40, pos := "ref.go:97", after := #[{ on := 5, ground := Ground.guard }], guard := some (5, true) }) (v := ?_) rfl (by kernel_rfl) (by kernel_rfl) (by kernel_rfl) (fun _ _ _ h => h) (Or.inl ⟨by rfl, ?_⟩) (by assumption) ?_
                rotate_left
                · intro w hSw; (try dsimp only at hSw); go_simp; (try with_reducible rfl)
                try simp only [Act.put, List.setIfInBounds_toArray, List.set_cons_zero, List.set_cons_succ]
                refine wpAnyH_take (i := 7) (oi := { dst := some 29, op := Op.move (Operand.tmp 8), type := 3, pos := "ref.go:97", after := #[{ on := 5, ground := Ground.guard }], guard := some (5, true) }) (v := ?_) rfl (by kernel_rfl) (by kernel_rfl) (by kernel_rfl) (fun _ _ _ h => h) (Or.inl ⟨by rfl, ?_⟩) (by assumption) ?_
                rotate_left
                · intro w hSw; (try dsimp only at hSw); go_simp; (try with_reducible rfl)
                try simp only [Act.put, List.setIfInBounds_toArray, List.set_cons_zero, List.set_cons_succ]
                refine wpAnyH_take (i := 8) (oi := { dst := some 30, op := Op.indexAddr 40 (Operand.tmp 28) (Operand.tmp 29), type := 0, pos := "ref.go:97", after := #[{ on := 6, ground := Ground.data }, { on := 7, ground := Ground.data }, { on := 5, ground := Ground.guard }], guard := some (5, true) }) (v := ?_) rfl (by kernel_rfl) (by kernel_rfl) (by kernel_rfl) (fun _ _ _ h => h) (Or.inl ⟨by rfl, ?_⟩) (by assumption) ?_
                rotate_left
                · intro w hSw; (try dsimp only at hSw); go_simp; (try with_reducible rfl)
                try simp only [Act.put, List.setIfInBounds_toArray, List.set_cons_zero, List.set_cons_succ]
                refine wpAnyH_take (i := 9) (oi := { dst := some 31, op := Op.load 3 (Operand.tmp 30), type := 3, pos := "ref.go:97", after := #[{ on := 8, ground := Ground.data }, { on := 5, ground := Ground.guard }], guard := some (5, true) }) (v := ?_) rfl (by kernel_rfl) (by kernel_rfl) (by kernel_rfl) (fun _ _ _ h => h) (Or.inl ⟨by rfl, ?_⟩) (by assumption) ?_
                rotate_left
                · intro w hSw; (try dsimp only at hSw); go_simp; (try with_reducible rfl)
                try simp only [Act.put, List.setIfInBounds_toArray, List.set_cons_zero, List.set_cons_succ]
                refine wpAnyH_take (i := 10) (oi := { dst := some 32, op := Op.fieldAddr 30 (Operand.tmp 2) 0, type := 0, pos := "ref.go:97", after := #[{ on := 5, ground := Ground.guard }], guard := some (5, true) }) (v := ?_) rfl (by kernel_rfl) (by kernel_rfl) (by kernel_rfl) (fun _ _ _ h => h) (Or.inl ⟨by rfl, ?_⟩) (by assumption) ?_
                rotate_left
                · intro w hSw; (try dsimp only at hSw); go_simp; (try with_reducible rfl)
                try simp only [Act.put, List.setIfInBounds_toArray, List.set_cons_zero, List.set_cons_succ]
                refine wpAnyH_take (i := 11) (oi := { dst := some 33, op := Op.load 22 (Operand.tmp 32), type := 22, pos := "ref.go:97", after := #[{ on := 10, ground := Ground.data }, { on := 5, ground := Ground.guard }], guard := some (5, true) }) (v := ?_) rfl (by kernel_rfl) (by kernel_rfl) (by kernel_rfl) (fun _ _ _ h => h) (Or.inl ⟨by rfl, ?_⟩) (by assumption) ?_
                rotate_left
                · intro w hSw; (try dsimp only at hSw); go_simp; (try with_reducible rfl)
                try simp only [Act.put, List.setIfInBounds_toArray, List.set_cons_zero, List.set_cons_succ]
                refine wpAnyH_take (i := 12) (oi := { dst := some 34, op := Op.call { callee := Callee.builtin Builtin.len, args := #[Operand.tmp 33], argTypes := #[22] }, type := 3, pos := "ref.go:97", after := #[{ on := 11, ground := Ground.data }, { on := 5, ground := Ground.guard }], guard := some (5, true) }) (v := ?_) rfl (by kernel_rfl) (by kernel_rfl) (by kernel_rfl) (fun _ _ _ h => h) (Or.inl ⟨by rfl, ?_⟩) (by assumption) ?_
                rotate_left
                · intro w hSw; (try dsimp only at hSw); go_simp; (try with_reducible rfl)
                try simp only [Act.put, List.setIfInBounds_toArray, List.set_cons_zero, List.set_cons_succ]
                refine wpAnyH_take (i := 13) (oi := { dst := some 35, op := Op.binOp BinOp.lss 3 (Operand.tmp 31) (Operand.tmp 34) 3, type := 4, pos := "ref.go:97", after := #[{ on := 9, ground := Ground.data }, { on := 12, ground := Ground.data }, { on := 5, ground := Ground.guard }], guard := some (5, true) }) (v := ?_) rfl (by kernel_rfl) (by kernel_rfl) (by kernel_rfl) (fun _ _ _ h => h) (Or.inl ⟨by rfl, ?_⟩) (by assumption) ?_
                rotate_left
                · intro w hSw; (try dsimp only at hSw); go_simp; (try with_reducible rfl)
                try simp only [Act.put, List.setIfInBounds_toArray, List.set_cons_zero, List.set_cons_succ]
                refine wpAnyH_take (i := 14) (oi := { dst := some 36, op := Op.pick (Operand.tmp 27) (Operand.tmp 35) (Operand.const (Value.bool false)), type := 4, pos := "ref.go:97", after := #[{ on := 5, ground := Ground.data }, { on := 13, ground := Ground.data }], guard := none }) (v := ?_) rfl (by kernel_rfl) (by kernel_rfl) (by kernel_rfl) (fun _ _ _ h => h) (Or.inl ⟨by rfl, ?_⟩) (by assumption) ?_
                rotate_left
                · intro w hSw; (try dsimp only at hSw); go_simp; (try with_reducible rfl)
                try simp only [Act.put, List.setIfInBounds_toArray, List.set_cons_zero, List.set_cons_succ]
                refine wpAnyH_take (i := 15) (oi := { dst := some 37, op := Op.move (Operand.tmp 36), type := 4, pos := "ref.go:97", after := #[{ on := 14, ground := Ground.data }, { on := 5, ground := Ground.chain }], guard := none }) (v := ?_) rfl (by kernel_rfl) (by kernel_rfl) (by kernel_rfl) (fun _ _ _ h => h) (Or.inl ⟨by rfl, ?_⟩) (by assumption) ?_
                rotate_left
                · intro w hSw; (try dsimp only at hSw); go_simp; (try with_reducible rfl)
                try simp only [Act.put, List.setIfInBounds_toArray, List.set_cons_zero, List.set_cons_succ]
                refine wpAnyH_take (i := 16) (oi := { dst := some 38, op := Op.move (Operand.tmp 1), type := 40, pos := "ref.go:97", after := #[{ on := 15, ground := Ground.guard }], guard := some (15, true) }) (v := ?_) rfl (by kernel_rfl) (by kernel_rfl) (by kernel_rfl) (fun _ _ _ h => h) (Or.inl ⟨by rfl, ?_⟩) (by assumption) ?_
                rotate_left
                · intro w hSw; (try dsimp only at hSw); go_simp; (try with_reducible rfl)
                try simp only [Act.put, List.setIfInBounds_toArray, List.set_cons_zero, List.set_cons_succ]
                refine wpAnyH_take (i := 17) (oi := { dst := some 39, op := Op.move (Operand.tmp 8), type := 3, pos := "ref.go:97", after := #[{ on := 15, ground := Ground.guard }], guard := some (15, true) }) (v := ?_) rfl (by kernel_rfl) (by kernel_rfl) (by kernel_rfl) (fun _ _ _ h => h) (Or.inl ⟨by rfl, ?_⟩) (by assumption) ?_
                rotate_left
                · intro w hSw; (try dsimp only at hSw); go_simp; (try with_reducible rfl)
                try simp only [Act.put, List.setIfInBounds_toArray, List.set_cons_zero, List.set_cons_succ]
                refine wpAnyH_take (i := 18) (oi := { dst := some 40, op := Op.indexAddr 40 (Operand.tmp 38) (Operand.tmp 39), type := 0, pos := "ref.go:97", after := #[{ on := 16, ground := Ground.data }, { on := 17, ground := Ground.data }, { on := 15, ground := Ground.guard }], guard := some (15, true) }) (v := ?_) rfl (by kernel_rfl) (by kernel_rfl) (by kernel_rfl) (fun _ _ _ h => h) (Or.inl ⟨by rfl, ?_⟩) (by assumption) ?_
                rotate_left
                · intro w hSw; (try dsimp only at hSw); go_simp; (try with_reducible rfl)
                try simp only [Act.put, List.setIfInBounds_toArray, List.set_cons_zero, List.set_cons_succ]
                refine wpAnyH_take (i := 19) (oi := { dst := some 41, op := Op.load 3 (Operand.tmp 40), type := 3, pos := "ref.go:97", after := #[{ on := 18, ground := Ground.data }, { on := 15, ground := Ground.guard }], guard := some (15, true) }) (v := ?_) rfl (by kernel_rfl) (by kernel_rfl) (by kernel_rfl) (fun _ _ _ h => h) (Or.inl ⟨by rfl, ?_⟩) (by assumption) ?_
                rotate_left
                · intro w hSw; (try dsimp only at hSw); go_simp; (try with_reducible rfl)
                try simp only [Act.put, List.setIfInBounds_toArray, List.set_cons_zero, List.set_cons_succ]
                refine wpAnyH_take (i := 20) (oi := { dst := some 42, op := Op.move (Operand.tmp 6), type := 3, pos := "ref.go:97", after := #[{ on := 15, ground := Ground.guard }], guard := some (15, true) }) (v := ?_) rfl (by kernel_rfl) (by kernel_rfl) (by kernel_rfl) (fun _ _ _ h => h) (Or.inl ⟨by rfl, ?_⟩) (by assumption) ?_
                rotate_left
                · intro w hSw; (try dsimp only at hSw); go_simp; (try with_reducible rfl)
                try simp only [Act.put, List.setIfInBounds_toArray, List.set_cons_zero, List.set_cons_succ]
                refine wpAnyH_take (i := 21) (oi := { dst := some 43, op := Op.binOp BinOp.eql 3 (Operand.tmp 41) (Operand.tmp 42) 3, type := 4, pos := "ref.go:97", after := #[{ on := 19, ground := Ground.data }, { on := 20, ground := Ground.data }, { on := 15, ground := Ground.guard }], guard := some (15, true) }) (v := ?_) rfl (by kernel_rfl) (by kernel_rfl) (by kernel_rfl) (fun _ _ _ h => h) (Or.inl ⟨by rfl, ?_⟩) (by assumption) ?_
                rotate_left
                · intro w hSw; (try dsimp only at hSw); go_simp; (try with_reducible rfl)
                try simp only [Act.put, List.setIfInBounds_toArray, List.set_cons_zero, List.set_cons_succ]
                refine wpAnyH_take (i := 22) (oi := { dst := some 44, op := Op.move (Operand.tmp 43), type := 4, pos := "ref.go:97", after := #[{ on := 21, ground := Ground.data }, { on := 15, ground := Ground.chain }, { on := 15, ground := Ground.guard }], guard := some (15, true) }) (v := ?_) rfl (by kernel_rfl) (by kernel_rfl) (by kernel_rfl) (fun _ _ _ h => h) (Or.inl ⟨by rfl, ?_⟩) (by assumption) ?_
                rotate_left
                · intro w hSw; (try dsimp only at hSw); go_simp; (try with_reducible rfl)
                try simp only [Act.put, List.setIfInBounds_toArray, List.set_cons_zero, List.set_cons_succ]
                refine wpAnyH_take (i := 23) (oi := { dst := some 45, op := Op.load 30 (Operand.tmp 2), type := 30, pos := "ref.go:97", after := #[{ on := 22, ground := Ground.guard }], guard := some (22, false) }) (v := ?_) rfl (by kernel_rfl) (by kernel_rfl) (by kernel_rfl) (fun _ _ _ h => h) (Or.inl ⟨by rfl, ?_⟩) (by assumption) ?_
                rotate_left
                · intro w hSw; (try dsimp only at hSw); go_simp; (try with_reducible rfl)
                try simp only [Act.put, List.setIfInBounds_toArray, List.set_cons_zero, List.set_cons_succ]
                refine wpAnyH_take (i := 24) (oi := { dst := some 46, op := Op.move (Operand.tmp 1), type := 40, pos := "ref.go:97", after := #[{ on := 22, ground := Ground.guard }], guard := some (22, false) }) (v := ?_) rfl (by kernel_rfl) (by kernel_rfl) (by kernel_rfl) (fun _ _ _ h => h) (Or.inl ⟨by rfl, ?_⟩) (by assumption) ?_
                rotate_left
                · intro w hSw; (try dsimp only at hSw); go_simp; (try with_reducible rfl)
                try simp only [Act.put, List.setIfInBounds_toArray, List.set_cons_zero, List.set_cons_succ]
                refine wpAnyH_take (i := 25) (oi := { dst := some 47, op := Op.move (Operand.tmp 8), type := 3, pos := "ref.go:97", after := #[{ on := 22, ground := Ground.guard }], guard := some (22, false) }) (v := ?_) rfl (by kernel_rfl) (by kernel_rfl) (by kernel_rfl) (fun _ _ _ h => h) (Or.inl ⟨by rfl, ?_⟩) (by assumption) ?_
                rotate_left
                · intro w hSw; (try dsimp only at hSw); go_simp; (try with_reducible rfl)
                try simp only [Act.put, List.setIfInBounds_toArray, List.set_cons_zero, List.set_cons_succ]
                refine wpAnyH_take (i := 26) (oi := { dst := some 48, op := Op.indexAddr 40 (Operand.tmp 46) (Operand.tmp 47), type := 0, pos := "ref.go:97", after := #[{ on := 24, ground := Ground.data }, { on := 25, ground := Ground.data }, { on := 22, ground := Ground.guard }], guard := some (22, false) }) (v := ?_) rfl (by kernel_rfl) (by kernel_rfl) (by kernel_rfl) (fun _ _ _ h => h) (Or.inl ⟨by rfl, ?_⟩) (by assumption) ?_
                rotate_left
                · intro w hSw; (try dsimp only at hSw); go_simp; (try with_reducible rfl)
                try simp only [Act.put, List.setIfInBounds_toArray, List.set_cons_zero, List.set_cons_succ]
                refine wpAnyH_take (i := 27) (oi := { dst := some 49, op := Op.load 3 (Operand.tmp 48), type := 3, pos := "ref.go:97", after := #[{ on := 26, ground := Ground.data }, { on := 22, ground := Ground.guard }], guard := some (22, false) }) (v := ?_) rfl (by kernel_rfl) (by kernel_rfl) (by kernel_rfl) (fun _ _ _ h => h) (Or.inl ⟨by rfl, ?_⟩) (by assumption) ?_
                rotate_left
                · intro w hSw; (try dsimp only at hSw); go_simp; (try with_reducible rfl)
                try simp only [Act.put, List.setIfInBounds_toArray, List.set_cons_zero, List.set_cons_succ]
                refine wpAnyH_take (i := 29) (oi := { dst := some 51, op := Op.move (Operand.tmp 6), type := 3, pos := "ref.go:97", after := #[{ on := 22, ground := Ground.guard }], guard := some (22, false) }) (v := ?_) rfl (by kernel_rfl) (by kernel_rfl) (by kernel_rfl) (fun _ _ _ h => h) (Or.inl ⟨by rfl, ?_⟩) (by assumption) ?_
                rotate_left
                · intro w hSw; (try dsimp only at hSw); go_simp; (try with_reducible rfl)
                try simp only [Act.put, List.setIfInBounds_toArray, List.set_cons_zero, List.set_cons_succ]
                refine wpAnyH_ready (rs := [28]) (by kernel_rfl) (by simp) ?_
                refine AllReadyH.cons (o := { dst := some 50, op := Op.call { callee := Callee.value (Operand.func 31), args := #[Operand.tmp 45, Operand.tmp 49], argTypes := #[30, 3] }, type := 61, pos := "ref.go:97", after := #[{ on := 23, ground := Ground.data }, { on := 27, ground := Ground.data }, { on := 22, ground := Ground.chain }, { on := 22, ground := Ground.guard }], guard := some (22, false) }) rfl (fun K hK => ?_) AllReadyH.nil
                go_simp
                go_at_call 31
                (with_reducible refine HMx.out.mono ?_)
                rintro e w4 ⟨g, ms, rfl, hom, hml, hmi, t4⟩
                have tt4 : Turn [] wr w4 := (Turn.refl [] wr).drew.trans' t4
                have hS1 := HSS.out w4 tt4
                obtain ⟨mb, hmb⟩ := at_lt (show k < ms.length by rw [hml]; exact hkl)
                have cm : w4.cell? ⟨g, k, none⟩ = some (.bool mb) := hom.at.1 k mb hmb
                have HMB : Hid (mb = true ↔ Ab1 Es i k) := Lib.hid (by
                  rw [← hmi k, hmb]
                  simp)
                have HT4 := Lib.hid tt4
                clear t4 tt4 hom hml hmi hmb
                try go_wp2_with fail
                refine hK.out _ _ ?_ (fun hHeld => ?_)
                · exact hS1
                clear hK K
                try simp only [Act.put, List.setIfInBounds_toArray, List.set_cons_zero, List.set_cons_succ]
                refine wpAnyH_take (i := 30) (oi := { dst := some 52, op := Op.indexAddr 61 (Operand.tmp 50) (Operand.tmp 51), type := 0, pos := "ref.go:97", after := #[{ on := 28, ground := Ground.data }, { on := 29, ground := Ground.data }, { on := 22, ground := Ground.guard }], guard := some (22, false) }) (v := ?_) rfl (by kernel_rfl) (by kernel_rfl) (by kernel_rfl) (fun _ _ _ h => h) (Or.inl ⟨by rfl, ?_⟩) (by assumption) ?_
                rotate_left
                · intro w hSw; (try dsimp only at hSw); go_simp; (try with_reducible rfl)
                try simp only [Act.put, List.setIfInBounds_toArray, List.set_cons_zero, List.set_cons_succ]
                refine wpAnyH_ready (rs := [31]) (by kernel_rfl) (by simp) ?_
                refine AllReadyH.cons (o := { dst := some 53, op := Op.load 4 (Operand.tmp 52), type := 4, pos := "ref.go:97", after := #[{ on := 30, ground := Ground.data }, { on := 22, ground := Ground.guard }], guard := some (22, false) }) rfl (fun K hK => ?_) AllReadyH.nil
                go_simp
                refine hK.out _ _ ?_ (fun hHeld => ?_)
                · exact hS1
                clear hK K
                try simp only [Act.put, List.setIfInBounds_toArray, List.set_cons_zero, List.set_cons_succ]
                refine wpAnyH_take (i := 32) (oi := { dst := some 54, op := Op.pick (Operand.tmp 44) (Operand.const (Value.bool true)) (Operand.tmp 53), type := 4, pos := "ref.go:97", after := #[{ on := 22, ground := Ground.data }, { on := 31, ground := Ground.data }, { on := 15, ground := Ground.guard }], guard := some (15, true) }) (v := ?_) rfl (by kernel_rfl) (by kernel_rfl) (by kernel_rfl) (fun _ _ _ h => h) (Or.inl ⟨by rfl, ?_⟩) (by assumption) ?_
                rotate_left
                · intro w hSw; (try dsimp only at hSw); go_simp; (try with_reducible rfl)
                try simp only [Act.put, List.setIfInBounds_toArray, List.set_cons_zero, List.set_cons_succ]
                refine wpAnyH_take (i := 33) (oi := { dst := some 55, op := Op.pick (Operand.tmp 37) (Operand.tmp 54) (Operand.const (Value.bool false)), type := 4, pos := "ref.go:97", after := #[{ on := 15, ground := Ground.data }, { on := 32, ground := Ground.data }], guard := none }) (v := ?_) rfl (by kernel_rfl) (by kernel_rfl) (by kernel_rfl) (fun _ _ _ h => h) (Or.inl ⟨by rfl, ?_⟩) (by assumption) ?_
                rotate_left
                · intro w hSw; (try dsimp only at hSw); go_simp; (try with_reducible rfl)
                try simp only [Act.put, List.setIfInBounds_toArray, List.set_cons_zero, List.set_cons_succ]
                refine wpAnyH_done (by kernel_rfl) ?_ _
                have HUP : Hid (mb = true ↔ ∃ j : Nat, ((i : Nat) : Int) = (j : Int) ∧ Up Es j k) := Lib.hid (by
                  rw [HMB.out]
                  constructor
                  · intro h
                    exact ⟨i, rfl, up_ab1.2 ⟨by rw [HEN.out]; exact hin, .inr h⟩⟩
                  · rintro ⟨j, e, hu⟩
                    have e2 : i = j := by omega
                    subst e2
                    rcases (up_ab1.1 hu).2 with h | h
                    · exact absurd h.symm hik
                    · exact h)
                have HA4 : Hid (A1 Es is (r + 1) W0 w4 (.slice A5 L c5) k o) := Lib.hid ⟨H2.out.1.turn' HT4.out, H2.out.2.1, H2.out.2.2.trans' HT4.out⟩
                have HN1 : Hid (inB Es is k (q + 1) = (bq || mb)) := Lib.hid (HQQ.out mb HUP.out)
                cases mb with
                | true =>
                  have HN2 : Hid (inB Es is k (q + 1) = true) := Lib.hid (by rw [HN1.out]; simp)
                  go_wp2_with fail
                  go_roundw
                  case rel => exact ⟨q + 1, by omega, by rw [HN2.out], by go_num, HA4⟩
                  case measure => simp [intOf]; omega
                | false =>
                  have HN2 : Hid (inB Es is k (q + 1) = bq) := Lib.hid (by rw [HN1.out]; simp)
                  go_wp2_with fail
                  go_roundw
                  case rel => exact ⟨q + 1, by omega, by rw [HN2.out], by go_num, HA4⟩
                  case measure => simp [intOf]; omega
            · have d6 : decide ((i : Int) < (n : Int)) = false := by simp; omega
              have hno : false = true ↔ ∃ j : Nat, ((i : Nat) : Int) = (j : Int) ∧ Up Es j k := by
                constructor
                · intro h; cases h
                · rintro ⟨j, e, hu⟩
                  have h1 := hu.start.1
                  rw [HEN.out] at h1
                  omega
              have HN2 : Hid (inB Es is k (q + 1) = bq) := Lib.hid (by rw [HQQ.out false hno]; simp)
              clear hno
              clear tt
              go_upto_region 9 with fail
              go_quiet (fail)
              go_wp2_with fail
              go_roundw
              case rel => exact ⟨q + 1, by omega, by rw [HN2.out], by go_num, Lib.hid ⟨H2.out.1.turn' ((Turn.refl [] _).drewN _), H2.out.2.1, H2.out.2.2.drewN _⟩⟩
              case measure => simp [intOf]; omega
          · have d5 : decide (z ≥ 0) = false := by simp; omega
            have d5' : decide ((0 : Int) ≤ z) = false := by simp; omega
            have hno : false = true ↔ ∃ j : Nat, z = (j : Int) ∧ Up Es j k := by
              constructor
              · intro h; cases h
              · rintro ⟨j, e, hu⟩
                omega
            have HN2 : Hid (inB Es is k (q + 1) = bq) := Lib.hid (by rw [HQQ.out false hno]; simp)
            clear hno
            clear tt
            go_upto_region 9 with fail
            go_quiet (fail)
            go_wp2_with fail
            go_roundw
            case rel => exact ⟨q + 1, by omega, by rw [HN2.out], by go_num, Lib.hid ⟨H2.out.1.turn' ((Turn.refl [] _).drewN _), H2.out.2.1, H2.out.2.2.drewN _⟩⟩
            case measure => simp [intOf]; omega
        · obtain rfl : q = ni := by omega
          have d3 : decide ((q : Int) < (q : Int)) = false := by simp
          obtain ⟨bq, hbq⟩ : ∃ bq, inB Es is k q = bq := ⟨_, rfl⟩
          rw [hbq]
          have HBQ : Hid (bq = true ↔ Inq Es is k is.length) := Lib.hid (by rw [← hbq, ← HNI.out]; exact inB_iff)
          clear hbq
          cases bq with
          | false =>
            have HN2 : Hid (A1 Es is (r + 1) W0 wr (.slice A5 L c5) (k + 1) o) := Lib.hid ⟨H2.out.1, H2.out.2.1.skip (fun h => by have := HBQ.out.2 h; cases this), H2.out.2.2⟩
            go_wp2_with fail
            go_roundw
            case rel => exact ⟨k + 1, o, by omega, by go_num, HN2⟩
            case measure => simp [intOf]; omega
          | true =>
            have hin : Inq Es is k is.length := HBQ.out.1 rfl
            have HNX := Lib.hid (H2.out.2.1.put hin)
            have hol : o.length ≤ 10000000 := by have := H2.out.2.1.2.1; omega
            have hrw : r + 1 ≤ wr.heap.size := by have := H2.out.2.2.size; have := HS0.out; omega
            clear hin
            go_wp2_with (at_builtin
                         refine wpList_app1' rfl (.tmp 57) (.tmp 59) rfl wr (r + 1) (.slice A5 L c5) o (k : Int) 1 rfl H2.out.1 rfl hol hrw ?_
                         intro v6 w6 ho6 ht6 hm6
                         have HO6 := Lib.hid (And.intro ho6 (And.intro ht6 hm6))
                         clear ho6 ht6 hm6)
            go_roundw
            case rel =>
              refine ⟨k + 1, o ++ [(k : Int)], by omega, by go_num, Lib.hid ⟨HO6.out.1, HNX.out, H2.out.2.2.trans HO6.out.2.1 (fun x hx => .inr ?_)⟩⟩
              have h1 := (H2.out.1.lt x (by simpa using hx)).1
              have h2 := HS0.out
              omega
            case measure => simp [intOf]; omega
    · obtain rfl : k = n := by omega
      have d1 : decide ((k : Int) < (k : Int)) = false := by simp
      obtain ⟨A5, c5, hv5, _, _⟩ := HO.out.1.form
      have HD : Hid (o = abvL Es is) := Lib.hid ((show Ao Es is Es.length o by rw [HEN.out]; exact HO.out.2.1).done (by rw [HEN.out]; omega))
      subst hv5
      go_wp2_with fail
      go_ret
      refine ⟨_, rfl, ?_, HT0.out.trans' HO.out.2.2⟩
      rw [← HD.out, HRR.out]
      exact HO.out.1.mono (by omega)
end Go.Proofs.YtjnphoeifonenaaDoor

/- What HierTells knows of the table and of the reference, as contracts. -/
set_option linter.unusedSimpArgs false
set_option linter.unusedVariables false
namespace Go.Proofs.YtjnphoeifonenaaDoor
open Go.RowKit

/-- The classes are right. -/
structure Rgt (l : List K8) : Prop where
  kok : KOk l
  snd : ∀ j x, l[j]? = some x → sndB l j x = true
  acy : ∀ i, ¬ Cyc (esL l) i
theorem Rgt.fcs {l : List K8} (g : Rgt l) : ∀ x ∈ l, x.fcs.length ≤ 999 := fun x hx => (g.kok.nm x hx).2.2.2
theorem Rgt.rt {l : List K8} (g : Rgt l) : ∀ j x, l[j]? = some x → rtI l x = ofN (nxE (esL l) j) := fun j x hx => rt_is g.kok.len (g.snd j x hx) hx
theorem Rgt.ok {l : List K8} (g : Rgt l) : EsOk (esL l) := esL_ok g.kok.len g.fcs
theorem Rgt.ord {l : List K8} (g : Rgt l) : (ordL (esL l)).length = l.length := by
  rw [((ord_says g.ok).2.2.2 g.acy).2, esL_len]
theorem Rgt.ent {l : List K8} (g : Rgt l) {i : Nat} {x : K8} (hx : l[i]? = some x) : enAt (esL l) (i : Int) = ⟨x.nm, x.face, if x.sup = ⟨#[]⟩ then -1 else fndI l x.sup, (rtI l x).map Int.toNat⟩ := enAt_nat (snd_entry g.kok.len (g.snd i x hx) hx)
theorem Rgt.out {l : List K8} {i : Int} (h : ¬ (0 ≤ i ∧ i < (l.length : Int))) : enAt (esL l) i = en0 := enAt_out (by rw [esL_len]; exact h)
/-- What lies in memory behind New: the program's classes, the table, its map of names. -/
structure Bk (A : Option Addr) (B : Nat) (l : List K8) (r t m sz : Nat) (V : Value) (W : World) : Prop where
  rd : RdKs B W A l
  tl : Tl W (fun g => r ≤ g) t (.map (some m)) V (esL l)
  mp : MapS W m sz (fstF l l.length)
  tb : Tab W
theorem Bk.turn {A : Option Addr} {B : Nat} {l : List K8} {r t m sz : Nat} {V : Value} {W W' : World} (h : Bk A B l r t m sz V W) (k : Turn [] W W') : Bk A B l r t m sz V W' :=
  ⟨h.rd.turn k (by simp), h.tl.turn' k, h.mp.turn k (by simp), h.tb.turn' k⟩
theorem abv_len {Es : List En} (hn : Es.length ≤ 1000) (is : List Int) : (abvL Es is).length ≤ 1000000 := by
  have := (gd_abv (Es := Es) (by omega) is).len
  omega
/-- Same of one list in two places. -/
theorem same_own {L : List Int} {B1 B2 : Nat} {U1 U2 : Value} (W : World) (h1 : OwnI W B1 U1 L) (h2 : OwnI W B2 U2 L) (hl : L.length ≤ 1000000) :
    Calls Tryd.prog 13 #[U1, U2] W fun e w' => e = .returned (.bool true) ∧ Turn [] W w' := by
  obtain ⟨A1, c1, rfl, i1, _⟩ := h1.form
  obtain ⟨A2, c2, rfl, i2, _⟩ := h2.form
  refine (refSame_any A1 A2 L.length L.length c1 c2 L L W i1 i2 rfl rfl hl hl).mono ?_
  rintro e w' ⟨rfl, q, rfl⟩
  exact ⟨by simp [sameB], (Turn.refl [] W).drewN q⟩
section
variable {A : Option Addr} {c B : Nat} {l : List K8} {m0 m1 m2 m3 m4 m5 m6 m7 m8 : Value} {r t m sz : Nat} {V : Value}
theorem bk_len (W : World) (b : Bk A B l r t m sz V W) : Calls Tryd.prog 12 #[.pointer (some ⟨t, 0, none⟩)] W fun e w' => e = .returned (.int .i64 (l.length : Int)) ∧ Turn [] W w' := by
  refine (len_any8 b.tl).mono ?_
  rintro e w' ⟨rfl, rfl⟩
  exact ⟨by rw [esL_len], Turn.refl _ _⟩
theorem bk_order (g : Rgt l) (W : World) (b : Bk A B l r t m sz V W) : Calls Tryd.prog 14 #[.pointer (some ⟨t, 0, none⟩)] W fun e w' => ∃ U, e = .returned U ∧ OwnI w' W.heap.size U (ordL (esL l)) ∧ Turn [] W w' := order_any b.tl g.ok
theorem bk_rorder (g : Rgt l) (W : World) (b : Bk A B l r t m sz V W) : Calls Tryd.prog 15 #[.agg #[.slice A l.length c, m0, m1, m2, m3, m4, m5, m6, m7, m8]] W fun e w' => ∃ U, e = .returned U ∧ OwnI w' W.heap.size U (ordL (esL l)) ∧ Turn [] W w' := by
  refine (rorder_any A c B l m0 m1 m2 m3 m4 m5 m6 m7 m8 W b.rd g.kok.len g.fcs g.rt g.acy).mono ?_
  rintro e w' ⟨U, o, rfl, h1, h2, h3, h4⟩
  have : o = ordL (esL l) := gr_same h2 (ord_gr g.ok) (by rw [h3, g.ord])
  subst this
  exact ⟨U, rfl, h1, h4⟩
theorem bk_above (g : Rgt l) (W : World) (b : Bk A B l r t m sz V W) (P : Option Addr) (ni ci : Nat) (is : List Int) (hI : Ints W P is) (hni : ni = is.length) (hn2 : ni ≤ 1000000) : Calls Tryd.prog 16 #[.pointer (some ⟨t, 0, none⟩), .slice P ni ci] W fun e w' => ∃ U, e = .returned U ∧ OwnI w' W.heap.size U (abvL (esL l) is) ∧ Turn [] W w' :=
  above_any b.tl (fun i => by have := g.ok.few i; omega) b.tb P ni ci is hI hni hn2
theorem bk_rabove (g : Rgt l) (W : World) (b : Bk A B l r t m sz V W) (P : Option Addr) (ni ci : Nat) (is : List Int) (hI : Ints W P is) (hni : ni = is.length) (hn2 : ni ≤ 1000000) : Calls Tryd.prog 17 #[.agg #[.slice A l.length c, m0, m1, m2, m3, m4, m5, m6, m7, m8], .slice P ni ci] W fun e w' => ∃ U, e = .returned U ∧ OwnI w' W.heap.size U (abvL (esL l) is) ∧ Turn [] W w' :=
  rabove_any A c B l m0 m1 m2 m3 m4 m5 m6 m7 m8 P ni ci is W b.rd g.kok.len g.fcs g.rt hI hni hn2
theorem bk_index (W : World) (b : Bk A B l r t m sz V W) (x : ByteArray) (hx : x.size ≤ 281474976710656) : Calls Tryd.prog 19 #[.pointer (some ⟨t, 0, none⟩), .string x] W fun e w' => e = .returned (.tuple #[.int .i64 (((fstF l l.length x).getD 0 : Nat) : Int), .bool (fstF l l.length x).isSome]) ∧ Turn [] W w' := by
  refine (index_any8 b.tl b.mp x hx).mono ?_
  rintro e w' ⟨rfl, rfl⟩
  exact ⟨rfl, Turn.refl _ _⟩
theorem bk_name (W : World) (b : Bk A B l r t m sz V W) (i : Int) : Calls Tryd.prog 20 #[.pointer (some ⟨t, 0, none⟩), .int .i64 i] W fun e w' => e = .returned (.string (enAt (esL l) i).nm) ∧ Turn [] W w' := name_any8 b.tl i
theorem bk_face (W : World) (b : Bk A B l r t m sz V W) (i : Int) : Calls Tryd.prog 21 #[.pointer (some ⟨t, 0, none⟩), .int .i64 i] W fun e w' => e = .returned (.bool (enAt (esL l) i).face) ∧ Turn [] W w' := face_any8 b.tl i
theorem bk_super (W : World) (b : Bk A B l r t m sz V W) (i : Int) : Calls Tryd.prog 22 #[.pointer (some ⟨t, 0, none⟩), .int .i64 i] W fun e w' => e = .returned (.int .i64 (enAt (esL l) i).sup) ∧ Turn [] W w' := super_any8 b.tl i
theorem bk_right (W : World) (b : Bk A B l r t m sz V W) (i : Int) (hrt : (enAt (esL l) i).rt.length ≤ 1000000) : Calls Tryd.prog 23 #[.pointer (some ⟨t, 0, none⟩), .int .i64 i] W fun e w' => ∃ U, e = .returned U ∧ OwnI w' W.heap.size U (ofN (enAt (esL l) i).rt) ∧ Turn [] W w' := right_any8 b.tl i hrt
theorem bk_rright (g : Rgt l) (W : World) (b : Bk A B l r t m sz V W) (i : Nat) (x : K8) (hx : l[i]? = some x) : Calls Tryd.prog 24 #[.agg #[.slice A l.length c, m0, m1, m2, m3, m4, m5, m6, m7, m8], .int .i64 (i : Int)] W fun e w' => ∃ U, e = .returned U ∧ OwnI w' W.heap.size U (ofN (enAt (esL l) (i : Int)).rt) ∧ Turn [] W w' := by
  have := rright_any A c B l m0 m1 m2 m3 m4 m5 m6 m7 m8 i x W b.rd g.kok.len hx (g.fcs x (List.mem_of_getElem? hx))
  rw [g.rt i x hx] at this
  exact this
theorem bk_find (g : Rgt l) (W : World) (b : Bk A B l r t m sz V W) (s : ByteArray) : Calls Tryd.prog 18 #[.agg #[.slice A l.length c, m0, m1, m2, m3, m4, m5, m6, m7, m8], .string s] W fun e w' => e = .returned (.int .i64 (fndI l s)) ∧ Turn [] W w' :=
  rfind_any A c B l m0 m1 m2 m3 m4 m5 m6 m7 m8 s W b.rd g.kok.len
end
/-- What Fault answers: a fault, or nothing of a program that is right. -/
theorem ft_two {l : List K8} (hk : KOk l) {e : Ending} (h : FtR l e) : (∃ p q : Int, e = .returned (.agg (ftC 11 p q))) ∨ (e = .returned (.agg (ftC 0 0 0)) ∧ Rgt l) := by
  cases h with
  | bad k c hc hk' hall he => exact .inl ⟨_, _, he⟩
  | rnd k c hc hall hk' hno he => exact .inl ⟨_, _, he⟩
  | ok hall hno he => exact .inr ⟨he, hk, hall, hno⟩
/-- What New answers of a program that is right. -/
theorem new_rgt {l : List K8} (g : Rgt l) {r : Nat} {e1 : Ending} {w1 : World} (h1 : NwR l r e1 w1) : ∃ (t m sz : Nat) (V : Value), e1 = .returned (.tuple #[.pointer (some ⟨t, 0, none⟩), .agg (ftC 0 0 0)]) ∧ Tl w1 (fun g => r ≤ g) t (.map (some m)) V (esL l) ∧ MapS w1 m sz (fstF l l.length) := by
  obtain ⟨P, er, p, q, he1, he2, hpe⟩ := faults_agree g.kok h1 (.ok g.snd g.acy rfl)
  simp only [ftC, Array.mk.injEq, List.cons.injEq, Value.agg.injEq, Ending.returned.injEq, Value.int.injEq, and_true, true_and] at he2
  cases h1 with
  | bad k c hf hc he' =>
    rw [he'] at he1
    simp only [ftC, Array.mk.injEq, List.cons.injEq, Value.pointer.injEq, Value.agg.injEq, Value.tuple.injEq, Ending.returned.injEq, Value.int.injEq, and_true, true_and] at he1
    omega
  | rnd s a c hf hs ha hc he' =>
    rw [he'] at he1
    simp only [ftC, Array.mk.injEq, List.cons.injEq, Value.pointer.injEq, Value.agg.injEq, Value.tuple.injEq, Ending.returned.injEq, Value.int.injEq, and_true, true_and] at he1
    omega
  | ok s t m sz V hf hs ha he' hrt ht hm => exact ⟨t, m, sz, V, he', ht, hm⟩
end Go.Proofs.YtjnphoeifonenaaDoor
