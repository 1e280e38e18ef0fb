import Derived.Test.YtbocejiclellfaaDoorQ14Spl
import Derived.Test.YtbocejiclellfaaDoorQ09Rpl
import Derived.Test.YtbocejiclellfaaDoorQ10Rma
import Derived.Deep.RegionHeld3
import Derived.BigQuiet
import Derived.Test.YtbocejiclellfaaDoorQ15LAr

/- slices.ContainsFunc with a mark. -/
set_option linter.unusedSimpArgs false
set_option linter.unusedVariables false
set_option linter.unusedSectionVars false
namespace Go.Proofs.YtbocejiclellfaaDoor
open Go.RowKit

set_option maxHeartbeats 1600000 in
theorem under1_any (W : World) (mp g n c a : Nat) (y : Bool) (h0 : W.cell? ⟨mp, 0, none⟩ = some (.slice (some ⟨g, 0, none⟩) n c)) (h1 : W.cell? ⟨g, a, none⟩ = some (.bool y)) (ha : a < n) (hn : n ≤ 1000) :
    Calls Tryd.prog 38 #[.int .i64 (a : Int), .pointer (some ⟨mp, 0, none⟩)] W fun e w' => e = .returned (.bool y) ∧ W = w' := by
  have d1 : (a : Int) < (n : Int) := by omega
  have d2 : decide ((a : Int) < (n : Int)) = true := by simp; omega
  have h1' : W.cell? ⟨g, 0 + a, none⟩ = some (.bool y) := by rw [Nat.zero_add]; exact h1
  go_enter Tryd.func38, Tryd.ntmps38
  go_wp2_with fail
  go_ret
  exact ⟨rfl, rfl⟩
/-- What is marked is known: the cells of the row at g. -/
structure Mk (W : World) (mp g n c : Nat) (f : Nat → Bool) (us : List Nat) : Prop where
  box : W.cell? ⟨mp, 0, none⟩ = some (.slice (some ⟨g, 0, none⟩) n c)
  row : ∀ a ∈ us, a < n ∧ W.cell? ⟨g, a, none⟩ = some (.bool (f a))
set_option maxHeartbeats 3200000 in
theorem indexF_any (W : World) (P : Option Addr) (N cN mp g n c : Nat) (f : Nat → Bool) (us : List Nat) (hI : Ints W P (ofN us)) (hN : N = us.length) (hl : N ≤ 1000) (hn : n ≤ 1000) (hm : Mk W mp g n c f us) :
    Calls Tryd.prog 66 #[.slice P N cN, .func (.func 38) #[] #[.pointer (some ⟨mp, 0, none⟩)]] W fun e w' => ∃ k : Int, e = .returned (.int .i64 k) ∧ (decide (0 ≤ k) = us.any f) ∧ W = w' := by
  have HI := Lib.hid hI
  have HN := Lib.hid hN
  have HM := Lib.hid hm
  clear hI hN hm
  go_enter Tryd.func66, Tryd.ntmps66
  go_wp2_with fail
  go_loopw [8] (fun v8 wr => ∃ k : Nat, k ≤ N ∧ v8 = .int .i64 (k : Int) ∧ wr = W ∧ Hid (∀ (j : Nat) a, j < k → us[j]? = some a → f a = false)) (fun v8 _ => N - (intOf v8).toNat)
  case atStart => exact ⟨0, Nat.zero_le _, rfl, rfl, Lib.hid fun j a h => by omega⟩
  case round =>
    obtain ⟨k, hk, rfl, rfl, HA⟩ := hrel
    by_cases hkn : k < N
    · have d1 : decide ((k : Int) < (N : Int)) = true := by simp; omega
      have d2 : (k : Int) < (N : Int) := by omega
      obtain ⟨a, ha⟩ := at_lt (show k < us.length by have := HN.out; omega)
      obtain ⟨ib, ioff, rfl, _, ci⟩ := HI.out k (a : Int) (by unfold ofN; rw [List.getElem?_map, ha]; rfl)
      obtain ⟨han, hca⟩ := HM.out.row a (List.mem_of_getElem? ha)
      obtain ⟨y, hy⟩ : ∃ y, f a = y := ⟨_, rfl⟩
      rw [hy] at hca
      have HU := Lib.hid (under1_any wr mp g n c a y HM.out.box hca han hn)
      have HAA := Lib.hid (And.intro ha hy)
      clear ha hy hca
      go_wp2_with fail
      refine HU.out.mono ?_
      rintro e w1 ⟨rfl, rfl⟩
      cases y with
      | true =>
        have HF : Hid (us.any f = true) := Lib.hid (List.any_eq_true.2 ⟨a, List.mem_of_getElem? HAA.out.1, HAA.out.2⟩)
        go_wp2_with fail
        go_ret
        exact ⟨_, rfl, by rw [HF.out]; simp, rfl⟩
      | false =>
        have HNX : Hid (∀ (j : Nat) a, j < k + 1 → us[j]? = some a → f a = false) := Lib.hid fun j a' hj ha' => by
          rcases Nat.lt_or_ge j k with h3 | h3
          · exact HA.out j a' h3 ha'
          · have e : j = k := by omega
            subst e
            have := HAA.out.1.symm.trans ha'
            injection this with e
            rw [← e]
            exact HAA.out.2
        go_wp2_with fail
        go_roundw
        case rel => exact ⟨k + 1, by omega, by go_num, by trivial, HNX⟩
        case measure => simp [intOf]; omega
    · obtain rfl : k = N := by omega
      have d1 : decide ((k : Int) < (k : Int)) = false := by simp
      have HF : Hid (us.any f = false) := Lib.hid (by
        rw [List.any_eq_false]
        intro a ha
        obtain ⟨j, hj⟩ := List.getElem?_of_mem ha
        have h4 := (List.getElem?_eq_some_iff.1 hj).1
        rw [HA.out j a (by have := HN.out; omega) hj]
        simp)
      go_wp2_with fail
      go_ret
      exact ⟨-1, rfl, by rw [HF.out]; simp, rfl⟩
set_option maxHeartbeats 1600000 in
theorem containsF_any (W : World) (P : Option Addr) (N cN mp g n c : Nat) (f : Nat → Bool) (us : List Nat) (hI : Ints W P (ofN us)) (hN : N = us.length) (hl : N ≤ 1000) (hn : n ≤ 1000) (hm : Mk W mp g n c f us) :
    Calls Tryd.prog 39 #[.slice P N cN, .func (.func 38) #[] #[.pointer (some ⟨mp, 0, none⟩)]] W fun e w' => e = .returned (.bool (us.any f)) ∧ W = w' := by
  have HI := Lib.hid (indexF_any W P N cN mp g n c f us hI hN hl hn hm)
  obtain ⟨y, hy⟩ : ∃ y, us.any f = y := ⟨_, rfl⟩
  rw [hy] at HI ⊢
  clear hI hN hm hy
  go_enter Tryd.func39, Tryd.ntmps39
  go_wp2_with fail
  refine HI.out.mono ?_
  rintro e w1 ⟨k, rfl, hk, rfl⟩
  have d1 : decide (k ≥ 0) = y := hk
  go_wp2_with fail
  go_ret
  exact ⟨by first | rfl | (rw [← hk]; rfl), rfl⟩
end Go.Proofs.YtbocejiclellfaaDoor

/- What stands below a class: under. -/
set_option linter.unusedSimpArgs false
set_option linter.unusedVariables false
set_option linter.unusedSectionVars false
set_option maxRecDepth 100000
namespace Go.Proofs.YtbocejiclellfaaDoor
open Go.RowKit

def upT (Es : List En) (top u : Nat) : Bool := hasB (abvL Es [(u : Int)]) (top : Int)
theorem upT_iff {Es : List En} (hok : EsOk Es) {top u : Nat} : upT Es top u = true ↔ Up Es u top := abv_up (by have := hok.n; omega) u top
theorem und_val {Es : List En} (hok : EsOk Es) (hac : ∀ i, ¬ Cyc Es i) {top i k : Nat} (ho : (ordL Es)[k]? = some (i : Int)) (hi : i < Es.length) (hne : i ≠ top) :
    (nxE Es i).any (fun a => decide ((a : Int) ∈ (ordL Es).take k) && upT Es top a) = upT Es top i := by
  have hcut : ordL Es = (ordL Es).take k ++ (i : Int) :: (ordL Es).drop (k + 1) := by
    obtain ⟨hh, he⟩ := List.getElem?_eq_some_iff.1 ho
    rw [← he, ← List.drop_eq_getElem_cons hh, List.take_append_drop]
  have hbef : ∀ a ∈ nxE Es i, (a : Int) ∈ (ordL Es).take k := fun a ha => by
    have hup : Up Es i a := .step (.refl hi (by simp)) ha (hok.lt i a ha) (by simp)
    rcases (ord_says hok).2.2.1 _ i _ hcut a hup with h | h
    · exact absurd ⟨hi, a, ha, by rw [h]; exact .refl hi (by simp)⟩ (hac i)
    · exact h
  rw [Bool.eq_iff_iff, List.any_eq_true, upT_iff hok, up_ab1]
  constructor
  · rintro ⟨a, ha, h⟩
    simp only [Bool.and_eq_true] at h
    exact ⟨hi, .inr ⟨a, ha, (upT_iff hok).1 h.2⟩⟩
  · rintro ⟨_, h | ⟨a, ha, h⟩⟩
    · exact absurd h.symm hne
    · exact ⟨a, ha, by simp [hbef a ha, (upT_iff hok).2 h]⟩
/-- How it stands in the loop. -/
def Un1 (Es : List En) (top g n : Nat) (W2 wr : World) (k : Nat) : Prop := ∃ ms, OwnB wr 0 (.slice (some ⟨g, 0, none⟩) n n) ms ∧ ms.length = n ∧ (∀ u, u < n → ms[u]? = some (decide ((u : Int) ∈ (ordL Es).take k) && upT Es top u)) ∧ Turn [g] W2 wr
theorem Un1.next {Es : List En} {top g n i k : Nat} {W2 wr w4 : World} (h : Un1 Es top g n W2 wr k) (ho : (ordL Es)[k]? = some (i : Int)) (hi : i < n) (t : Turn [] wr w4) (v : Bool) (hv : v = upT Es top i) : Un1 Es top g n W2 (w4.setCell ⟨g, i, none⟩ (.bool v)) (k + 1) := by
  obtain ⟨ms, h1, h2, h3, h4⟩ := h
  refine ⟨ms.set i v, (h1.turn' t).putAt h2.symm, by simp [h2], fun u hu => ?_, (h4.trans' t).setCell (.inl (by simp)) _⟩
  rw [take_snoc ho, List.getElem?_set]
  by_cases e : i = u
  · subst e
    rw [if_pos rfl, if_pos (by omega), hv]
    simp
  · rw [if_neg e, h3 u hu]
    have : ((u : Int) ∈ (ordL Es).take k ++ [(i : Int)]) ↔ ((u : Int) ∈ (ordL Es).take k) := by
      simp only [List.mem_append, List.mem_singleton]
      exact ⟨fun h => h.elim id (fun h => by omega), .inl⟩
    rw [decide_eq_decide.2 this]
section
variable {A : Option Addr} {B : Nat} {l : List K8} {r t m sz : Nat} {V VO : Value} {x : Nat}
set_option maxHeartbeats 12800000 in
theorem under_any (gg : Rgt l) (W : World) (b : Ty A B l r t m sz V x VO W) (top : Nat) (htop : top < l.length) : Calls Tryd.prog 23 #[.agg #[.pointer (some ⟨t, 0, none⟩), VO], .int .i64 (top : Int)] W fun e w' => ∃ g ms, e = .returned (.slice (some ⟨g, 0, none⟩) l.length l.length) ∧ OwnB w' 0 (.slice (some ⟨g, 0, none⟩) l.length l.length) ms ∧ ms.length = l.length ∧ (∀ u, u < l.length → ms[u]? = some (upT (esL l) top u)) ∧ Turn [] W w' := by
  have hmf : ∀ (fn : Fn) (first cap : Array Value) (w : World), (Instr.makeFunc fn first cap).run Tryd.prog w = .ok (.func fn first cap) w := fun _ _ _ _ => rfl
  obtain ⟨n, hn⟩ : ∃ n, l.length = n := ⟨_, rfl⟩
  have hn1 : n ≤ 1000 := by rw [← hn]; exact b.len
  obtain ⟨Es, hEs⟩ : ∃ Es, esL l = Es := ⟨_, rfl⟩
  have hok : EsOk Es := by rw [← hEs]; exact gg.ok
  have hac : ∀ i, ¬ Cyc Es i := by rw [← hEs]; exact gg.acy
  have hen : Es.length = n := by rw [← hEs, esL_len, hn]
  have hord := b.ord
  rw [hEs] at hord
  obtain ⟨PO, cO, rfl, hIO, _⟩ := hord.form
  have hol : (ordL Es).length = n := by rw [((ord_says hok).2.2.2 hac).2, hen]
  rw [hol] at b ⊢
  obtain ⟨r0, hr0⟩ : ∃ r, W.heap.size = r := ⟨_, rfl⟩
  obtain ⟨W0, hW0⟩ : ∃ W', W.alloc (.cells #[.pointer (some ⟨t, 0, none⟩), .slice PO n cO] 61) = W' := ⟨_, rfl⟩
  have t0 : Turn [] W W0 := by rw [← hW0]; exact (Turn.refl [] W).alloc _
  have s0 : W0.heap.size = r0 + 1 := by rw [← hW0, ← hr0]; simp
  have b0 : W0.heap[r0]? = some (.cells #[.pointer (some ⟨t, 0, none⟩), .slice PO n cO] 61 (0, 0)) := by rw [← hW0, ← hr0]; exact heap_alloc_new W _
  have c0 : W0.cell? ⟨r0, 0, none⟩ = some (.pointer (some ⟨t, 0, none⟩)) := cell_of_row _ r0 0 _ _ _ b0
  have HLn := Lib.hid (show Calls Tryd.prog 37 #[.pointer (some ⟨t, 0, none⟩)] W0 fun e w' => e = .returned (.int .i64 (n : Int)) ∧ Turn [] W0 w' by rw [← hn]; exact bk_len W0 (b.bk.turn t0))
  have HBk := Lib.hid (b.bk.turn t0)
  have HIO := Lib.hid (hIO.below t0)
  have HB0 := Lib.hid b0
  have HOK := Lib.hid hok
  have HAC := Lib.hid hac
  have HEN := Lib.hid hen
  have HOL := Lib.hid hol
  have HT0 := Lib.hid t0
  have HW0 := Lib.hid hW0
  have HR0 := Lib.hid hr0
  have HS0 := Lib.hid s0
  have HES := Lib.hid hEs
  have htop' : top < n := by omega
  rw [hn, hEs]
  clear b t0 hW0 hr0 hok hac hen hol hord hIO b0 s0 gg hn htop hEs
  go_enter Tryd.func23, Tryd.ntmps23
  go_upto_region 1 with fail
  rw [HR0.out, HW0.out]
  go_wp2_with fail
  refine HLn.out.mono ?_
  rintro e w1 ⟨rfl, t1⟩
  obtain ⟨g, hg⟩ : ∃ g, w1.heap.size = g := ⟨_, rfl⟩
  obtain ⟨W2, hW2⟩ : ∃ W, w1.alloc (.cells (madeCells #[.bool false] n) 4) = W := ⟨_, rfl⟩
  have t2 : Turn [] w1 W2 := by rw [← hW2]; exact (Turn.refl [] w1).alloc _
  have s2 : W2.heap.size = g + 1 := by rw [← hW2, ← hg]; simp
  have hd2 : OwnB W2 0 (.slice (some ⟨g, 0, none⟩) n n) (List.replicate n false) := by
    have := OwnB.falses w1 0 n (Nat.zero_le _) (by omega)
    rw [Nat.mul_one, hg, hW2] at this
    exact this
  obtain ⟨W3, hW3⟩ : ∃ W, W2.alloc (.cells #[.slice (some ⟨g, 0, none⟩) n n] 67) = W := ⟨_, rfl⟩
  have t3 : Turn [] W2 W3 := by rw [← hW3]; exact (Turn.refl [] W2).alloc _
  have b3 : W3.heap[g + 1]? = some (.cells #[.slice (some ⟨g, 0, none⟩) n n] 67 (0, 0)) := by rw [← hW3, ← s2]; exact heap_alloc_new W2 _
  have hmk := fun W : World => make_bools n (by omega) W
  simp only [Nat.mul_one] at hmk
  obtain ⟨mp, hmp⟩ : ∃ mp, g + 1 = mp := ⟨_, rfl⟩
  have hgw : w1.heap.size ≤ g := by omega
  have hrg : r0 < g := by have := t1.size; have := HS0.out; omega
  have HTR : Hid (∀ wr, Turn [g] W3 wr → Turn [] w1 wr) := Lib.hid fun wr k => (t2.trans' t3).trans k (fun y hy => .inr (by simp at hy; omega))
  have HRt : Hid (∀ W', Turn [g] W3 W' → ∀ i : Nat, Calls Tryd.prog 40 #[.pointer (some ⟨t, 0, none⟩), .int .i64 (i : Int)] W' fun e w' => ∃ U, e = .returned U ∧ OwnI w' W'.heap.size U (ofN (enAt Es (i : Int)).rt) ∧ Turn [] W' w') := Lib.hid fun W' k i => by
    have := bk_right W' (HBk.out.turn (t1.trans' (HTR.out W' k))) (i : Int) (by rw [HES.out]; have : (enAt Es (i : Int)).rt.length ≤ 1000 := HOK.out.few i; omega)
    rw [HES.out] at this
    exact this
  have HC3 : Hid (∀ w', Turn [g] W3 w' → w'.cell? ⟨mp, 0, none⟩ = some (.slice (some ⟨g, 0, none⟩) n n) ∧ w'.cell? ⟨r0, 0, none⟩ = some (.pointer (some ⟨t, 0, none⟩))) := Lib.hid fun w' k =>
    ⟨by rw [← hmp]; exact cell_of_row w' (g + 1) 0 _ _ _ (k.heap b3 (by simp)), cell_of_row w' r0 0 _ _ _ (k.heap ((t1.trans' (t2.trans' t3)).heap HB0.out (by simp)) (by simp; omega))⟩
  have c1 : W3.cell? ⟨r0, 1, none⟩ = some (.slice PO n cO) := cell_of_row W3 r0 1 _ _ _ ((t1.trans' (t2.trans' t3)).heap HB0.out (by simp))
  have HIO3 : Hid (∀ w', Turn [g] W3 w' → Ints w' PO (ordL Es)) := Lib.hid fun w' k => HIO.out.below (t1.trans' (HTR.out w' k))
  have HU0 : Hid (Un1 Es top g n W3 W3 0) := Lib.hid ⟨_, hd2.turn' t3, by simp, fun u hu => by simp [hu], Turn.refl _ _⟩
  have HT13 := Lib.hid (t1.trans' (t2.trans' t3))
  have HT1 := Lib.hid t1
  have HG := Lib.hid hg
  have HS2 := Lib.hid s2
  have HW2 := Lib.hid hW2
  have HW3 := Lib.hid hW3
  have HMP := Lib.hid hmp
  clear t1 t2 t3 b3 hd2 hW2 hW3 s2 hg c0 HLn hgw hrg hmp HBk HB0 HIO
  go_upto_region 2 with fail
  rw [HG.out, HW2.out, HW3.out, HMP.out]
  go_wp2_with fail
  clear c1
  go_loopw [17] (fun v17 wr => ∃ k : Nat, k ≤ n ∧ v17 = .int .i64 (k : Int) ∧ Hid (Un1 Es top g n W3 wr k)) (fun v17 _ => n - (intOf v17).toNat)
  case atStart => exact ⟨0, Nat.zero_le _, rfl, HU0⟩
  case round =>
    clear HU0
    obtain ⟨k, hk, rfl, HU⟩ := hrel
    have HK1 : Hid (Turn [g] W3 wr) := Lib.hid (by obtain ⟨ms, _, _, _, h⟩ := HU.out; exact h)
    by_cases hkn : k < n
    · have d1 : decide ((k : Int) < (n : Int)) = true := by simp; omega
      have d2 : (k : Int) < (n : Int) := by omega
      obtain ⟨y, hy⟩ := at_lt (show k < (ordL Es).length by have := HOL.out; omega)
      have hyb := (ord_says HOK.out).2.1 y (List.mem_of_getElem? hy)
      obtain ⟨i, rfl⟩ := Int.eq_ofNat_of_zero_le hyb.1
      have hin : i < n := by have := HEN.out; omega
      have d3 : (i : Int) < (n : Int) := by omega
      have d4 : decide ((i : Int) < (n : Int)) = true := by simp; omega
      obtain ⟨ib, ioff, rfl, _, ci⟩ := HIO3.out wr HK1.out k _ hy
      have HSG : Hid (∀ w', Turn [g] wr w' → (w'.cell? ⟨mp, 0, none⟩ = some (.slice (some ⟨g, 0, none⟩) n n) ∧ w'.cell? ⟨r0, 0, none⟩ = some (.pointer (some ⟨t, 0, none⟩)))) := Lib.hid fun w' q => HC3.out w' (HK1.out.trans q (fun x hx => .inl hx))
      have HNX : Hid (∀ (w4 : World) (v : Bool), v = upT Es top i → Turn [] wr w4 → Un1 Es top g n W3 (w4.setCell ⟨g, i, none⟩ (.bool v)) (k + 1)) := Lib.hid fun w4 v hv q => HU.out.next hy hin q v hv
      have HMk : Hid (∀ w', Turn [] wr w' → Mk w' mp g n n (fun a => decide ((a : Int) ∈ (ordL Es).take k) && upT Es top a) (nxE Es i)) := Lib.hid fun w' q => by
        obtain ⟨ms, h1, h2, h3, h4⟩ := HU.out
        refine ⟨(HC3.out w' (HK1.out.trans' q)).1, fun a ha => ?_⟩
        have han : a < n := by have := HOK.out.lt i a ha; have := HEN.out; omega
        exact ⟨han, (h1.turn' q).at.1 a _ (h3 a han)⟩
      have HCm : Hid (∀ w', Turn [] wr w' → w'.cell? ⟨g, i, none⟩ = some (.bool (decide ((i : Int) ∈ (ordL Es).take k) && upT Es top i)) ∧ w'.frozen? ⟨g, i, none⟩ = false) := Lib.hid fun w' q => by
        obtain ⟨ms, h1, h2, h3, h4⟩ := HU.out
        exact ⟨(h1.turn' q).at.1 i _ (h3 i hin), (h1.turn' q).at.2 i⟩
      have HY := Lib.hid hy
      have cm := (HCm.out wr.drew (Turn.refl [] wr).drew).1
      have cbf := (HCm.out wr.drew (Turn.refl [] wr).drew).2
      obtain ⟨old, hold⟩ : ∃ old, (decide ((i : Int) ∈ (ordL Es).take k) && upT Es top i) = old := ⟨_, rfl⟩
      rw [hold] at cm HCm
      clear hy hyb hold
      go_upto_region 6 with fail
      by_cases hit : i = top
      · have d7 : ((i : Int) == (top : Int)) = true := by simp; omega
        have d8 : decide ((i : Int) = (top : Int)) = true := by simp; omega
        have HVT : Hid (true = upT Es top i) := Lib.hid ((upT_iff HOK.out).2 (by rw [hit]; exact .refl (by rw [HEN.out]; exact htop') (by simp))).symm
        clear hit
        refine wp_region_held_drew (S := fun w' => w'.cell? ⟨mp, 0, none⟩ = some (.slice (some ⟨g, 0, none⟩) n n) ∧ w'.cell? ⟨r0, 0, none⟩ = some (.pointer (some ⟨t, 0, none⟩))) (by kernel_rfl) ?_ (fun hHeld => ?_)
        · exact HSG.out _ (Turn.refl _ wr).drew
        refine wpAnyH_take (i := 0) (oi := { dst := some 21, op := Op.load 67 (Operand.tmp 5), type := 67, pos := _, after := #[], guard := none }) (v := ?_) rfl (by kernel_rfl) (by kernel_rfl) (by kernel_rfl) (fun _ _ _ h => h) (Or.inl ⟨by rfl, ?_⟩) (by assumption) ?_
        rotate_left
        · intro w hSw; (try dsimp only at hSw); go_simp; (try with_reducible rfl)
        try simp only [Act.put, List.setIfInBounds_toArray, List.set_cons_zero, List.set_cons_succ]
        refine wpAnyH_take (i := 1) (oi := { dst := some 22, op := Op.move (Operand.tmp 8), type := 3, pos := _, after := #[], guard := none }) (v := ?_) rfl (by kernel_rfl) (by kernel_rfl) (by kernel_rfl) (fun _ _ _ h => h) (Or.inl ⟨by rfl, ?_⟩) (by assumption) ?_
        rotate_left
        · intro w hSw; (try dsimp only at hSw); go_simp; (try with_reducible rfl)
        try simp only [Act.put, List.setIfInBounds_toArray, List.set_cons_zero, List.set_cons_succ]
        refine wpAnyH_take (i := 2) (oi := { dst := some 23, op := Op.move (Operand.tmp 8), type := 3, pos := _, after := #[], guard := none }) (v := ?_) rfl (by kernel_rfl) (by kernel_rfl) (by kernel_rfl) (fun _ _ _ h => h) (Or.inl ⟨by rfl, ?_⟩) (by assumption) ?_
        rotate_left
        · intro w hSw; (try dsimp only at hSw); go_simp; (try with_reducible rfl)
        try simp only [Act.put, List.setIfInBounds_toArray, List.set_cons_zero, List.set_cons_succ]
        refine wpAnyH_take (i := 3) (oi := { dst := some 24, op := Op.move (Operand.tmp 1), type := 3, pos := _, after := #[], guard := none }) (v := ?_) rfl (by kernel_rfl) (by kernel_rfl) (by kernel_rfl) (fun _ _ _ h => h) (Or.inl ⟨by rfl, ?_⟩) (by assumption) ?_
        rotate_left
        · intro w hSw; (try dsimp only at hSw); go_simp; (try with_reducible rfl)
        try simp only [Act.put, List.setIfInBounds_toArray, List.set_cons_zero, List.set_cons_succ]
        refine wpAnyH_take (i := 4) (oi := { dst := some 25, op := Op.binOp BinOp.eql 3 (Operand.tmp 23) (Operand.tmp 24) 3, type := 4, pos := _, after := #[{ on := 2, ground := Ground.data }, { on := 3, ground := Ground.data }], guard := none }) (v := ?_) rfl (by kernel_rfl) (by kernel_rfl) (by kernel_rfl) (fun _ _ _ h => h) (Or.inl ⟨by rfl, ?_⟩) (by assumption) ?_
        rotate_left
        · intro w hSw; (try dsimp only at hSw); go_simp; (try with_reducible rfl)
        try simp only [Act.put, List.setIfInBounds_toArray, List.set_cons_zero, List.set_cons_succ]
        refine wpAnyH_take (i := 5) (oi := { dst := some 26, op := Op.move (Operand.tmp 25), type := 4, pos := _, after := #[{ on := 4, ground := Ground.data }], guard := none }) (v := ?_) rfl (by kernel_rfl) (by kernel_rfl) (by kernel_rfl) (fun _ _ _ h => h) (Or.inl ⟨by rfl, ?_⟩) (by assumption) ?_
        rotate_left
        · intro w hSw; (try dsimp only at hSw); go_simp; (try with_reducible rfl)
        try simp only [Act.put, List.setIfInBounds_toArray, List.set_cons_zero, List.set_cons_succ]
        refine wpAnyH_take (i := 6) (oi := { dst := some 27, op := Op.fieldAddr 61 (Operand.tmp 2) 0, type := 0, pos := _, after := #[{ on := 5, ground := Ground.guard }], guard := some (5, false) }) (v := undef) rfl (by kernel_rfl) (by kernel_rfl) (by kernel_rfl) (fun _ _ _ h => h) (Or.inr ⟨by rfl, rfl⟩) (by assumption) ?_
        try simp only [Act.put, List.setIfInBounds_toArray, List.set_cons_zero, List.set_cons_succ]
        refine wpAnyH_take (i := 7) (oi := { dst := some 28, op := Op.load 52 (Operand.tmp 27), type := 52, pos := _, after := #[{ on := 6, ground := Ground.data }, { on := 5, ground := Ground.guard }], guard := some (5, false) }) (v := undef) rfl (by kernel_rfl) (by kernel_rfl) (by kernel_rfl) (fun _ _ _ h => h) (Or.inr ⟨by rfl, rfl⟩) (by assumption) ?_
        try simp only [Act.put, List.setIfInBounds_toArray, List.set_cons_zero, List.set_cons_succ]
        refine wpAnyH_take (i := 8) (oi := { dst := some 29, op := Op.move (Operand.tmp 8), type := 3, pos := _, after := #[{ on := 5, ground := Ground.guard }], guard := some (5, false) }) (v := undef) rfl (by kernel_rfl) (by kernel_rfl) (by kernel_rfl) (fun _ _ _ h => h) (Or.inr ⟨by rfl, rfl⟩) (by assumption) ?_
        try simp only [Act.put, List.setIfInBounds_toArray, List.set_cons_zero, List.set_cons_succ]
        refine wpAnyH_take (i := 9) (oi := { dst := some 30, op := Op.call { callee := Callee.value (Operand.func 40), args := #[Operand.tmp 28, Operand.tmp 29], argTypes := #[52, 3] }, type := 59, pos := _, after := #[{ on := 7, ground := Ground.data }, { on := 8, ground := Ground.data }, { on := 5, ground := Ground.chain }, { on := 5, ground := Ground.guard }], guard := some (5, false) }) (v := undef) rfl (by kernel_rfl) (by kernel_rfl) (by kernel_rfl) (fun _ _ _ h => h) (Or.inr ⟨by rfl, rfl⟩) (by assumption) ?_
        try simp only [Act.put, List.setIfInBounds_toArray, List.set_cons_zero, List.set_cons_succ]
        refine wpAnyH_take (i := 10) (oi := { dst := some 31, op := Op.move (Operand.tmp 6), type := 83, pos := _, after := #[{ on := 5, ground := Ground.guard }], guard := some (5, false) }) (v := undef) rfl (by kernel_rfl) (by kernel_rfl) (by kernel_rfl) (fun _ _ _ h => h) (Or.inr ⟨by rfl, rfl⟩) (by assumption) ?_
        try simp only [Act.put, List.setIfInBounds_toArray, List.set_cons_zero, List.set_cons_succ]
        refine wpAnyH_take (i := 11) (oi := { dst := some 32, op := Op.call { callee := Callee.value (Operand.func 39), args := #[Operand.tmp 30, Operand.tmp 31], argTypes := #[59, 83] }, type := 4, pos := _, after := #[{ on := 9, ground := Ground.data }, { on := 10, ground := Ground.data }, { on := 9, ground := Ground.chain }, { on := 5, ground := Ground.guard }], guard := some (5, false) }) (v := undef) rfl (by kernel_rfl) (by kernel_rfl) (by kernel_rfl) (fun _ _ _ h => h) (Or.inr ⟨by rfl, rfl⟩) (by assumption) ?_
        try simp only [Act.put, List.setIfInBounds_toArray, List.set_cons_zero, List.set_cons_succ]
        refine wpAnyH_take (i := 12) (oi := { dst := some 33, op := Op.pick (Operand.tmp 26) (Operand.const (Value.bool true)) (Operand.tmp 32), type := 4, pos := _, after := #[{ on := 5, ground := Ground.data }, { on := 11, ground := Ground.data }], guard := none }) (v := ?_) rfl (by kernel_rfl) (by kernel_rfl) (by kernel_rfl) (fun _ _ _ h => h) (Or.inl ⟨by rfl, ?_⟩) (by assumption) ?_
        rotate_left
        · intro w hSw; (try dsimp only at hSw); go_simp; (try with_reducible rfl)
        try simp only [Act.put, List.setIfInBounds_toArray, List.set_cons_zero, List.set_cons_succ]
        refine wpAnyH_take (i := 13) (oi := { dst := some 34, op := Op.indexAddr 67 (Operand.tmp 21) (Operand.tmp 22), type := 0, pos := _, after := #[{ on := 0, ground := Ground.data }, { on := 1, ground := Ground.data }, { on := 0, ground := Ground.phase }, { on := 1, ground := Ground.phase }, { on := 2, ground := Ground.phase }, { on := 3, ground := Ground.phase }, { on := 4, ground := Ground.phase }, { on := 5, ground := Ground.phase }, { on := 6, ground := Ground.phase }, { on := 7, ground := Ground.phase }, { on := 8, ground := Ground.phase }, { on := 9, ground := Ground.phase }, { on := 10, ground := Ground.phase }, { on := 11, ground := Ground.phase }, { on := 12, ground := Ground.phase }], guard := none }) (v := ?_) rfl (by kernel_rfl) (by kernel_rfl) (by kernel_rfl) (fun _ _ _ h => h) (Or.inl ⟨by rfl, ?_⟩) (by assumption) ?_
        rotate_left
        · intro w hSw; (try dsimp only at hSw); go_simp; (try with_reducible rfl)
        try simp only [Act.put, List.setIfInBounds_toArray, List.set_cons_zero, List.set_cons_succ]
        refine wpAnyH_ready (rs := [14]) (by kernel_rfl) (by simp) ?_
        refine AllReadyH.cons (o := { dst := none, op := Op.store 4 (Operand.tmp 34) (Operand.tmp 33), type := 0, pos := _, after := #[{ on := 13, ground := Ground.data }, { on := 12, ground := Ground.data }, { on := 11, ground := Ground.chain }, { on := 0, ground := Ground.phase }, { on := 1, ground := Ground.phase }, { on := 2, ground := Ground.phase }, { on := 3, ground := Ground.phase }, { on := 4, ground := Ground.phase }, { on := 5, ground := Ground.phase }, { on := 6, ground := Ground.phase }, { on := 7, ground := Ground.phase }, { on := 8, ground := Ground.phase }, { on := 9, ground := Ground.phase }, { on := 10, ground := Ground.phase }, { on := 11, ground := Ground.phase }, { on := 12, ground := Ground.phase }], guard := none }) rfl (fun K hK => ?_) AllReadyH.nil
        go_simp
        refine hK.out _ _ ?_ (fun hHeld => ?_)
        · exact HSG.out _ ((((Turn.refl [] wr).drew).more (by simp)).setCell (p := ⟨g, i, none⟩) (.inl (by simp)) _)
        clear hK K
        try simp only [Act.put, List.setIfInBounds_toArray, List.set_cons_zero, List.set_cons_succ]
        refine wpAnyH_done (by kernel_rfl) ?_ _
        go_wp2_with fail
        go_roundw
        case rel => exact ⟨k + 1, by omega, by go_num, Lib.hid (HNX.out _ true (by exact HVT.out) ((Turn.refl [] wr).drew))⟩
        case measure => simp [intOf]; omega
      · have d7 : ((i : Int) == (top : Int)) = false := by simp; omega
        have d8 : decide ((i : Int) = (top : Int)) = false := by simp; omega
        obtain ⟨v, hv⟩ : ∃ v, upT Es top i = v := ⟨_, rfl⟩
        have HVE := Lib.hid hv.symm
        have HV : Hid ((nxE Es i).any (fun a => decide ((a : Int) ∈ (ordL Es).take k) && upT Es top a) = v) := Lib.hid (by rw [← hv]; exact und_val HOK.out HAC.out HY.out (by rw [HEN.out]; exact hin) hit)
        clear hit hv
        refine wp_region_held_drew (S := fun w' => w'.cell? ⟨mp, 0, none⟩ = some (.slice (some ⟨g, 0, none⟩) n n) ∧ w'.cell? ⟨r0, 0, none⟩ = some (.pointer (some ⟨t, 0, none⟩))) (by kernel_rfl) ?_ (fun hHeld => ?_)
        · exact HSG.out _ (Turn.refl _ wr).drew
        refine wpAnyH_take (i := 0) (oi := { dst := some 21, op := Op.load 67 (Operand.tmp 5), type := 67, pos := _, after := #[], guard := none }) (v := ?_) rfl (by kernel_rfl) (by kernel_rfl) (by kernel_rfl) (fun _ _ _ h => h) (Or.inl ⟨by rfl, ?_⟩) (by assumption) ?_
        rotate_left
        · intro w hSw; (try dsimp only at hSw); go_simp; (try with_reducible rfl)
        try simp only [Act.put, List.setIfInBounds_toArray, List.set_cons_zero, List.set_cons_succ]
        refine wpAnyH_take (i := 1) (oi := { dst := some 22, op := Op.move (Operand.tmp 8), type := 3, pos := _, after := #[], guard := none }) (v := ?_) rfl (by kernel_rfl) (by kernel_rfl) (by kernel_rfl) (fun _ _ _ h => h) (Or.inl ⟨by rfl, ?_⟩) (by assumption) ?_
        rotate_left
        · intro w hSw; (try dsimp only at hSw); go_simp; (try with_reducible rfl)
        try simp only [Act.put, List.setIfInBounds_toArray, List.set_cons_zero, List.set_cons_succ]
        refine wpAnyH_take (i := 2) (oi := { dst := some 23, op := Op.move (Operand.tmp 8), type := 3, pos := _, after := #[], guard := none }) (v := ?_) rfl (by kernel_rfl) (by kernel_rfl) (by kernel_rfl) (fun _ _ _ h => h) (Or.inl ⟨by rfl, ?_⟩) (by assumption) ?_
        rotate_left
        · intro w hSw; (try dsimp only at hSw); go_simp; (try with_reducible rfl)
        try simp only [Act.put, List.setIfInBounds_toArray, List.set_cons_zero, List.set_cons_succ]
        refine wpAnyH_take (i := 3) (oi := { dst := some 24, op := Op.move (Operand.tmp 1), type := 3, pos := _, after := #[], guard := none }) (v := ?_) rfl (by kernel_rfl) (by kernel_rfl) (by kernel_rfl) (fun _ _ _ h => h) (Or.inl ⟨by rfl, ?_⟩) (by assumption) ?_
        rotate_left
        · intro w hSw; (try dsimp only at hSw); go_simp; (try with_reducible rfl)
        try simp only [Act.put, List.setIfInBounds_toArray, List.set_cons_zero, List.set_cons_succ]
        refine wpAnyH_take (i := 4) (oi := { dst := some 25, op := Op.binOp BinOp.eql 3 (Operand.tmp 23) (Operand.tmp 24) 3, type := 4, pos := _, after := #[{ on := 2, ground := Ground.data }, { on := 3, ground := Ground.data }], guard := none }) (v := ?_) rfl (by kernel_rfl) (by kernel_rfl) (by kernel_rfl) (fun _ _ _ h => h) (Or.inl ⟨by rfl, ?_⟩) (by assumption) ?_
        rotate_left
        · intro w hSw; (try dsimp only at hSw); go_simp; (try with_reducible rfl)
        try simp only [Act.put, List.setIfInBounds_toArray, List.set_cons_zero, List.set_cons_succ]
        refine wpAnyH_take (i := 5) (oi := { dst := some 26, op := Op.move (Operand.tmp 25), type := 4, pos := _, after := #[{ on := 4, ground := Ground.data }], guard := none }) (v := ?_) rfl (by kernel_rfl) (by kernel_rfl) (by kernel_rfl) (fun _ _ _ h => h) (Or.inl ⟨by rfl, ?_⟩) (by assumption) ?_
        rotate_left
        · intro w hSw; (try dsimp only at hSw); go_simp; (try with_reducible rfl)
        try simp only [Act.put, List.setIfInBounds_toArray, List.set_cons_zero, List.set_cons_succ]
        refine wpAnyH_take (i := 6) (oi := { dst := some 27, op := Op.fieldAddr 61 (Operand.tmp 2) 0, type := 0, pos := _, after := #[{ on := 5, ground := Ground.guard }], guard := some (5, false) }) (v := ?_) rfl (by kernel_rfl) (by kernel_rfl) (by kernel_rfl) (fun _ _ _ h => h) (Or.inl ⟨by rfl, ?_⟩) (by assumption) ?_
        rotate_left
        · intro w hSw; (try dsimp only at hSw); go_simp; (try with_reducible rfl)
        try simp only [Act.put, List.setIfInBounds_toArray, List.set_cons_zero, List.set_cons_succ]
        refine wpAnyH_take (i := 7) (oi := { dst := some 28, op := Op.load 52 (Operand.tmp 27), type := 52, pos := _, after := #[{ on := 6, ground := Ground.data }, { on := 5, ground := Ground.guard }], guard := some (5, false) }) (v := ?_) rfl (by kernel_rfl) (by kernel_rfl) (by kernel_rfl) (fun _ _ _ h => h) (Or.inl ⟨by rfl, ?_⟩) (by assumption) ?_
        rotate_left
        · intro w hSw; (try dsimp only at hSw); go_simp; (try with_reducible rfl)
        try simp only [Act.put, List.setIfInBounds_toArray, List.set_cons_zero, List.set_cons_succ]
        refine wpAnyH_take (i := 8) (oi := { dst := some 29, op := Op.move (Operand.tmp 8), type := 3, pos := _, after := #[{ on := 5, ground := Ground.guard }], guard := some (5, false) }) (v := ?_) rfl (by kernel_rfl) (by kernel_rfl) (by kernel_rfl) (fun _ _ _ h => h) (Or.inl ⟨by rfl, ?_⟩) (by assumption) ?_
        rotate_left
        · intro w hSw; (try dsimp only at hSw); go_simp; (try with_reducible rfl)
        try simp only [Act.put, List.setIfInBounds_toArray, List.set_cons_zero, List.set_cons_succ]
        refine wpAnyH_take (i := 10) (oi := { dst := some 31, op := Op.move (Operand.tmp 6), type := 83, pos := _, after := #[{ on := 5, ground := Ground.guard }], guard := some (5, false) }) (v := ?_) rfl (by kernel_rfl) (by kernel_rfl) (by kernel_rfl) (fun _ _ _ h => h) (Or.inl ⟨by rfl, ?_⟩) (by assumption) ?_
        rotate_left
        · intro w hSw; (try dsimp only at hSw); go_simp; (try with_reducible rfl)
        try simp only [Act.put, List.setIfInBounds_toArray, List.set_cons_zero, List.set_cons_succ]
        refine wpAnyH_ready (rs := [9]) (by kernel_rfl) (by simp) ?_
        refine AllReadyH.cons (o := { dst := some 30, op := Op.call { callee := Callee.value (Operand.func 40), args := #[Operand.tmp 28, Operand.tmp 29], argTypes := #[52, 3] }, type := 59, pos := _, after := #[{ on := 7, ground := Ground.data }, { on := 8, ground := Ground.data }, { on := 5, ground := Ground.chain }, { on := 5, ground := Ground.guard }], guard := some (5, false) }) rfl (fun K hK => ?_) AllReadyH.nil
        go_simp
        go_at_call 40
        (with_reducible refine (HRt.out wr.drew HK1.out.drew i).mono ?_)
        rintro e w4 ⟨U4, rfl, h4, t4⟩
        obtain ⟨A4, c4, rfl, hi4, _⟩ := h4.form
        have HT4 : Hid (Turn [] wr w4) := Lib.hid ((Turn.refl [] wr).drew.trans' t4)
        have hl4 : (ofN (enAt Es (i : Int)).rt).length = (nxE Es i).length := by simp [ofN, nxE]
        obtain ⟨N4, hN4⟩ : ∃ N, (ofN (enAt Es (i : Int)).rt).length = N := ⟨_, rfl⟩
        rw [hN4] at hl4 ⊢
        have hN4b : N4 ≤ 1000 := by rw [hl4]; exact HOK.out.few i
        have hmk := HMk.out w4 HT4.out
        have HCo := Lib.hid (containsF_any w4 A4 N4 c4 mp g n n _ (nxE Es i) hi4 hl4 hN4b hn1 hmk)
        rw [HV.out] at HCo
        have cm := (HCm.out w4 HT4.out).1
        have cbf := (HCm.out w4 HT4.out).2
        clear h4 hi4 t4 hl4 hN4 hmk
        try go_wp2_with fail
        refine hK.out _ _ ?_ (fun hHeld => ?_)
        · exact HSG.out _ ((HT4.out).more (by simp))
        clear hK K
        try simp only [Act.put, List.setIfInBounds_toArray, List.set_cons_zero, List.set_cons_succ]
        refine wpAnyH_ready (rs := [11]) (by kernel_rfl) (by simp) ?_
        refine AllReadyH.cons (o := { dst := some 32, op := Op.call { callee := Callee.value (Operand.func 39), args := #[Operand.tmp 30, Operand.tmp 31], argTypes := #[59, 83] }, type := 4, pos := _, after := #[{ on := 9, ground := Ground.data }, { on := 10, ground := Ground.data }, { on := 9, ground := Ground.chain }, { on := 5, ground := Ground.guard }], guard := some (5, false) }) rfl (fun K hK => ?_) AllReadyH.nil
        go_simp
        go_at_call 39
        (with_reducible refine HCo.out.mono ?_)
        rintro e w5 ⟨rfl, rfl⟩
        try go_wp2_with fail
        refine hK.out _ _ ?_ (fun hHeld => ?_)
        · exact HSG.out _ ((HT4.out).more (by simp))
        clear hK K
        try simp only [Act.put, List.setIfInBounds_toArray, List.set_cons_zero, List.set_cons_succ]
        refine wpAnyH_take (i := 12) (oi := { dst := some 33, op := Op.pick (Operand.tmp 26) (Operand.const (Value.bool true)) (Operand.tmp 32), type := 4, pos := _, after := #[{ on := 5, ground := Ground.data }, { on := 11, ground := Ground.data }], guard := none }) (v := ?_) rfl (by kernel_rfl) (by kernel_rfl) (by kernel_rfl) (fun _ _ _ h => h) (Or.inl ⟨by rfl, ?_⟩) (by assumption) ?_
        rotate_left
        · intro w hSw; (try dsimp only at hSw); go_simp; (try with_reducible rfl)
        try simp only [Act.put, List.setIfInBounds_toArray, List.set_cons_zero, List.set_cons_succ]
        refine wpAnyH_take (i := 13) (oi := { dst := some 34, op := Op.indexAddr 67 (Operand.tmp 21) (Operand.tmp 22), type := 0, pos := _, after := #[{ on := 0, ground := Ground.data }, { on := 1, ground := Ground.data }, { on := 0, ground := Ground.phase }, { on := 1, ground := Ground.phase }, { on := 2, ground := Ground.phase }, { on := 3, ground := Ground.phase }, { on := 4, ground := Ground.phase }, { on := 5, ground := Ground.phase }, { on := 6, ground := Ground.phase }, { on := 7, ground := Ground.phase }, { on := 8, ground := Ground.phase }, { on := 9, ground := Ground.phase }, { on := 10, ground := Ground.phase }, { on := 11, ground := Ground.phase }, { on := 12, ground := Ground.phase }], guard := none }) (v := ?_) rfl (by kernel_rfl) (by kernel_rfl) (by kernel_rfl) (fun _ _ _ h => h) (Or.inl ⟨by rfl, ?_⟩) (by assumption) ?_
        rotate_left
        · intro w hSw; (try dsimp only at hSw); go_simp; (try with_reducible rfl)
        try simp only [Act.put, List.setIfInBounds_toArray, List.set_cons_zero, List.set_cons_succ]
        refine wpAnyH_ready (rs := [14]) (by kernel_rfl) (by simp) ?_
        refine AllReadyH.cons (o := { dst := none, op := Op.store 4 (Operand.tmp 34) (Operand.tmp 33), type := 0, pos := _, after := #[{ on := 13, ground := Ground.data }, { on := 12, ground := Ground.data }, { on := 11, ground := Ground.chain }, { on := 0, ground := Ground.phase }, { on := 1, ground := Ground.phase }, { on := 2, ground := Ground.phase }, { on := 3, ground := Ground.phase }, { on := 4, ground := Ground.phase }, { on := 5, ground := Ground.phase }, { on := 6, ground := Ground.phase }, { on := 7, ground := Ground.phase }, { on := 8, ground := Ground.phase }, { on := 9, ground := Ground.phase }, { on := 10, ground := Ground.phase }, { on := 11, ground := Ground.phase }, { on := 12, ground := Ground.phase }], guard := none }) rfl (fun K hK => ?_) AllReadyH.nil
        go_simp
        refine hK.out _ _ ?_ (fun hHeld => ?_)
        · exact HSG.out _ (((HT4.out).more (by simp)).setCell (p := ⟨g, i, none⟩) (.inl (by simp)) _)
        clear hK K
        try simp only [Act.put, List.setIfInBounds_toArray, List.set_cons_zero, List.set_cons_succ]
        refine wpAnyH_done (by kernel_rfl) ?_ _
        go_wp2_with fail
        go_roundw
        case rel => exact ⟨k + 1, by omega, by go_num, Lib.hid (HNX.out _ v (by exact HVE.out) (HT4.out))⟩
        case measure => simp [intOf]; omega
    · obtain rfl : k = n := by omega
      have d1 : decide ((k : Int) < (k : Int)) = false := by simp
      have c9 := (HC3.out wr HK1.out).1
      go_wp2_with fail
      go_ret
      obtain ⟨ms, h1, h2, h3, h4⟩ := HU.out
      refine ⟨g, ms, rfl, h1, h2, fun u hu => ?_, (HT0.out.trans' HT1.out).trans' (HTR.out wr HK1.out)⟩
      have hmem := ((ord_says HOK.out).2.2.2 HAC.out).1 u (by rw [HEN.out]; exact hu)
      rw [h3 u hu, List.take_of_length_le (by rw [HOL.out]; exact Nat.le_refl _)]
      simp [hmem]
end
end Go.Proofs.YtbocejiclellfaaDoor

/- The names of the marked classes. -/
set_option linter.unusedSimpArgs false
set_option linter.unusedVariables false
set_option linter.unusedSectionVars false
set_option maxRecDepth 100000
namespace Go.Proofs.YtbocejiclellfaaDoor
open Go.RowKit

def selB (l : List K8) (top i : Nat) : Bool := upT (esL l) top i && !(enAt (esL l) (i : Int)).face
def lstC (l : List K8) (top k : Nat) : List ByteArray := ((List.range k).filter (selB l top)).map (nmL l)
theorem lstC_next (l : List K8) (top k : Nat) : lstC l top (k + 1) = if selB l top k = true then lstC l top k ++ [nmL l k] else lstC l top k := by
  unfold lstC
  rw [List.range_succ, List.filter_append]
  by_cases h : selB l top k = true
  · rw [if_pos h]
    simp [h]
  · rw [if_neg h]
    simp [h]
theorem lstC_len (l : List K8) (top k : Nat) : (lstC l top k).length ≤ k := by
  unfold lstC
  rw [List.length_map]
  have := List.length_filter_le (selB l top) (List.range k)
  simpa using this
theorem rws_str (W : World) (T : TypeId) (s : ByteArray) : Rws (W.alloc (.cells #[.string s] T)) 1 (some ⟨W.heap.size, 0, none⟩) 1 [.string s] := by
  have h := heap_alloc_new W (.cells #[.string s] T)
  refine ⟨rfl, .inr ⟨_, 0, rfl, by simp, fun j u' hj => ?_⟩⟩
  rw [cell_of_row _ W.heap.size _ _ _ _ h]
  match j, hj with
  | 0, hj => simp at hj; subst hj; simp
  | j + 1, hj => simp at hj
section
variable {A : Option Addr} {B : Nat} {l : List K8} {r t m sz : Nat} {V VO : Value} {x : Nat}
set_option maxHeartbeats 12800000 in
theorem classes_any (gg : Rgt l) (pl : PlainL l) (hz : ∀ x ∈ l, x.nm.size ≤ 281474976710656) (W : World) (b : Ty A B l r t m sz V x VO W) (top g : Nat) (ms : List Bool) (hO : OwnB W 0 (.slice (some ⟨g, 0, none⟩) l.length l.length) ms) (hms : ms.length = l.length) (hmu : ∀ u, u < l.length → ms[u]? = some (upT (esL l) top u)) :
    Calls Tryd.prog 22 #[.agg #[.pointer (some ⟨t, 0, none⟩), VO], .slice (some ⟨g, 0, none⟩) l.length l.length] W fun e w' => ∃ U, e = .returned U ∧ OwnS w' U (lstC l top l.length) ∧ Turn [] W w' := by
  obtain ⟨n, hn⟩ : ∃ n, l.length = n := ⟨_, rfl⟩
  have hn1 : n ≤ 1000 := by rw [← hn]; exact b.len
  obtain ⟨r0, hr0⟩ : ∃ r, W.heap.size = r := ⟨_, rfl⟩
  obtain ⟨W0, hW0⟩ : ∃ W', W.alloc (.cells #[.pointer (some ⟨t, 0, none⟩), VO] 63) = W' := ⟨_, rfl⟩
  have t0 : Turn [] W W0 := by rw [← hW0]; exact (Turn.refl [] W).alloc _
  have s0 : W0.heap.size = r0 + 1 := by rw [← hW0, ← hr0]; simp
  have b0 : W0.heap[r0]? = some (.cells #[.pointer (some ⟨t, 0, none⟩), VO] 63 (0, 0)) := by rw [← hW0, ← hr0]; exact heap_alloc_new W _
  have HBx : Hid (∀ w, Turn [] W0 w → w.cell? ⟨r0, 0, none⟩ = some (.pointer (some ⟨t, 0, none⟩)) ∧ w.cell? ⟨r0, 1, none⟩ = some VO) := Lib.hid fun w k => ⟨cell_of_row _ r0 0 _ _ _ (k.heap b0 (by simp)), cell_of_row _ r0 1 _ _ _ (k.heap b0 (by simp))⟩
  have HNm : Hid (∀ w, Turn [] W0 w → ∀ i : Nat, Calls Tryd.prog 25 #[.agg #[.pointer (some ⟨t, 0, none⟩), VO], .int .i64 (i : Int)] w fun e w' => e = .returned (.string (nmL l i)) ∧ Turn [] w w') := Lib.hid fun w k i => by
    have := lname_any (VO := VO) w (b.bk.turn (t0.trans' k)) (i : Int)
    rw [en_nm b.len b.snd] at this
    exact this
  have HCl : Hid (∀ w, Turn [] W0 w → ∀ i : Nat, i < n → Calls Tryd.prog 33 #[.agg #[.pointer (some ⟨t, 0, none⟩), VO], .string (nmL l i)] w fun e w' => e = .returned (.tuple #[.int .i64 (i : Int), .bool true]) ∧ Turn [] w w') := Lib.hid fun w k i hi => by
    have hok : okKd l (.cl i) := by show i < l.length; omega
    have hc := cl_tx gg pl hok
    simp only [txK] at hc
    obtain ⟨y, hy, hyn⟩ := kd_at (show i < l.length by omega)
    have := nclass_any (VO := VO) w (b.bk.turn (t0.trans' k)) (nmL l i) (by rw [hyn]; have := hz y (List.mem_of_getElem? hy); omega)
    rw [hc] at this
    exact this
  have HFc : Hid (∀ w, Turn [] W0 w → ∀ i : Nat, Calls Tryd.prog 36 #[.pointer (some ⟨t, 0, none⟩), .int .i64 (i : Int)] w fun e w' => e = .returned (.bool (enAt (esL l) (i : Int)).face) ∧ Turn [] w w') := Lib.hid fun w k i => bk_face w (b.bk.turn (t0.trans' k)) (i : Int)
  have HM : Hid (∀ w, Turn [] W0 w → ∀ u, u < n → w.cell? ⟨g, u, none⟩ = some (.bool (upT (esL l) top u))) := Lib.hid fun w k u hu => ((hO.turn' t0).turn' k).at.1 u _ (hmu u (by omega))
  have HT0 := Lib.hid t0
  have HW0 := Lib.hid hW0
  have HR0 := Lib.hid hr0
  have HS0 := Lib.hid s0
  have HN := Lib.hid hn
  rw [hn]
  clear b t0 hW0 hr0 b0 s0 hO hms hmu hz
  go_enter Tryd.func22, Tryd.ntmps22
  go_upto_region 1 with fail
  rw [HR0.out, HW0.out]
  go_wp2_with fail
  go_loopw [5, 13] (fun v5 v13 wr => ∃ k : Nat, k ≤ n ∧ v13 = .int .i64 (k : Int) ∧ Hid (OwnS wr v5 (lstC l top k) ∧ (∀ q, v5.ownBlock = some q → r0 + 1 ≤ q) ∧ Turn [] W0 wr)) (fun _ v13 _ => n - (intOf v13).toNat)
  case atStart => exact ⟨0, Nat.zero_le _, rfl, Lib.hid ⟨World.ownsRow_nil _ 0 9 1, fun q h => by simp [Value.ownBlock] at h, Turn.refl _ _⟩⟩
  case round =>
    obtain ⟨k, hk, rfl, HK⟩ := hrel
    by_cases hkn : k < n
    · have d1 : decide ((k : Int) < (n : Int)) = true := by simp; omega
      have d2 : (k : Int) < (n : Int) := by omega
      have cm := HM.out wr HK.out.2.2 k hkn
      obtain ⟨c0, c1⟩ := HBx.out wr HK.out.2.2
      have HN1 := Lib.hid (HNm.out wr HK.out.2.2 k)
      have hnx := lstC_next l top k
      have hll := lstC_len l top k
      have HCk : Hid (∀ w, Turn [] W0 w → Calls Tryd.prog 33 #[.agg #[.pointer (some ⟨t, 0, none⟩), VO], .string (nmL l k)] w fun e w' => e = .returned (.tuple #[.int .i64 (k : Int), .bool true]) ∧ Turn [] w w') := Lib.hid fun w q => HCl.out w q k hkn
      have HFk : Hid (∀ w, Turn [] W0 w → Calls Tryd.prog 36 #[.pointer (some ⟨t, 0, none⟩), .int .i64 (k : Int)] w fun e w' => e = .returned (.bool (enAt (esL l) (k : Int)).face) ∧ Turn [] w w') := Lib.hid fun w q => HFc.out w q k
      unfold selB at hnx
      obtain ⟨nm, hnm⟩ : ∃ nm, nmL l k = nm := ⟨_, rfl⟩
      obtain ⟨mk, hmk⟩ : ∃ mk, upT (esL l) top k = mk := ⟨_, rfl⟩
      obtain ⟨fc, hfc⟩ : ∃ fc, (enAt (esL l) (k : Int)).face = fc := ⟨_, rfl⟩
      rw [hnm] at HN1 HCk hnx
      rw [hmk] at cm hnx
      rw [hfc] at HFk hnx
      have HNX := Lib.hid hnx
      clear hnx hnm hmk hfc
      go_wp2_with fail
      refine HN1.out.mono ?_
      rintro e w1 ⟨rfl, t1⟩
      have HT1 := Lib.hid t1
      obtain ⟨e0, e1⟩ := HBx.out w1 (HK.out.2.2.trans' t1)
      have HC1 := Lib.hid (HCk.out w1 (HK.out.2.2.trans' t1))
      clear t1 c0 c1 HN1 cm
      go_wp2_with fail
      refine HC1.out.mono ?_
      rintro e w2 ⟨rfl, t2⟩
      have HT2 := Lib.hid (HT1.out.trans' t2)
      obtain ⟨f0, f1⟩ := HBx.out w2 (HK.out.2.2.trans' (HT1.out.trans' t2))
      have HF2 := Lib.hid (HFk.out w2 (HK.out.2.2.trans' (HT1.out.trans' t2)))
      clear t2 e0 e1 HC1
      cases mk with
      | false =>
        have HN2 : Hid (lstC l top (k + 1) = lstC l top k) := Lib.hid HNX.out
        go_wp2_with fail
        go_roundw
        case rel => exact ⟨k + 1, by omega, by go_num, Lib.hid ⟨by rw [HN2.out]; exact HK.out.1.turn' HT2.out, HK.out.2.1, HK.out.2.2.trans' HT2.out⟩⟩
        case measure => simp [intOf]; omega
      | true =>
        go_wp2_with fail
        refine HF2.out.mono ?_
        rintro e w3 ⟨rfl, t3⟩
        have HT3 := Lib.hid (HT2.out.trans' t3)
        clear t3 f0 f1 HF2
        cases fc with
        | true =>
          have HN2 : Hid (lstC l top (k + 1) = lstC l top k) := Lib.hid HNX.out
          go_wp2_with fail
          go_roundw
          case rel => exact ⟨k + 1, by omega, by go_num, Lib.hid ⟨by rw [HN2.out]; exact HK.out.1.turn' HT3.out, HK.out.2.1, HK.out.2.2.trans' HT3.out⟩⟩
          case measure => simp [intOf]; omega
        | false =>
          have HN2 : Hid (lstC l top (k + 1) = lstC l top k ++ [nm]) := Lib.hid HNX.out
          have HTA : Hid (Turn [] wr (w3.alloc (.cells #[.string nm] 9))) := Lib.hid (HT3.out.alloc _)
          go_wp2_with (at_builtin
                       refine wpList_appR rfl (.tmp 40) (.tmp 42) 35 rfl (w3.alloc (.cells #[.string nm] 9)) 9 (.string ⟨#[]⟩) 1 16 Tryd.underlying35 rfl rfl (by omega) u5 (lstC l top k).length ((lstC l top k).map Value.string) rfl (HK.out.1.turn' HTA.out) (some ⟨w3.heap.size, 0, none⟩) 1 1 [.string nm] rfl (rws_str _ _ _) (by simp [Value.oneCell']) (by unfold maxLen; omega) (by omega) ?_
                       intro v6 w6 ho6 t6 hb6
                       have HO6 := Lib.hid (And.intro ho6 (And.intro t6 hb6))
                       clear ho6 t6 hb6)
          have HT6 : Hid (Turn u5.ownBlock.toList wr w6) := Lib.hid ((HTA.out.more (by simp)).trans HO6.out.2.1 (fun g hg => .inl hg))
          go_roundw
          case rel =>
            refine ⟨k + 1, by omega, by go_num, Lib.hid ⟨?_, fun q hq => ?_, ?_⟩⟩
            · rw [HN2.out]
              unfold OwnS
              rw [List.length_append, List.map_append]
              exact HO6.out.1
            · rcases HO6.out.2.2 with h | h
              · exact HK.out.2.1 q (by rw [← h]; exact hq)
              · rw [h] at hq
                injection hq with hq
                have h5 := HK.out.2.2.size
                have h6 := HTA.out.size
                have := HS0.out
                omega
            · exact HK.out.2.2.trans HT6.out (fun q hq => .inr (by have h5 := HK.out.2.1 q (by simpa using hq); have := HS0.out; omega))
          case measure => simp [intOf]; omega
    · obtain rfl : k = n := by omega
      have d1 : decide ((k : Int) < (k : Int)) = false := by simp
      go_wp2_with fail
      go_ret
      exact ⟨_, rfl, HK.out.1, HT0.out.trans' HK.out.2.2⟩
end
end Go.Proofs.YtbocejiclellfaaDoor

/- Under: what stands for a type. -/
set_option linter.unusedSimpArgs false
set_option linter.unusedVariables false
set_option linter.unusedSectionVars false
set_option maxRecDepth 100000
namespace Go.Proofs.YtbocejiclellfaaDoor
open Go.RowKit

attribute [local go_sem] eq_ptrT
def undL (l : List K8) (s : ByteArray) : List ByteArray := match elI l s with
  | some i => [nmL l i ++ tBr]
  | none => match clI l s with
    | some j => lstC l j l.length
    | none => []
theorem nmL_size {l : List K8} (hz : ∀ x ∈ l, x.nm.size ≤ 281474976710656) (i : Nat) : (nmL l i).size ≤ 281474976710656 := by
  rcases Nat.lt_or_ge i l.length with h | h
  · obtain ⟨x, hx, hn⟩ := kd_at h
    rw [hn]
    exact hz x (List.mem_of_getElem? hx)
  · unfold nmL
    rw [List.getElem?_eq_none h]
    exact Nat.zero_le _
theorem owns_str (W : World) (s : ByteArray) : OwnS (W.alloc (.cells #[.string s] 9)) (.slice (some ⟨W.heap.size, 0, none⟩) 1 1) [s] :=
  ⟨rfl, .inr ⟨W.heap.size, 1, #[.string s], rfl, Nat.zero_le _, heap_alloc_new W _, Nat.le_refl _, by unfold maxLen; omega, rfl, rfl⟩⟩
section
variable {A : Option Addr} {B : Nat} {l : List K8} {r t m sz : Nat} {V VO : Value} {x : Nat}
set_option maxHeartbeats 6400000 in
theorem tUnder_any (gg : Rgt l) (pl : PlainL l) (hz : ∀ x ∈ l, x.nm.size ≤ 281474976710656) (W : World) (b : Ty A B l r t m sz V x VO W) (s : ByteArray) (hs : s.size ≤ 562949953421312) : Calls Tryd.prog 12 #[.pointer (some ⟨x, 0, none⟩), .string s] W fun e w' => ∃ U, e = .returned U ∧ OwnS w' U (undL l s) ∧ Turn [] W w' := by
  have HC := Lib.hid (tElem_any W b s hs)
  have HD : Hid (∀ w, Turn [] W w → Calls Tryd.prog 20 #[.pointer (some ⟨x, 0, none⟩), .string s] w fun e w' => e = .returned (.tuple #[.int .i64 (((clI l s).getD 0 : Nat) : Int), .bool (clI l s).isSome]) ∧ Turn [] w w') := Lib.hid fun w k => tClass_any w (b.turn k) s hs
  have HB := Lib.hid b
  have HBx : Hid (∀ w, Turn [] W w → (w.cell? ⟨x, 0, none⟩ = some (.pointer (some ⟨t, 0, none⟩)) ∧ w.cell? ⟨x, 1, none⟩ = some VO)) := Lib.hid fun w k => ⟨cell_of_row _ x 0 _ _ _ (k.heap b.blk (by simp)), cell_of_row _ x 1 _ _ _ (k.heap b.blk (by simp))⟩
  obtain ⟨oe, hoe⟩ : ∃ o, elI l s = o := ⟨_, rfl⟩
  obtain ⟨oc, hoc⟩ : ∃ o, clI l s = o := ⟨_, rfl⟩
  cases oe with
  | some i =>
    have HE : Hid (undL l s = [nmL l i ++ tBr]) := Lib.hid (by unfold undL; rw [hoe])
    have hlim0 := nmL_size hz i
    have hel := elT_nm l s hoe
    rw [hoe, hel] at HC
    obtain ⟨nm, hnm⟩ : ∃ nm, nmL l i = nm := ⟨_, rfl⟩
    rw [hnm] at HC HE hlim0
    have hlim : ¬ 9223372036854775807 < nm.size + 2 := by omega
    clear b hoe hoc hel hnm hz
    go_enter Tryd.func12, Tryd.ntmps12
    go_wp2_with fail
    refine HC.out.mono ?_
    rintro e w1 ⟨rfl, t1⟩
    have HT1 := Lib.hid t1
    clear t1
    go_wp2_with fail
    go_ret
    exact ⟨_, rfl, by rw [HE.out]; exact owns_str w1 (nm ++ tBr), HT1.out.alloc _⟩
  | none =>
    have hel := elT_none l s hoe
    rw [hoe, hel] at HC
    rw [hoc] at HD
    cases oc with
    | none =>
      have HE : Hid (undL l s = []) := Lib.hid (by unfold undL; rw [hoe]; simp only; rw [hoc])
      clear b hoe hoc hel hz
      go_enter Tryd.func12, Tryd.ntmps12
      go_wp2_with fail
      refine HC.out.mono ?_
      rintro e w1 ⟨rfl, t1⟩
      have HT1 := Lib.hid t1
      have HD1 := Lib.hid (HD.out w1 t1)
      clear t1
      go_wp2_with fail
      refine HD1.out.mono ?_
      rintro e w2 ⟨rfl, t2⟩
      have HT2 := Lib.hid (HT1.out.trans' t2)
      clear t2
      go_wp2_with fail
      go_ret
      exact ⟨_, rfl, by rw [HE.out]; exact World.ownsRow_nil _ 0 9 1, HT2.out⟩
    | some j =>
      have hjl : j < l.length := by
        unfold clI at hoc
        split at hoc
        · cases hoc
        · exact (fstF_lt hoc).1
      have HE : Hid (undL l s = lstC l j l.length) := Lib.hid (by unfold undL; rw [hoe]; simp only; rw [hoc])
      obtain ⟨n, hn⟩ : ∃ n, l.length = n := ⟨_, rfl⟩
      have HLN := Lib.hid hn
      have HUn : Hid (∀ w, Turn [] W w → Calls Tryd.prog 23 #[.agg #[.pointer (some ⟨t, 0, none⟩), VO], .int .i64 (j : Int)] w fun e w' => ∃ g ms, e = .returned (.slice (some ⟨g, 0, none⟩) l.length l.length) ∧ OwnB w' 0 (.slice (some ⟨g, 0, none⟩) l.length l.length) ms ∧ ms.length = l.length ∧ (∀ u, u < l.length → ms[u]? = some (upT (esL l) j u)) ∧ Turn [] w w') := Lib.hid fun w k => under_any gg w (b.turn k) j hjl
      have HCs0 : Hid (∀ w, Turn [] W w → ∀ g ms, OwnB w 0 (.slice (some ⟨g, 0, none⟩) l.length l.length) ms → ms.length = l.length → (∀ u, u < l.length → ms[u]? = some (upT (esL l) j u)) → Calls Tryd.prog 22 #[.agg #[.pointer (some ⟨t, 0, none⟩), VO], .slice (some ⟨g, 0, none⟩) l.length l.length] w fun e w' => ∃ U, e = .returned U ∧ OwnS w' U (lstC l j l.length) ∧ Turn [] w w') := Lib.hid fun w k g ms h1 h2 h3 => classes_any gg pl hz w (b.turn k) j g ms h1 h2 h3
      rw [HE.out]
      clear b hoe hoc hel hz HE hn hjl gg pl
      go_enter Tryd.func12, Tryd.ntmps12
      go_wp2_with fail
      refine HC.out.mono ?_
      rintro e w1 ⟨rfl, t1⟩
      have HT1 := Lib.hid t1
      have HD1 := Lib.hid (HD.out w1 t1)
      clear t1
      go_wp2_with fail
      refine HD1.out.mono ?_
      rintro e w2 ⟨rfl, t2⟩
      have HT2 := Lib.hid (HT1.out.trans' t2)
      have HSS : Hid (∀ w', Turn [] w2 w' → (w'.cell? ⟨x, 0, none⟩ = some (.pointer (some ⟨t, 0, none⟩)) ∧ w'.cell? ⟨x, 1, none⟩ = some VO)) := Lib.hid fun w' q => HBx.out w' (HT2.out.trans' q)
      clear t2 HD1 HC
      simp only [Option.getD_some, Option.isSome_some]
      go_upto_region 7 with fail
      refine wp_region_held_drew (S := fun w' => w'.cell? ⟨x, 0, none⟩ = some (.pointer (some ⟨t, 0, none⟩)) ∧ w'.cell? ⟨x, 1, none⟩ = some VO) (by kernel_rfl) ?_ (fun hHeld => ?_)
      · exact HSS.out _ (Turn.refl [] w2).drew
      refine wpAnyH_take (i := 0) (oi := { dst := some 27, op := Op.move (Operand.tmp 0), type := 33, pos := _, after := #[], guard := none }) (v := ?_) rfl (by kernel_rfl) (by kernel_rfl) (by kernel_rfl) (fun _ _ _ h => h) (Or.inl ⟨by rfl, ?_⟩) (by assumption) ?_
      rotate_left
      · intro w hSw; (try dsimp only at hSw); go_simp; (try with_reducible rfl)
      try simp only [Act.put, List.setIfInBounds_toArray, List.set_cons_zero, List.set_cons_succ]
      refine wpAnyH_take (i := 1) (oi := { dst := some 28, op := Op.nilCheck (Operand.tmp 27), type := 0, pos := _, after := #[{ on := 0, ground := Ground.data }], guard := none }) (v := ?_) rfl (by kernel_rfl) (by kernel_rfl) (by kernel_rfl) (fun _ _ _ h => h) (Or.inl ⟨by rfl, ?_⟩) (by assumption) ?_
      rotate_left
      · intro w hSw; (try dsimp only at hSw); go_simp; (try with_reducible rfl)
      try simp only [Act.put, List.setIfInBounds_toArray, List.set_cons_zero, List.set_cons_succ]
      refine wpAnyH_take (i := 2) (oi := { dst := some 29, op := Op.fieldAddr 65 (Operand.tmp 28) 0, type := 0, pos := _, after := #[{ on := 1, ground := Ground.data }], guard := none }) (v := ?_) rfl (by kernel_rfl) (by kernel_rfl) (by kernel_rfl) (fun _ _ _ h => h) (Or.inl ⟨by rfl, ?_⟩) (by assumption) ?_
      rotate_left
      · intro w hSw; (try dsimp only at hSw); go_simp; (try with_reducible rfl)
      try simp only [Act.put, List.setIfInBounds_toArray, List.set_cons_zero, List.set_cons_succ]
      refine wpAnyH_take (i := 3) (oi := { dst := some 30, op := Op.load 63 (Operand.tmp 29), type := 63, pos := _, after := #[{ on := 2, ground := Ground.data }], guard := none }) (v := ?_) rfl (by kernel_rfl) (by kernel_rfl) (by kernel_rfl) (fun _ _ _ h => h) (Or.inl ⟨by rfl, ?_⟩) (by assumption) ?_
      rotate_left
      · intro w hSw; (try dsimp only at hSw); go_simp; (try with_reducible rfl)
      try simp only [Act.put, List.setIfInBounds_toArray, List.set_cons_zero, List.set_cons_succ]
      refine wpAnyH_take (i := 4) (oi := { dst := some 31, op := Op.move (Operand.tmp 0), type := 33, pos := _, after := #[], guard := none }) (v := ?_) rfl (by kernel_rfl) (by kernel_rfl) (by kernel_rfl) (fun _ _ _ h => h) (Or.inl ⟨by rfl, ?_⟩) (by assumption) ?_
      rotate_left
      · intro w hSw; (try dsimp only at hSw); go_simp; (try with_reducible rfl)
      try simp only [Act.put, List.setIfInBounds_toArray, List.set_cons_zero, List.set_cons_succ]
      refine wpAnyH_take (i := 5) (oi := { dst := some 32, op := Op.nilCheck (Operand.tmp 31), type := 0, pos := _, after := #[{ on := 4, ground := Ground.data }], guard := none }) (v := ?_) rfl (by kernel_rfl) (by kernel_rfl) (by kernel_rfl) (fun _ _ _ h => h) (Or.inl ⟨by rfl, ?_⟩) (by assumption) ?_
      rotate_left
      · intro w hSw; (try dsimp only at hSw); go_simp; (try with_reducible rfl)
      try simp only [Act.put, List.setIfInBounds_toArray, List.set_cons_zero, List.set_cons_succ]
      refine wpAnyH_take (i := 6) (oi := { dst := some 33, op := Op.fieldAddr 65 (Operand.tmp 32) 0, type := 0, pos := _, after := #[{ on := 5, ground := Ground.data }], guard := none }) (v := ?_) rfl (by kernel_rfl) (by kernel_rfl) (by kernel_rfl) (fun _ _ _ h => h) (Or.inl ⟨by rfl, ?_⟩) (by assumption) ?_
      rotate_left
      · intro w hSw; (try dsimp only at hSw); go_simp; (try with_reducible rfl)
      try simp only [Act.put, List.setIfInBounds_toArray, List.set_cons_zero, List.set_cons_succ]
      refine wpAnyH_take (i := 7) (oi := { dst := some 34, op := Op.fieldAddr 63 (Operand.tmp 33) 0, type := 0, pos := _, after := #[{ on := 6, ground := Ground.data }], guard := none }) (v := ?_) rfl (by kernel_rfl) (by kernel_rfl) (by kernel_rfl) (fun _ _ _ h => h) (Or.inl ⟨by rfl, ?_⟩) (by assumption) ?_
      rotate_left
      · intro w hSw; (try dsimp only at hSw); go_simp; (try with_reducible rfl)
      try simp only [Act.put, List.setIfInBounds_toArray, List.set_cons_zero, List.set_cons_succ]
      refine wpAnyH_take (i := 8) (oi := { dst := some 35, op := Op.load 61 (Operand.tmp 34), type := 61, pos := _, after := #[{ on := 7, ground := Ground.data }], guard := none }) (v := ?_) rfl (by kernel_rfl) (by kernel_rfl) (by kernel_rfl) (fun _ _ _ h => h) (Or.inl ⟨by rfl, ?_⟩) (by assumption) ?_
      rotate_left
      · intro w hSw; (try dsimp only at hSw); go_simp; (try with_reducible rfl)
      try simp only [Act.put, List.setIfInBounds_toArray, List.set_cons_zero, List.set_cons_succ]
      refine wpAnyH_take (i := 9) (oi := { dst := some 36, op := Op.move (Operand.tmp 7), type := 3, pos := _, after := #[], guard := none }) (v := ?_) rfl (by kernel_rfl) (by kernel_rfl) (by kernel_rfl) (fun _ _ _ h => h) (Or.inl ⟨by rfl, ?_⟩) (by assumption) ?_
      rotate_left
      · intro w hSw; (try dsimp only at hSw); go_simp; (try with_reducible rfl)
      try simp only [Act.put, List.setIfInBounds_toArray, List.set_cons_zero, List.set_cons_succ]
      refine wpAnyH_ready (rs := [10]) (by kernel_rfl) (by simp) ?_
      refine AllReadyH.cons (o := { dst := some 37, op := Op.call { callee := Callee.value (Operand.func 23), args := #[Operand.tmp 35, Operand.tmp 36], argTypes := #[61, 3] }, type := 67, pos := _, after := #[{ on := 8, ground := Ground.data }, { on := 9, ground := Ground.data }], guard := none }) rfl (fun K hK => ?_) AllReadyH.nil
      go_simp
      go_at_call 23
      (with_reducible refine (HUn.out w2.drew (HT2.out.drew)).mono ?_)
      rintro e w4 ⟨g4, ms4, rfl, h4, h5, h6, t4⟩
      have HT4 : Hid (Turn [] w2 w4) := Lib.hid ((Turn.refl [] w2).drew.trans' t4)
      have HCs := Lib.hid (HCs0.out w4 (HT2.out.trans' HT4.out) g4 ms4 h4 h5 h6)
      rw [HLN.out] at HCs ⊢
      clear h4 h5 h6 t4
      try go_wp2_with fail
      refine hK.out _ _ ?_ (fun hHeld => ?_)
      · exact HSS.out _ (HT4.out)
      clear hK K
      try simp only [Act.put, List.setIfInBounds_toArray, List.set_cons_zero, List.set_cons_succ]
      refine wpAnyH_ready (rs := [11]) (by kernel_rfl) (by simp) ?_
      refine AllReadyH.cons (o := { dst := some 38, op := Op.call { callee := Callee.value (Operand.func 22), args := #[Operand.tmp 30, Operand.tmp 37], argTypes := #[63, 67] }, type := 35, pos := _, after := #[{ on := 3, ground := Ground.data }, { on := 10, ground := Ground.data }, { on := 10, ground := Ground.chain }], guard := none }) rfl (fun K hK => ?_) AllReadyH.nil
      go_simp
      go_at_call 22
      (with_reducible refine HCs.out.mono ?_)
      rintro e w5 ⟨U5, rfl, h5, t5⟩
      have HT5 : Hid (Turn [] w2 w5) := Lib.hid (HT4.out.trans' t5)
      have HO5 := Lib.hid h5
      clear t5 h5
      try go_wp2_with fail
      refine hK.out _ _ ?_ (fun hHeld => ?_)
      · exact HSS.out _ (HT5.out)
      clear hK K
      try simp only [Act.put, List.setIfInBounds_toArray, List.set_cons_zero, List.set_cons_succ]
      refine wpAnyH_take (i := 12) (oi := { dst := some 4, op := Op.assign (Operand.tmp 38), type := 35, pos := _, after := #[{ on := 11, ground := Ground.data }, { on := 11, ground := Ground.chain }, { on := 0, ground := Ground.phase }, { on := 1, ground := Ground.phase }, { on := 2, ground := Ground.phase }, { on := 3, ground := Ground.phase }, { on := 4, ground := Ground.phase }, { on := 5, ground := Ground.phase }, { on := 6, ground := Ground.phase }, { on := 7, ground := Ground.phase }, { on := 8, ground := Ground.phase }, { on := 9, ground := Ground.phase }, { on := 10, ground := Ground.phase }, { on := 11, ground := Ground.phase }], guard := none }) (v := ?_) rfl (by kernel_rfl) (by kernel_rfl) (by kernel_rfl) (fun _ _ _ h => h) (Or.inl ⟨by rfl, ?_⟩) (by assumption) ?_
      rotate_left
      · intro w hSw; (try dsimp only at hSw); go_simp; (try with_reducible rfl)
      try simp only [Act.put, List.setIfInBounds_toArray, List.set_cons_zero, List.set_cons_succ]
      refine wpAnyH_done (by kernel_rfl) ?_ _
      go_wp2_with fail
      go_ret
      exact ⟨_, rfl, by rw [HLN.out]; exact HO5.out, HT2.out.trans' HT5.out⟩
end
end Go.Proofs.YtbocejiclellfaaDoor

/- What stands below a type, by itself: plain. -/
set_option linter.unusedSimpArgs false
set_option linter.unusedVariables false
namespace Go.Proofs.YtbocejiclellfaaDoor
open Go.RowKit

def undK (l : List K8) : Kd → List Kd
  | .ar j => [.ar j]
  | .cl j => ((List.range l.length).filter (selB l j)).map .cl
  | _ => []
theorem und_tx {l : List K8} (g : Rgt l) (p : PlainL l) {k : Kd} (hk : okKd l k) : undL l (txK l k) = (undK l k).map (txK l) := by
  unfold undL
  have he := el_tx g p hk
  have hc := cl_tx g p hk
  cases k with
  | int => rw [he]; simp only; rw [hc]; rfl
  | null => rw [he]; simp only; rw [hc]; rfl
  | cl j =>
    rw [he]
    simp only
    rw [hc]
    simp only [undK, lstC, List.map_map]
    rfl
  | ar j => rw [he]; rfl
theorem bel_cl {l : List K8} (g : Rgt l) {i j : Nat} (hj : j < l.length) : belK l (.cl i) (.cl j) = upT (esL l) j i := by
  unfold belK
  by_cases e : i = j
  · subst e
    rw [if_pos rfl]
    exact ((upT_iff g.ok).2 (.refl (by rw [esL_len]; exact hj) (by simp))).symm
  · rw [if_neg (by simp [e]), if_neg (by simp)]
    rfl
theorem und_mem {l : List K8} (g : Rgt l) {k a : Kd} (hk : okKd l k) (h : a ∈ undK l k) : okKd l a ∧ belK l a k = true := by
  cases k with
  | int => simp [undK] at h
  | null => simp [undK] at h
  | ar j =>
    simp [undK] at h
    subst h
    exact ⟨hk, by unfold belK; rw [if_pos rfl]⟩
  | cl j =>
    simp only [undK, List.mem_map, List.mem_filter, List.mem_range] at h
    obtain ⟨i, ⟨hi, hs⟩, rfl⟩ := h
    refine ⟨hi, ?_⟩
    rw [bel_cl g hk]
    unfold selB at hs
    simp only [Bool.and_eq_true] at hs
    exact hs.1
theorem und_nodup (l : List K8) (k : Kd) : (undK l k).Nodup := by
  cases k with
  | int => simp [undK]
  | null => simp [undK]
  | ar j => simp [undK]
  | cl j =>
    unfold undK
    refine List.Pairwise.map _ (fun a b h e => ?_) ((List.nodup_range).filter _)
    injection e with e
    exact h e
/-- How many classes of the first k, but interfaces, stand for it. -/
def cntK (l : List K8) (kd : Kd) (k : Nat) : Nat := ((List.range k).filter fun (i : Nat) => !(enAt (esL l) (i : Int)).face && belK l (.cl i) kd).length
theorem cntK_next (l : List K8) (kd : Kd) (k : Nat) : cntK l kd (k + 1) = cntK l kd k + (if (!(enAt (esL l) (k : Int)).face && belK l (.cl k) kd) = true then 1 else 0) := by
  unfold cntK
  rw [List.range_succ, List.filter_append, List.length_append]
  congr 1
  by_cases h : (!(enAt (esL l) (k : Int)).face && belK l (.cl k) kd) = true
  · rw [if_pos h]
    simp only [List.filter_cons, h, List.filter_nil]
    rfl
  · rw [if_neg h]
    simp only [List.filter_cons, h, List.filter_nil]
    rfl
theorem cntK_le (l : List K8) (kd : Kd) (k : Nat) : cntK l kd k ≤ k := by
  unfold cntK
  have := List.length_filter_le (fun (i : Nat) => !(enAt (esL l) (i : Int)).face && belK l (.cl i) kd) (List.range k)
  simpa using this
theorem cnt_und {l : List K8} (g : Rgt l) {k : Kd} (hk : okKd l k) : (undK l k).length = if isAr k = true then 1 else cntK l k l.length := by
  cases k with
  | int =>
    have : ∀ q, cntK l .int q = 0 := fun q => by
      unfold cntK
      rw [List.length_eq_zero_iff, List.filter_eq_nil_iff]
      intro i _
      simp [belK]
    rw [this]
    rfl
  | null =>
    have : ∀ q, cntK l .null q = 0 := fun q => by
      unfold cntK
      rw [List.length_eq_zero_iff, List.filter_eq_nil_iff]
      intro i _
      simp [belK]
    rw [this]
    rfl
  | ar j => rfl
  | cl j =>
    unfold undK cntK
    rw [List.length_map, if_neg (by simp [isAr])]
    congr 1
    apply List.filter_congr
    intro i _
    rw [bel_cl g hk, Bool.and_comm]
    rfl
end Go.Proofs.YtbocejiclellfaaDoor
