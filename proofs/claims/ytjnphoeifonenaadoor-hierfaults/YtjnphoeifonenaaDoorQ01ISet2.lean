import Derived.Test.YtjnphoeifonenaaDoorQ00IKit
import Derived.Lib.TrailingZeros
import Derived.Deep.RegionHeld3
import Derived.Shelf.Spec.SlicesInsertGrow
import Derived.Laws.CopyOwn

/- Stage 1's text Set2: what stage 8 wants of it (printed by conv1.py). -/
set_option linter.unusedSimpArgs false
set_option linter.unusedVariables false
set_option maxRecDepth 100000
namespace Go.Proofs.YtjnphoeifonenaaDoor
open Go.RowKit

attribute [local go_sem] idx44_0 idx44_1 idx44_2 idx44_3
/-- The row of place t; an empty one, if there is none. -/
def rowOf (rs : List Row) (t : Nat) : Row := match rs.find? (fun r => r.at_ == t) with
  | some r => r
  | none => ⟨t, 0, 0, 0, 0⟩
theorem find_at {rs : List Row} {t k : Nat} {r : Row} (hc : Cut rs t k) (hr : rs[k]? = some r) (he : r.at_ = t) : rs.find? (fun r => r.at_ == t) = some r := by
  induction rs generalizing k with
  | nil => simp at hr
  | cons s l ih =>
    cases k with
    | zero =>
      simp at hr
      subst hr
      simp [List.find?_cons, he]
    | succ k =>
      have hs := hc.lo 0 s (by omega) rfl
      rw [List.find?_cons]
      simp only [show (s.at_ == t) = false by simp; omega]
      exact ih (k := k) ⟨by have := hc.le; simp at this; omega, fun i q hi hq => hc.lo (i + 1) q (by omega) (by simpa using hq), fun i q hi hq => hc.hi (i + 1) q (by omega) (by simpa using hq)⟩ (by simpa using hr)
theorem rowOf_hit {rs : List Row} {t k : Nat} {r : Row} (hc : Cut rs t k) (hr : rs[k]? = some r) (he : r.at_ = t) : rowOf rs t = r := by simp [rowOf, find_at hc hr he]
theorem no_row {rs : List Row} {t k : Nat} (hc : Cut rs t k) (ha : Asc rs) (hm : hit rs t k = false) : ∀ r ∈ rs, r.at_ ≠ t := by
  intro r hr e
  obtain ⟨i, hi⟩ := List.getElem?_of_mem hr
  rcases Nat.lt_or_ge i k with h | h
  · have := hc.lo i r h hi
    omega
  · rcases Nat.lt_or_ge k i with h2 | h2
    · obtain ⟨s, hs⟩ := at_lt (show k < rs.length by have := (List.getElem?_eq_some_iff.1 hi).1; omega)
      have h3 := ha.lt hs hi h2
      have h4 := hc.hi k s (by omega) hs
      omega
    · have e2 : i = k := by omega
      subst e2
      rw [hit_some hi] at hm
      simp at hm
      exact hm e
theorem rowOf_miss {rs : List Row} {t k : Nat} (hc : Cut rs t k) (ha : Asc rs) (hm : hit rs t k = false) : rowOf rs t = ⟨t, 0, 0, 0, 0⟩ := by
  have : rs.find? (fun r => r.at_ == t) = none := by
    rw [List.find?_eq_none]
    intro r hr
    simpa using no_row hc ha hm r hr
  simp [rowOf, this]
theorem hit_true {rs : List Row} {t k : Nat} (h : hit rs t k = true) : ∃ r, rs[k]? = some r ∧ r.at_ = t := by
  unfold hit at h
  split at h
  · rename_i r hr
    exact ⟨r, hr, by simpa using h⟩
  · cases h
theorem five {w : World} {b : Nat} {x0 x1 x2 x3 x4 : Value} (h : w.heap[b]? = some (.cells #[x0, x1, x2, x3, x4] 118 (0, 0))) :
    (w.cell? ⟨b, 0, none⟩ = some x0 ∧ w.cell? ⟨b, 1, none⟩ = some x1 ∧ w.cell? ⟨b, 2, none⟩ = some x2 ∧ w.cell? ⟨b, 3, none⟩ = some x3 ∧ w.cell? ⟨b, 4, none⟩ = some x4) ∧
    (w.frozen? ⟨b, 0, none⟩ = false ∧ w.frozen? ⟨b, 1, none⟩ = false ∧ w.frozen? ⟨b, 2, none⟩ = false ∧ w.frozen? ⟨b, 3, none⟩ = false ∧ w.frozen? ⟨b, 4, none⟩ = false) :=
  ⟨⟨cell_of_row w b 0 _ 118 (0, 0) h, cell_of_row w b 1 _ 118 (0, 0) h, cell_of_row w b 2 _ 118 (0, 0) h, cell_of_row w b 3 _ 118 (0, 0) h, cell_of_row w b 4 _ 118 (0, 0) h⟩,
   ⟨frozen_of_row w b 0 _ 118 h, frozen_of_row w b 1 _ 118 h, frozen_of_row w b 2 _ 118 h, frozen_of_row w b 3 _ 118 h, frozen_of_row w b 4 _ 118 h⟩⟩
set_option maxHeartbeats 1000000 in
theorem rowAt_any (p v : Value) (rs : List Row) (t : Nat) (w : World) (h : SetV w p v rs) (ht : t < 100000) :
    Calls Tryd.prog 70 #[p, .int .i64 t] w fun e w' => e = .returned (rowOf rs t).val ∧ Turn [] w w' := by
  obtain ⟨A, c, rfl, hrow, hc⟩ := h.form
  have hok := h.ok
  have hlen := hok.len
  have H := Lib.hid h
  have HR := Lib.hid hrow
  have HO := Lib.hid hok
  clear h hrow hok
  go_enter Tryd.func70, Tryd.ntmps70
  go_wp2_with fail
  refine (find_any p _ rs t _ (H.out.turn' ((Turn.refl _ _).alloc _)) ht).mono ?_
  rintro e w1 ⟨k, hk, rfl, htt⟩
  have HK := Lib.hid hk
  have hT : Turn [] w w1 := ((Turn.refl [] w).alloc _).trans' htt
  obtain ⟨⟨d0, d1, d2, d3, d4⟩, ⟨f0, f1, f2, f3, f4⟩⟩ := five (htt.heap (heap_alloc_new w _) (by simp))
  have HT := Lib.hid hT
  have hlt : w.heap.size < w1.heap.size := by have := htt.size; simp at this; omega
  clear hk htt hT
  cases hh : hit rs t k
  · have HM := Lib.hid (rowOf_miss HK.out HO.out.asc hh)
    have HH := Lib.hid hh
    clear hh
    go_wp2
    refine bodyPost_ret (v := (rowOf rs t).val) ?_ rfl ⟨rfl, ?_⟩
    · rw [HM.out]
      simp [results, Tryd.results70, go_sem, Row.val, d0, d1, d2, d3, d4, f0, f1, f2, f3, f4]
    · repeat (first | exact HT.out | refine Turn.setCell ?_ (.inr (Nat.le_refl _)) _)
  · obtain ⟨r, hr, he⟩ := hit_true hh
    have HM := Lib.hid (rowOf_hit HK.out hr he)
    have hkn : k < rs.length := (List.getElem?_eq_some_iff.1 hr).1
    obtain ⟨g, rfl, hg, c0, c1, c2, c3, c4⟩ := (HR.out.turn' HT.out) k r hr
    have hs : ∃ b, p = .pointer (some ⟨b, 0, none⟩) ∧ w1.cell? ⟨b, 0, none⟩ = some (.slice (some ⟨g, 0, none⟩) rs.length c) := by
      rcases H.out.turn' HT.out with ⟨_, h1, _⟩ | ⟨b, rfl, h1⟩
      · cases h1
      · exact ⟨b, rfl, cell_of_row w1 b 0 _ 112 (0, 0) h1.blk⟩
    obtain ⟨b, rfl, hcb⟩ := hs
    have HH := Lib.hid hh
    have HE := Lib.hid he
    have HRk := Lib.hid hr
    clear hh he hr
    go_wp2
    refine bodyPost_ret (v := (rowOf rs t).val) ?_ rfl ⟨rfl, ?_⟩
    · rw [HM.out]
      simp [results, Tryd.results70, go_sem, Row.val, d0, d1, d2, d3, d4, f0, f1, f2, f3, f4]
    · repeat (first | exact HT.out | refine Turn.setCell ?_ (.inr (Nat.le_refl _)) _)
def hasRow (rs : List Row) (t : Nat) : Bool := rs.any (fun r => r.at_ == t)
theorem hit_eq {rs : List Row} {t k : Nat} (hc : Cut rs t k) (ha : Asc rs) : hit rs t k = hasRow rs t := by
  cases hh : hit rs t k
  · symm
    rw [hasRow, List.any_eq_false]
    intro r hr
    simpa using no_row hc ha hh r hr
  · obtain ⟨r, hr, he⟩ := hit_true hh
    symm
    rw [hasRow, List.any_eq_true]
    exact ⟨r, List.mem_of_getElem? hr, by simpa using he⟩
end Go.Proofs.YtjnphoeifonenaaDoor

/- Stage 1's text Has: what stage 8 wants of it (printed by conv1.py). -/
set_option linter.unusedSimpArgs false
set_option linter.unusedVariables false
set_option maxRecDepth 100000
namespace Go.Proofs.YtjnphoeifonenaaDoor
open Go.RowKit

theorem fld46 (a : Nat) (v0 v1 v2 v3 : Nat) (w : World) : (Instr.field 118 (.agg #[.int .i64 a, .int .u64 v0, .int .u64 v1, .int .u64 v2, .int .u64 v3]) 1).run Tryd.prog w = .ok (.agg #[.int .u64 v0, .int .u64 v1, .int .u64 v2, .int .u64 v3]) w := by kernel_rfl
attribute [local go_sem] idx44_0 idx44_1 idx44_2 idx44_3 fld46
def Row.word (r : Row) (i : Nat) : Nat := match i with
  | 0 => r.w0
  | 1 => r.w1
  | 2 => r.w2
  | _ => r.w3
/-- Is the row's bit j set? -/
def Row.bit (r : Row) (j : Nat) : Bool := (r.word (j / 64)).testBit (j % 64)
/-- Have the rows the number? -/
def hasN (rs : List Row) (n : Nat) : Bool := (rowOf rs (n / 256)).bit (n % 256)
theorem and_pow (x n : Nat) (hx : x < 18446744073709551616) : (bits BinOp.and IntKind.u64 (x : Int) ((2 ^ (n % 64) : Nat) : Int) != 0) = x.testBit (n % 64) := by
  rw [u64_and_nat x _ hx (pow_lt64 n)]
  cases hb : x.testBit (n % 64)
  · have h0 : x &&& 2 ^ (n % 64) = 0 := by
      apply Nat.eq_of_testBit_eq
      intro i
      rw [Nat.testBit_and, Nat.testBit_two_pow, Nat.zero_testBit]
      by_cases e : n % 64 = i
      · subst e; simp [hb]
      · simp [e]
    rw [h0]; rfl
  · have h1 : (x &&& 2 ^ (n % 64)).testBit (n % 64) = true := by rw [Nat.testBit_and, Nat.testBit_two_pow]; simp [hb]
    have h0 : x &&& 2 ^ (n % 64) ≠ 0 := by
      intro e
      rw [e, Nat.zero_testBit] at h1
      cases h1
    rw [bne_iff_ne]
    omega
theorem rowOf_fits {rs : List Row} (h : ∀ r ∈ rs, r.Fits) {t : Nat} (ht : t < 4096) : (rowOf rs t).Fits := by
  unfold rowOf
  split
  · rename_i r hr
    exact h r (List.mem_of_find?_eq_some hr)
  · exact ⟨ht, Nat.zero_lt_of_lt (by decide : 1 < 18446744073709551616), Nat.zero_lt_of_lt (by decide : 1 < 18446744073709551616), Nat.zero_lt_of_lt (by decide : 1 < 18446744073709551616), Nat.zero_lt_of_lt (by decide : 1 < 18446744073709551616)⟩
set_option maxHeartbeats 1000000 in
theorem has_in (p v : Value) (rs : List Row) (n : Nat) (w : World) (h : SetV w p v rs) (hn : n < 1048576) : Calls Tryd.prog 62 #[p, .int .i64 n] w fun e w' => e = .returned (.bool (hasN rs n)) ∧ Turn [] w w' := by
  have H := Lib.hid h
  have hok : okB n = true := by simp [okB]; omega
  have HOk := Lib.hid hok
  have hf := rowOf_fits h.ok.fits (show n / 256 < 4096 by omega)
  have hw : hasN rs n = ((rowOf rs (n / 256)).word (n % 256 / 64)).testBit (n % 64) := by
    unfold hasN Row.bit
    rw [show n % 256 % 64 = n % 64 by omega]
  have hr : ∀ W, SetV W p v rs → Calls Tryd.prog 70 #[p, .int .i64 ((n : Int) / 256)] W fun e w' => e = .returned (rowOf rs (n / 256)).val ∧ Turn [] W w' := fun W hW => by
    have := rowAt_any p v rs (n / 256) W hW (by omega)
    rwa [show (((n / 256 : Nat)) : Int) = (n : Int) / 256 by omega] at this
  have HR := Lib.hid hr
  generalize rowOf rs (n / 256) = r at *
  have HW := Lib.hid hw
  obtain ⟨a, w0, w1, w2, w3⟩ := r
  obtain ⟨_, b0, b1, b2, b3⟩ := hf
  simp only at b0 b1 b2 b3
  have HB := Lib.hid (bitOf_walk n)
  have a0 := and_pow w0 n b0
  have a1 := and_pow w1 n b1
  have a2 := and_pow w2 n b2
  have a3 := and_pow w3 n b3
  clear h hok hw hr
  generalize hbit : 2 ^ (n % 64) = bt at *
  have HBT := Lib.hid hbit
  clear hbit
  have hcase : n % 256 / 64 = 0 ∨ n % 256 / 64 = 1 ∨ n % 256 / 64 = 2 ∨ n % 256 / 64 = 3 := by omega
  rcases hcase with hcs | hcs | hcs | hcs
  all_goals
    rw [hcs] at HB HW
    have HCS := Lib.hid hcs
    clear hcs
    go_enter Tryd.func62, Tryd.ntmps62
    go_wp2_with (first
      | (go_at_call 61; refine (mayHold_any n _).mono ?_; rw [HOk.out]; rintro e w' ⟨rfl, rfl⟩)
      | (go_at_call 65; refine (HB.out _ (by omega)).mono ?_; rintro e w' ⟨rfl, q, rfl⟩)
      | (go_at_call 70; refine (HR.out _ (H.out.turn' ((Turn.refl _ _).drewN q))).mono ?_; rintro e w' ⟨rfl, ht⟩; simp only [Row.val]; have HT := Lib.hid ht; clear ht))
    go_ret
    refine ⟨ret_bool ?_, Turn.trans' ((Turn.refl _ _).drewN q) HT.out⟩
    rw [HW.out]
    rfl
end Go.Proofs.YtjnphoeifonenaaDoor

/- Stage 1's text Bl: what stage 8 wants of it (printed by conv1.py). -/
set_option linter.unusedSimpArgs false
set_option linter.unusedVariables false
set_option maxRecDepth 100000
namespace Go.Proofs.YtjnphoeifonenaaDoor
open Go.RowKit

/-- The places of the set bits of a word, rising. -/
def bitsL (x : Nat) : List Nat := (List.range' 0 64).filter (fun j => x.testBit j)
theorem bit_drop (k m j : Nat) : ((2 ^ k * (2 * m + 1)) &&& (2 ^ k * (2 * m + 1) - 1)).testBit j = ((2 ^ k * (2 * m + 1)).testBit j && decide (j ≠ k)) := by
  have hp : 0 < 2 ^ k := Nat.two_pow_pos k
  have e1 : 2 ^ k * (2 * m + 1) - 1 = 2 ^ k * (2 * m) + (2 ^ k - 1) := by
    rw [Nat.mul_add, Nat.mul_one]; omega
  have e0 : 2 ^ k * (2 * m + 1) = 2 ^ k * (2 * m + 1) + 0 := rfl
  rw [Nat.testBit_and, e1, Nat.testBit_two_pow_mul_add _ (by omega), e0, Nat.testBit_two_pow_mul_add _ hp]
  rcases Nat.lt_trichotomy j k with h | h | h
  · simp [h]
  · subst h; simp
  · obtain ⟨s, rfl⟩ : ∃ s, j = k + (s + 1) := ⟨j - k - 1, by omega⟩
    have hn : ¬ k + (s + 1) < k := by omega
    rw [if_neg hn, if_neg hn, show k + (s + 1) - k = s + 1 by omega, Nat.testBit_succ, Nat.testBit_succ, show (2 * m + 1) / 2 = m by omega, show (2 * m) / 2 = m by omega]
    cases m.testBit s <;> simp
theorem bit_low (k m j : Nat) : (j < k → (2 ^ k * (2 * m + 1)).testBit j = false) ∧ (2 ^ k * (2 * m + 1)).testBit k = true := by
  have hp : 0 < 2 ^ k := Nat.two_pow_pos k
  have e0 : 2 ^ k * (2 * m + 1) = 2 ^ k * (2 * m + 1) + 0 := rfl
  constructor
  · intro h
    rw [e0, Nat.testBit_two_pow_mul_add _ hp]
    simp [h]
  · rw [e0, Nat.testBit_two_pow_mul_add _ hp]
    simp
theorem filter_low (p q : Nat → Bool) (k : Nat) (hq : ∀ j, q j = (p j && decide (j ≠ k))) (hk : p k = true) (n s : Nat) (hs : s ≤ k) (hn : k < s + n) (hlo : ∀ j, j < k → p j = false) :
    (List.range' s n).filter p = k :: (List.range' s n).filter q := by
  induction n generalizing s with
  | zero => omega
  | succ n ih =>
    rw [List.range'_succ]
    by_cases e : s = k
    · subst e
      rw [List.filter_cons, if_pos hk, List.filter_cons, if_neg (by rw [hq]; simp)]
      congr 1
      apply List.filter_congr
      intro j hj
      rw [hq]
      have := List.mem_range'.1 hj
      have hne : j ≠ s := by obtain ⟨i, _, rfl⟩ := this; omega
      simp [hne]
    · have h1 : p s = false := hlo s (by omega)
      rw [List.filter_cons, if_neg (by simp [h1]), List.filter_cons, if_neg (by rw [hq, h1]; simp)]
      exact ih (s + 1) (by omega) (by omega)
/-- The lowest set bit, and the others. -/
theorem bitsL_step (x : Nat) (hx : x < 18446744073709551616) (h0 : x ≠ 0) : bitsL x = Lib.ctz 64 x :: bitsL (x &&& (x - 1)) ∧ x &&& (x - 1) < x ∧ Lib.ctz 64 x < 64 := by
  obtain ⟨m, hm, hk⟩ := Lib.ctzFrom_spec 64 x (by omega) (by simpa using hx)
  have hc : Lib.ctz 64 x = Lib.ctzFrom 64 x := by simp [Lib.ctz, h0]
  generalize Lib.ctzFrom 64 x = k at *
  rw [hc]
  refine ⟨?_, ?_, hk⟩
  · have hl := bit_low k m
    unfold bitsL
    rw [filter_low (fun j => x.testBit j) (fun j => (x &&& (x - 1)).testBit j) k (fun j => by rw [hm]; exact bit_drop k m j) (by rw [hm]; exact (hl 0).2) 64 0 (by omega) (by omega) (fun j hj => by rw [hm]; exact (hl j).1 hj)]
  · have h1 : x &&& (x - 1) ≤ x - 1 := Nat.and_le_right
    omega
theorem bitsL_zero : bitsL 0 = [] := by simp [bitsL]
theorem popN_filter (f s x : Nat) : popN f (x / 2 ^ s) = ((List.range' s f).filter (fun j => x.testBit j)).length := by
  induction f generalizing s with
  | zero => rfl
  | succ f ih =>
    rw [List.range'_succ, List.filter_cons]
    have h := ih (s + 1)
    rw [Nat.pow_succ, ← Nat.div_div_eq_div_mul] at h
    simp only [popN]
    rw [h]
    have ht := Nat.testBit_eq_decide_div_mod_eq (x := x) (i := s)
    rcases Nat.mod_two_eq_zero_or_one (x / 2 ^ s) with e | e
    · rw [e] at ht ⊢
      rw [ht]; simp
    · rw [e] at ht ⊢
      rw [ht]; simp; omega
theorem pop_bits (x : Nat) : popN 64 x = (bitsL x).length := by
  have := popN_filter 64 0 x
  simpa [bitsL] using this
theorem bitsL_length (x : Nat) : (bitsL x).length ≤ 64 := by
  have := List.length_filter_le (fun j => x.testBit j) (List.range' 0 64)
  simpa [bitsL] using this
theorem mem_bitsL (x j : Nat) : j ∈ bitsL x ↔ j < 64 ∧ x.testBit j = true := by
  unfold bitsL
  rw [List.mem_filter, List.mem_range']
  constructor
  · rintro ⟨⟨i, hi, rfl⟩, h⟩
    exact ⟨by omega, h⟩
  · rintro ⟨h, h2⟩
    exact ⟨⟨j, h, by omega⟩, h2⟩
theorem bitsL_sorted (x : Nat) : (bitsL x).Pairwise (· < ·) := by
  unfold bitsL
  exact List.Pairwise.filter _ (List.pairwise_lt_range' (s := 0) (n := 64) 1)
end Go.Proofs.YtjnphoeifonenaaDoor

/- Stage 1's text App: what stage 8 wants of it (printed by conv1.py). -/
set_option linter.unusedSimpArgs false
set_option linter.unusedVariables false
set_option maxRecDepth 100000
namespace Go.Proofs.YtjnphoeifonenaaDoor
open Go.RowKit

attribute [local go_sem] idx44_0 idx44_1 idx44_2 idx44_3
/-- math/bits' table lies in its variable. -/
def Tab (w : World) : Prop := TabAt 0 Lib.deBruijn64tab w
theorem Tab.turn {F : List Nat} {w w' : World} (h : Tab w) (t : Turn F w w') (h0 : 0 ∉ F) : Tab w' := fun j hj => by
  have hc := h j hj
  have hl : 0 < w.heap.size := World.block_lt_of_cell? w ⟨0, j, none⟩ hc
  exact (t.cell (p := ⟨0, j, none⟩) hl h0).trans hc
theorem Tab.turn' {w w' : World} (h : Tab w) (t : Turn [] w w') : Tab w' := h.turn t (by simp)
def wordNums (base : Int) (x : Nat) : List Int := (bitsL x).map (fun j : Nat => base + (j : Int))
/-- The row's numbers, rising. -/
def Row.nums (r : Row) : List Int := wordNums (r.at_ * 256) r.w0 ++ wordNums (r.at_ * 256 + 64) r.w1 ++ wordNums (r.at_ * 256 + 128) r.w2 ++ wordNums (r.at_ * 256 + 192) r.w3
theorem wordNums_length (b : Int) (x : Nat) : (wordNums b x).length ≤ 64 := by
  have := bitsL_length x
  simpa [wordNums] using this
theorem wordNums_step {b : Int} {x c : Nat} (h : bitsL x = c :: bitsL (x &&& (x - 1))) : wordNums b x = (b + (c : Int)) :: wordNums b (x &&& (x - 1)) := by simp [wordNums, h]
theorem wordNums_zero (b : Int) : wordNums b 0 = [] := by simp [wordNums, bitsL_zero]
/-- Half way through a word: o is the list so far, y what is left of the word. -/
def Mid (w : World) (box : Array Value) (B : Nat) (v : Value) (base : Int) (tgt : List Int) (o x : Value) (wr : World) : Prop :=
  wr.heap[w.heap.size]? = some (.cells box 118 (0, 0)) ∧ ∃ (y : Nat) (l : List Int), x = .int .u64 y ∧ y < 18446744073709551616 ∧ OwnI wr B o l ∧ l ++ wordNums base y = tgt ∧ Turn v.ownBlock.toList w wr ∧ (∀ g, o.ownBlock = some g → g ∈ v.ownBlock.toList ∨ w.heap.size ≤ g)
theorem OwnI.ne_box {w : World} {B b : Nat} {v : Value} {l : List Int} {cs : Array Value} {f : Nat × Nat} {t : TypeId} (h : OwnI w B v l) (hb : w.heap[b]? = some (.cells cs t f)) (ht : t ≠ 3) : v.ownBlock ≠ some b := by
  intro e
  rcases h.2 with ⟨rfl, _⟩ | ⟨g, cap, cur, rfl, _, hg, _⟩
  · simp [Value.ownBlock] at e
  · simp [Value.ownBlock] at e
    subst e
    rw [hb] at hg
    injection hg with hg
    injection hg with _ e _
    exact ht e
theorem and_pred_u64 (y : Nat) (hy : y < 18446744073709551616) (h0 : y ≠ 0) : bits BinOp.and IntKind.u64 (y : Int) ((y : Int) - 1) = ((y &&& (y - 1) : Nat) : Int) := by
  rw [show (y : Int) - 1 = ((y - 1 : Nat) : Int) by omega, u64_and_nat _ _ hy (by omega)]
theorem tz_known (y c : Nat) (hy : y < 18446744073709551616) (h0 : y ≠ 0) (hc : Lib.ctz 64 y = c) (W : World) (hT : Tab W) : Calls Tryd.prog 75 #[.int .u64 y] W fun e w' => e = .returned (.int .i64 c) ∧ W = w' := by
  subst hc
  exact tz64_any y hy h0 W hT
set_option maxHeartbeats 2000000 in
theorem appendTo_walk (a w0 w1 w2 w3 B : Nat) (v : Value) (l : List Int) (w : World) (ha : a < 4096) (b0 : w0 < 18446744073709551616) (b1 : w1 < 18446744073709551616) (b2 : w2 < 18446744073709551616) (b3 : w3 < 18446744073709551616)
    (hv : OwnI w B v l) (hB : B ≤ w.heap.size) (hB0 : 0 < B) (hl : l.length ≤ 1100000) (hT : Tab w) :
    Calls Tryd.prog 68 #[.agg #[.int .i64 a, .int .u64 w0, .int .u64 w1, .int .u64 w2, .int .u64 w3], v] w fun e w' => ∃ v', e = .returned v' ∧ OwnI w' B v' (l ++ (Row.mk a w0 w1 w2 w3).nums) ∧ Turn v.ownBlock.toList w w' ∧ (∀ g, v'.ownBlock = some g → g ∈ v.ownBlock.toList ∨ w.heap.size ≤ g) := by
  have HV := Lib.hid hv
  have HTab := Lib.hid hT
  have h0F : 0 ∉ v.ownBlock.toList := by
    intro h
    have := (hv.lt 0 (by simpa using h)).1
    omega
  have H0F := Lib.hid h0F
  clear hv hT h0F
  go_enter Tryd.func68, Tryd.ntmps68
  go_wp2_with fail
  refine wp_loop_rounds 5 ?_
  rw [rounds_succ]
  go_wp2_with fail
  go_loopw [1, 6] (fun o x wr => Mid w #[.int .i64 a, .int .u64 w0, .int .u64 w1, .int .u64 w2, .int .u64 w3] B v ((a : Int) * 256) (l ++ wordNums ((a : Int) * 256) w0) o x wr) (fun _ x _ => (intOf x).toNat)
  case atStart => exact ⟨heap_alloc_new w _, w0, l, rfl, b0, HV.out.turn' ((Turn.refl _ _).alloc _), rfl, (Turn.refl _ _).alloc _, fun g hg => .inl (by simpa using hg)⟩
  case round =>
    obtain ⟨hbox, y, l1, rfl, hy, ho, he, ht, hfoot⟩ := hrel
    have hcb : wr.cell? ⟨w.heap.size, 0, none⟩ = some (.int .i64 a) := cell_of_row wr w.heap.size 0 _ 118 (0, 0) hbox
    have HBx := Lib.hid hbox
    clear hbox
    have HO := Lib.hid ho
    have HE := Lib.hid he
    have HT := Lib.hid ht
    have HFo := Lib.hid hfoot
    clear ho he ht hfoot
    by_cases hy0 : y = 0
    · subst hy0
      have hfin : OwnI wr B u1 (l ++ wordNums ((a : Int) * 256) w0) := by
        rw [← HE.out, wordNums_zero, List.append_nil]
        exact HO.out
      have HFin0 := Lib.hid hfin
      have HT0 := HT
      have HBx0 := HBx
      have HF0 := HFo
      clear HO HE HT HFo HBx hfin hy
      go_wp2
      rw [rounds_succ]
      go_wp2_with fail
      go_loopw [1, 6] (fun o x wr => Mid w #[.int .i64 a, .int .u64 w0, .int .u64 w1, .int .u64 w2, .int .u64 w3] B v ((a : Int) * 256 + 64) (l ++ wordNums ((a : Int) * 256) w0 ++ wordNums ((a : Int) * 256 + 64) w1) o x wr) (fun _ x _ => (intOf x).toNat)
      case atStart => exact ⟨HBx0.out, w1, l ++ wordNums ((a : Int) * 256) w0, rfl, b1, HFin0.out, rfl, HT0.out, HF0.out⟩
      case round =>
        obtain ⟨hbox, y, l1, rfl, hy, ho, he, ht, hfoot⟩ := hrel
        have hcb : wr.cell? ⟨w.heap.size, 0, none⟩ = some (.int .i64 a) := cell_of_row wr w.heap.size 0 _ 118 (0, 0) hbox
        have HBx := Lib.hid hbox
        clear hbox
        have HO := Lib.hid ho
        have HE := Lib.hid he
        have HT := Lib.hid ht
        have HFo := Lib.hid hfoot
        clear ho he ht hfoot
        by_cases hy0 : y = 0
        · subst hy0
          have hfin : OwnI wr B u1 (l ++ wordNums ((a : Int) * 256) w0 ++ wordNums ((a : Int) * 256 + 64) w1) := by
            rw [← HE.out, wordNums_zero, List.append_nil]
            exact HO.out
          have HFin1 := Lib.hid hfin
          have HT1 := HT
          have HBx1 := HBx
          have HF1 := HFo
          clear HO HE HT HFo HBx hfin hy
          go_wp2
          rw [rounds_succ]
          go_wp2_with fail
          go_loopw [1, 6] (fun o x wr => Mid w #[.int .i64 a, .int .u64 w0, .int .u64 w1, .int .u64 w2, .int .u64 w3] B v ((a : Int) * 256 + 128) (l ++ wordNums ((a : Int) * 256) w0 ++ wordNums ((a : Int) * 256 + 64) w1 ++ wordNums ((a : Int) * 256 + 128) w2) o x wr) (fun _ x _ => (intOf x).toNat)
          case atStart => exact ⟨HBx1.out, w2, l ++ wordNums ((a : Int) * 256) w0 ++ wordNums ((a : Int) * 256 + 64) w1, rfl, b2, HFin1.out, rfl, HT1.out, HF1.out⟩
          case round =>
            obtain ⟨hbox, y, l1, rfl, hy, ho, he, ht, hfoot⟩ := hrel
            have hcb : wr.cell? ⟨w.heap.size, 0, none⟩ = some (.int .i64 a) := cell_of_row wr w.heap.size 0 _ 118 (0, 0) hbox
            have HBx := Lib.hid hbox
            clear hbox
            have HO := Lib.hid ho
            have HE := Lib.hid he
            have HT := Lib.hid ht
            have HFo := Lib.hid hfoot
            clear ho he ht hfoot
            by_cases hy0 : y = 0
            · subst hy0
              have hfin : OwnI wr B u1 (l ++ wordNums ((a : Int) * 256) w0 ++ wordNums ((a : Int) * 256 + 64) w1 ++ wordNums ((a : Int) * 256 + 128) w2) := by
                rw [← HE.out, wordNums_zero, List.append_nil]
                exact HO.out
              have HFin2 := Lib.hid hfin
              have HT2 := HT
              have HBx2 := HBx
              have HF2 := HFo
              clear HO HE HT HFo HBx hfin hy
              go_wp2
              rw [rounds_succ]
              go_wp2_with fail
              go_loopw [1, 6] (fun o x wr => Mid w #[.int .i64 a, .int .u64 w0, .int .u64 w1, .int .u64 w2, .int .u64 w3] B v ((a : Int) * 256 + 192) (l ++ wordNums ((a : Int) * 256) w0 ++ wordNums ((a : Int) * 256 + 64) w1 ++ wordNums ((a : Int) * 256 + 128) w2 ++ wordNums ((a : Int) * 256 + 192) w3) o x wr) (fun _ x _ => (intOf x).toNat)
              case atStart => exact ⟨HBx2.out, w3, l ++ wordNums ((a : Int) * 256) w0 ++ wordNums ((a : Int) * 256 + 64) w1 ++ wordNums ((a : Int) * 256 + 128) w2, rfl, b3, HFin2.out, rfl, HT2.out, HF2.out⟩
              case round =>
                obtain ⟨hbox, y, l1, rfl, hy, ho, he, ht, hfoot⟩ := hrel
                have hcb : wr.cell? ⟨w.heap.size, 0, none⟩ = some (.int .i64 a) := cell_of_row wr w.heap.size 0 _ 118 (0, 0) hbox
                have HBx := Lib.hid hbox
                clear hbox
                have HO := Lib.hid ho
                have HE := Lib.hid he
                have HT := Lib.hid ht
                have HFo := Lib.hid hfoot
                clear ho he ht hfoot
                by_cases hy0 : y = 0
                · subst hy0
                  have hfin : OwnI wr B u1 (l ++ wordNums ((a : Int) * 256) w0 ++ wordNums ((a : Int) * 256 + 64) w1 ++ wordNums ((a : Int) * 256 + 128) w2 ++ wordNums ((a : Int) * 256 + 192) w3) := by
                    rw [← HE.out, wordNums_zero, List.append_nil]
                    exact HO.out
                  have HFin3 := Lib.hid hfin
                  have HT3 := HT
                  have HBx3 := HBx
                  have HF3 := HFo
                  clear HO HE HT HFo HBx hfin hy
                  go_wp2
                  rw [rounds_succ]
                  go_wp2
                  go_ret
                  refine ⟨_, rfl, ?_, HT3.out, HF3.out⟩
                  have := HFin3.out
                  simpa [Row.nums, List.append_assoc] using this
                · have hne : ((y : Int) != 0) = true := by simp; omega
                  obtain ⟨hstep, hless, hc⟩ := bitsL_step y hy hy0
                  have hand := and_pred_u64 y hy hy0
                  generalize hcz : Lib.ctz 64 y = c at *
                  generalize hnx : y &&& (y - 1) = z at *
                  have hst : wordNums ((a : Int) * 256 + 192) y = (((a : Int) * 256 + 192) + (c : Int)) :: wordNums ((a : Int) * 256 + 192) z := by
                    have := hstep
                    rw [← hnx] at this ⊢
                    exact wordNums_step this
                  have hlen : l1.length ≤ 1000000 * 2 := by
                    have h1 := congrArg List.length HE.out
                    simp only [List.length_append] at h1
                    have h2 := wordNums_length (a * 256) w0
                    have h3 := wordNums_length (a * 256 + 64) w1
                    have h4 := wordNums_length (a * 256 + 128) w2
                    have h5 := wordNums_length (a * 256 + 192) w3
                    omega
                  have HS := Lib.hid hst
                  have HTz := Lib.hid (tz_known y c hy hy0 hcz)
                  have HZ := Lib.hid hnx
                  have H1 := Lib.hid hstep
                  have H2 := Lib.hid hcz
                  have hsub : IntKind.u64.wrap ((y : Int) - 1) = (y : Int) - 1 := by rw [IntKind.wrap_u64]; omega
                  clear hst hstep hcz hnx
                  go_wp2_with (first
                    | (go_at_call 75; refine (HTz.out _ (HTab.out.turn HT.out H0F.out)).mono ?_; rintro e w' ⟨rfl, rfl⟩)
                    | (at_builtin; refine wpList_app1' rfl (.tmp 26) (.tmp 31) rfl wr B u1 l1 _ _ rfl HO.out rfl (by omega) (Nat.le_trans hB HT.out.size) ?_; intro v1 w1' hv1 ht1 hat1))
                  go_roundw
                  case rel =>
                    refine ⟨(ht1.heap HBx.out (fun hg => HO.out.ne_box HBx.out (by decide) (by simpa using hg))), z, l1 ++ [((a : Int) * 256 + 192) + (c : Int)], rfl, by omega, by exact hv1, ?_, HT.out.trans ht1 (fun g hg => HFo.out g (by simpa using hg)), ?_⟩
                    · rw [← HE.out, HS.out]; simp
                    · intro g hg
                      rcases hat1 with e1 | ⟨g', e1, hge⟩
                      · exact HFo.out g (e1 ▸ hg)
                      · rw [e1] at hg
                        injection hg with hg
                        subst hg
                        exact .inr (Nat.le_trans HT.out.size hge)
                  case measure => simp [intOf]; omega
            · have hne : ((y : Int) != 0) = true := by simp; omega
              obtain ⟨hstep, hless, hc⟩ := bitsL_step y hy hy0
              have hand := and_pred_u64 y hy hy0
              generalize hcz : Lib.ctz 64 y = c at *
              generalize hnx : y &&& (y - 1) = z at *
              have hst : wordNums ((a : Int) * 256 + 128) y = (((a : Int) * 256 + 128) + (c : Int)) :: wordNums ((a : Int) * 256 + 128) z := by
                have := hstep
                rw [← hnx] at this ⊢
                exact wordNums_step this
              have hlen : l1.length ≤ 1000000 * 2 := by
                have h1 := congrArg List.length HE.out
                simp only [List.length_append] at h1
                have h2 := wordNums_length (a * 256) w0
                have h3 := wordNums_length (a * 256 + 64) w1
                have h4 := wordNums_length (a * 256 + 128) w2
                have h5 := wordNums_length (a * 256 + 192) w3
                omega
              have HS := Lib.hid hst
              have HTz := Lib.hid (tz_known y c hy hy0 hcz)
              have HZ := Lib.hid hnx
              have H1 := Lib.hid hstep
              have H2 := Lib.hid hcz
              have hsub : IntKind.u64.wrap ((y : Int) - 1) = (y : Int) - 1 := by rw [IntKind.wrap_u64]; omega
              clear hst hstep hcz hnx
              go_wp2_with (first
                | (go_at_call 75; refine (HTz.out _ (HTab.out.turn HT.out H0F.out)).mono ?_; rintro e w' ⟨rfl, rfl⟩)
                | (at_builtin; refine wpList_app1' rfl (.tmp 26) (.tmp 31) rfl wr B u1 l1 _ _ rfl HO.out rfl (by omega) (Nat.le_trans hB HT.out.size) ?_; intro v1 w1' hv1 ht1 hat1))
              go_roundw
              case rel =>
                refine ⟨(ht1.heap HBx.out (fun hg => HO.out.ne_box HBx.out (by decide) (by simpa using hg))), z, l1 ++ [((a : Int) * 256 + 128) + (c : Int)], rfl, by omega, by exact hv1, ?_, HT.out.trans ht1 (fun g hg => HFo.out g (by simpa using hg)), ?_⟩
                · rw [← HE.out, HS.out]; simp
                · intro g hg
                  rcases hat1 with e1 | ⟨g', e1, hge⟩
                  · exact HFo.out g (e1 ▸ hg)
                  · rw [e1] at hg
                    injection hg with hg
                    subst hg
                    exact .inr (Nat.le_trans HT.out.size hge)
              case measure => simp [intOf]; omega
        · have hne : ((y : Int) != 0) = true := by simp; omega
          obtain ⟨hstep, hless, hc⟩ := bitsL_step y hy hy0
          have hand := and_pred_u64 y hy hy0
          generalize hcz : Lib.ctz 64 y = c at *
          generalize hnx : y &&& (y - 1) = z at *
          have hst : wordNums ((a : Int) * 256 + 64) y = (((a : Int) * 256 + 64) + (c : Int)) :: wordNums ((a : Int) * 256 + 64) z := by
            have := hstep
            rw [← hnx] at this ⊢
            exact wordNums_step this
          have hlen : l1.length ≤ 1000000 * 2 := by
            have h1 := congrArg List.length HE.out
            simp only [List.length_append] at h1
            have h2 := wordNums_length (a * 256) w0
            have h3 := wordNums_length (a * 256 + 64) w1
            have h4 := wordNums_length (a * 256 + 128) w2
            have h5 := wordNums_length (a * 256 + 192) w3
            omega
          have HS := Lib.hid hst
          have HTz := Lib.hid (tz_known y c hy hy0 hcz)
          have HZ := Lib.hid hnx
          have H1 := Lib.hid hstep
          have H2 := Lib.hid hcz
          have hsub : IntKind.u64.wrap ((y : Int) - 1) = (y : Int) - 1 := by rw [IntKind.wrap_u64]; omega
          clear hst hstep hcz hnx
          go_wp2_with (first
            | (go_at_call 75; refine (HTz.out _ (HTab.out.turn HT.out H0F.out)).mono ?_; rintro e w' ⟨rfl, rfl⟩)
            | (at_builtin; refine wpList_app1' rfl (.tmp 26) (.tmp 31) rfl wr B u1 l1 _ _ rfl HO.out rfl (by omega) (Nat.le_trans hB HT.out.size) ?_; intro v1 w1' hv1 ht1 hat1))
          go_roundw
          case rel =>
            refine ⟨(ht1.heap HBx.out (fun hg => HO.out.ne_box HBx.out (by decide) (by simpa using hg))), z, l1 ++ [((a : Int) * 256 + 64) + (c : Int)], rfl, by omega, by exact hv1, ?_, HT.out.trans ht1 (fun g hg => HFo.out g (by simpa using hg)), ?_⟩
            · rw [← HE.out, HS.out]; simp
            · intro g hg
              rcases hat1 with e1 | ⟨g', e1, hge⟩
              · exact HFo.out g (e1 ▸ hg)
              · rw [e1] at hg
                injection hg with hg
                subst hg
                exact .inr (Nat.le_trans HT.out.size hge)
          case measure => simp [intOf]; omega
    · have hne : ((y : Int) != 0) = true := by simp; omega
      obtain ⟨hstep, hless, hc⟩ := bitsL_step y hy hy0
      have hand := and_pred_u64 y hy hy0
      generalize hcz : Lib.ctz 64 y = c at *
      generalize hnx : y &&& (y - 1) = z at *
      have hst : wordNums ((a : Int) * 256) y = (((a : Int) * 256) + (c : Int)) :: wordNums ((a : Int) * 256) z := by
        have := hstep
        rw [← hnx] at this ⊢
        exact wordNums_step this
      have hlen : l1.length ≤ 1000000 * 2 := by
        have h1 := congrArg List.length HE.out
        simp only [List.length_append] at h1
        have h2 := wordNums_length (a * 256) w0
        have h3 := wordNums_length (a * 256 + 64) w1
        have h4 := wordNums_length (a * 256 + 128) w2
        have h5 := wordNums_length (a * 256 + 192) w3
        omega
      have HS := Lib.hid hst
      have HTz := Lib.hid (tz_known y c hy hy0 hcz)
      have HZ := Lib.hid hnx
      have H1 := Lib.hid hstep
      have H2 := Lib.hid hcz
      have hsub : IntKind.u64.wrap ((y : Int) - 1) = (y : Int) - 1 := by rw [IntKind.wrap_u64]; omega
      clear hst hstep hcz hnx
      go_wp2_with (first
        | (go_at_call 75; refine (HTz.out _ (HTab.out.turn HT.out H0F.out)).mono ?_; rintro e w' ⟨rfl, rfl⟩)
        | (at_builtin; refine wpList_app1' rfl (.tmp 26) (.tmp 31) rfl wr B u1 l1 _ _ rfl HO.out rfl (by omega) (Nat.le_trans hB HT.out.size) ?_; intro v1 w1' hv1 ht1 hat1))
      go_roundw
      case rel =>
        refine ⟨(ht1.heap HBx.out (fun hg => HO.out.ne_box HBx.out (by decide) (by simpa using hg))), z, l1 ++ [((a : Int) * 256) + (c : Int)], rfl, by omega, by exact hv1, ?_, HT.out.trans ht1 (fun g hg => HFo.out g (by simpa using hg)), ?_⟩
        · rw [← HE.out, HS.out]; simp
        · intro g hg
          rcases hat1 with e1 | ⟨g', e1, hge⟩
          · exact HFo.out g (e1 ▸ hg)
          · rw [e1] at hg
            injection hg with hg
            subst hg
            exact .inr (Nat.le_trans HT.out.size hge)
      case measure => simp [intOf]; omega
end Go.Proofs.YtjnphoeifonenaaDoor

/- Stage 1's text List: what stage 8 wants of it (printed by conv1.py). -/
set_option linter.unusedSimpArgs false
set_option linter.unusedVariables false
set_option maxRecDepth 100000
namespace Go.Proofs.YtjnphoeifonenaaDoor
open Go.RowKit

/-- All numbers of the rows, rising. -/
def nums (rs : List Row) : List Int := rs.flatMap Row.nums
theorem Row.nums_length (r : Row) : r.nums.length = r.count := by
  simp only [Row.nums, Row.count, wordNums, List.length_append, List.length_map, pop_bits]
theorem nums_length (rs : List Row) : (nums rs).length = total rs := by
  induction rs with
  | nil => rfl
  | cons r t ih =>
    simp only [nums, total, List.flatMap_cons, List.length_append, List.map_cons, List.sum_cons, Row.nums_length] at *
    omega
theorem nums_snoc {rs : List Row} {k : Nat} {r : Row} (h : rs[k]? = some r) : nums (rs.take (k + 1)) = nums (rs.take k) ++ r.nums := by
  rw [take_snoc h]; simp [nums]
theorem appendTo_any (r : Row) (B : Nat) (v : Value) (l : List Int) (w : World) (hr : r.Fits) (hv : OwnI w B v l) (hB : B ≤ w.heap.size) (hB0 : 0 < B) (hl : l.length ≤ 1100000) (hT : Tab w) :
    Calls Tryd.prog 68 #[r.val, v] w fun e w' => ∃ v', e = .returned v' ∧ OwnI w' B v' (l ++ r.nums) ∧ Turn v.ownBlock.toList w w' ∧ (∀ g, v'.ownBlock = some g → g ∈ v.ownBlock.toList ∨ w.heap.size ≤ g) :=
  appendTo_walk r.at_ r.w0 r.w1 r.w2 r.w3 B v l w hr.a hr.b0 hr.b1 hr.b2 hr.b3 hv hB hB0 hl hT
theorem total_take_le (rs : List Row) (k : Nat) : total (rs.take k) ≤ k * 256 := by
  have h1 := total_le (rs.take k)
  exact Nat.le_trans h1 (Nat.mul_le_mul_right _ (List.length_take_le _ _))
theorem Tab.pos {w : World} (h : Tab w) : 0 < w.heap.size := World.block_lt_of_cell? w ⟨0, 0, none⟩ (h 0 (by decide))
set_option maxHeartbeats 2000000 in
theorem list_any (p v : Value) (rs : List Row) (w : World) (h : SetV w p v rs) (hT : Tab w) : Calls Tryd.prog 57 #[p] w (OwnedPost w w.heap.size (nums rs)) := by
  obtain ⟨A, c, rfl, hrow, hc⟩ := h.form
  have hok := h.ok
  have hlen := hok.len
  have htot := hok.total
  have H := Lib.hid h
  have HR := Lib.hid hrow
  have HO := Lib.hid hok
  have HTab := Lib.hid hT
  have hpos := hT.pos
  clear h hrow hok hT
  generalize hm : total rs = m at *
  have HM := Lib.hid hm
  clear hm
  generalize hn : rs.length = n at *
  have HN := Lib.hid hn
  clear hn
  obtain ⟨i0, hi0, hz0, hz1, hz2⟩ := info_parts int_info
  go_enter Tryd.func57, Tryd.ntmps57
  go_wp2_with (first
    | (go_at_call 66; refine (len_any p _ rs _ H.out).mono ?_; rw [HM.out]; rintro e w' ⟨rfl, rfl⟩)
    | (at_make; (refine wpList_make_own w rfl (.const (.int .i64 0)) (.tmp 7) 40 rfl w.heap.size 3 i0 _ 1 Tryd.underlying40 hi0 hz0 hz1 .i64 .i64 _ m rfl rfl rfl (by rw [hz2]; omega) (by simp only [maxLen]; omega) (Nat.le_refl _) ?_); intro w1 hw1 hg1; have HW1 := Lib.hid hw1; have HG1 := Lib.hid ((Turn.refl [] w).grown hg1 (by simp)); clear hw1 hg1)
    | (go_at_call 67; refine (all_any p _ rs _ (H.out.turn' HG1.out)).mono ?_; rintro e w' ⟨rfl, rfl⟩))
  go_loopw [3, 12] (fun o i wr => ∃ k : Nat, k ≤ n ∧ i = .int .i64 k ∧ OwnI wr w.heap.size o (nums (rs.take k)) ∧ Turn [] w wr) (fun _ i _ => n - (intOf i).toNat)
  case atStart => exact ⟨0, Nat.zero_le _, rfl, HW1.out, HG1.out⟩
  case round =>
    obtain ⟨k, hk, rfl, ho, ht⟩ := hrel
    have HOw := Lib.hid ho
    have HT := Lib.hid ht
    clear ho ht
    by_cases hlt : k < n
    · obtain ⟨r, hr⟩ := at_lt (show k < rs.length by have := HN.out; omega)
      obtain ⟨g, rfl, hg, c0, c1, c2, c3, c4⟩ := (HR.out.turn' HT.out) k r hr
      have hfit := HO.out.fits r (List.mem_of_getElem? hr)
      have hs := nums_snoc hr
      have hle : (nums (rs.take k)).length ≤ 1100000 := by
        have h1 := nums_length (rs.take k)
        have h2 := total_take_le rs k
        omega
      have HS := Lib.hid hs
      have HRk := Lib.hid hr
      have HF := Lib.hid hfit
      clear hr hs hfit
      go_wp2_with (go_at_call 68; (refine (appendTo_any r w.heap.size u3 (nums (rs.take k)) _ HF.out (HOw.out.turn' (Turn.below (by go_grown))) (Nat.le_trans HT.out.size (by simp)) hpos hle (HTab.out.turn' (HT.out.trans' (Turn.below (by go_grown))))).mono ?_); rintro e w' ⟨v', rfl, ho1, ht1, hf1⟩)
      go_roundw
      case rel =>
        refine ⟨k + 1, by omega, by go_num, by rw [HS.out]; exact ho1, ?_⟩
        exact (HT.out.trans' (Turn.below (by go_grown))).trans ht1 (fun g hg => .inr (HOw.out.lt g (by simpa using hg)).1)
      case measure => simp [intOf]; omega
    · go_wp2
      go_ret
      refine ⟨u3, rfl, ?_, HT.out⟩
      have := HOw.out
      rw [List.take_of_length_le (by have := HN.out; omega)] at this
      exact this
end Go.Proofs.YtjnphoeifonenaaDoor

/- Stage 1's text Meet: what stage 8 wants of it (printed by conv1.py). -/
set_option linter.unusedSimpArgs false
set_option linter.unusedVariables false
set_option maxRecDepth 100000
namespace Go.Proofs.YtjnphoeifonenaaDoor
open Go.RowKit

/-- The five cells of a row that lies in a block of its own. -/
def Box (w : World) (b a w0 w1 w2 w3 : Nat) : Prop := w.cell? ⟨b, 0, none⟩ = some (.int .i64 a) ∧ w.cell? ⟨b, 1, none⟩ = some (.int .u64 w0) ∧ w.cell? ⟨b, 2, none⟩ = some (.int .u64 w1) ∧ w.cell? ⟨b, 3, none⟩ = some (.int .u64 w2) ∧ w.cell? ⟨b, 4, none⟩ = some (.int .u64 w3)
theorem Box.turn {F : List Nat} {w w' : World} {b a w0 w1 w2 w3 : Nat} (h : Box w b a w0 w1 w2 w3) (t : Turn F w w') (hb : b ∉ F) : Box w' b a w0 w1 w2 w3 := by
  have hl : b < w.heap.size := World.block_lt_of_cell? w ⟨b, 0, none⟩ h.1
  have k := fun o => t.cell (p := ⟨b, o, none⟩) hl hb
  exact ⟨(k 0).trans h.1, (k 1).trans h.2.1, (k 2).trans h.2.2.1, (k 3).trans h.2.2.2.1, (k 4).trans h.2.2.2.2⟩
end Go.Proofs.YtjnphoeifonenaaDoor

/- Stage 1's text Ins: what stage 8 wants of it (printed by conv1.py). -/
set_option linter.unusedSimpArgs false
set_option linter.unusedVariables false
set_option maxRecDepth 100000
namespace Go.Proofs.YtjnphoeifonenaaDoor
open Go.RowKit Go.Lib

theorem row_info : (Tryd.prog.info? 118).map (fun i => (i.zero, i.size, i.bytes)) = some (some (.agg #[.int .i64 0, .int .u64 0, .int .u64 0, .int .u64 0, .int .u64 0]), 5, 40) := by kernel_rfl
theorem Row.cells_one (r : Row) : ∀ u ∈ r.cells, u.oneCell' = true := by
  intro u hu
  simp only [Row.cells, List.mem_cons, List.not_mem_nil, or_false] at hu
  rcases hu with rfl | rfl | rfl | rfl | rfl <;> rfl
theorem flat_one (rs : List Row) : ∀ u ∈ rs.flatMap Row.cells, u.oneCell' = true := by
  intro u hu
  obtain ⟨r, _, h⟩ := List.mem_flatMap.1 hu
  exact r.cells_one u h
theorem flat_append (rs ss : List Row) : (rs ++ ss).flatMap Row.cells = rs.flatMap Row.cells ++ ss.flatMap Row.cells := List.flatMap_append
theorem flat_take (rs : List Row) (k : Nat) : (rs.take k).flatMap Row.cells = (rs.flatMap Row.cells).take (k * 5) := by
  induction rs generalizing k with
  | nil => simp
  | cons r t ih =>
    cases k with
    | zero => simp
    | succ k =>
      rw [List.take_succ_cons, flat_cons, flat_cons, ih, show (k + 1) * 5 = k * 5 + 5 by omega]
      simp only [List.take_succ_cons]
theorem flat_drop (rs : List Row) (k : Nat) : (rs.drop k).flatMap Row.cells = (rs.flatMap Row.cells).drop (k * 5) := by
  induction rs generalizing k with
  | nil => simp
  | cons r t ih =>
    cases k with
    | zero => simp
    | succ k =>
      rw [List.drop_succ_cons, flat_cons, ih, show (k + 1) * 5 = k * 5 + 5 by omega]
      simp only [List.drop_succ_cons]
/-- What Insert answers of one row. -/
def insR (rs : List Row) (i : Nat) (r : Row) : List Row := rs.take i ++ r :: rs.drop i
def InsPost (v : Value) (rs : List Row) (w : World) (e : Ending) (w' : World) : Prop :=
  ∃ v', e = .returned v' ∧ OwnR w' 0 v' rs ∧ Turn v.ownBlock.toList w w' ∧ (v'.ownBlock = v.ownBlock ∨ ∃ g, v'.ownBlock = some g ∧ w.heap.size ≤ g)
theorem block_cells {w : World} {b : Nat} {r : Row} (h : w.heap[b]? = some (.cells r.cells.toArray 118 (0, 0))) : ∀ j u, r.cells[j]? = some u → w.cell? ((⟨b, 0, none⟩ : Addr).add j) = some u := by
  intro j u hj
  rw [Addr.add_lit, Nat.zero_add, cell_of_row w b j _ 118 (0, 0) h]
  simpa using hj
set_option maxHeartbeats 1000000 in
theorem insert_end (v : Value) (rs : List Row) (r : Row) (vb vc : Nat) (w : World) (h : OwnR w 0 v rs) (hl : rs.length ≤ 100000) (hb : w.heap[vb]? = some (.cells r.cells.toArray 118 (0, 0))) :
    Calls Tryd.prog 64 #[v, .int .i64 rs.length, .slice (some ⟨vb, 0, none⟩) 1 vc] w (InsPost v (rs ++ [r]) w) := by
  obtain ⟨A, c, rfl, hrow, hc⟩ := h.form
  have H := Lib.hid h
  have HB := Lib.hid hb
  obtain ⟨i0, hi0, hz0, hz1, hz2⟩ := info_parts row_info
  have hnews := block_cells hb
  have HNw := Lib.hid hnews
  clear h hb hrow hnews
  generalize hn : rs.length = n at *
  have HN := Lib.hid hn
  clear hn
  by_cases hcn : c = n
  all_goals
    go_enter Tryd.func64, Tryd.ntmps64
    go_wp2_with (at_builtin; refine wpList_append_own_at w rfl (.tmp 23) (.tmp 24) 110 rfl 0 118 i0 _ 5 40 Tryd.underlying110 hi0 hz0 hz1 hz2 rfl (by omega) (.slice A n c) n (rs.flatMap Row.cells) rfl (by rw [← HN.out]; have := H.out; rw [← HN.out] at this; exact this) ⟨vb, 0, none⟩ 1 vc r.cells rfl rfl HNw.out r.cells_one (by simp only [maxLen]; omega) (by omega) (Nat.zero_le _) ?_; intro v' w' h1 h2 _ h4)
    go_ret
    refine ⟨v', rfl, ?_, (Turn.refl _ _).grown h2 (fun k hk => .inl (by simp [hk])), ?_⟩
    · unfold OwnR
      rw [List.length_append, flat_append, HN.out]
      simpa [List.flatMap_cons] using h1
    · rcases h4 with h4 | h4
      · exact .inl h4
      · exact .inr ⟨_, h4, Nat.le_refl _⟩
end Go.Proofs.YtjnphoeifonenaaDoor

/- Stage 1's text Ins2: what stage 8 wants of it (printed by conv1.py). -/
set_option linter.unusedSimpArgs false
set_option linter.unusedVariables false
set_option maxRecDepth 100000
namespace Go.Proofs.YtjnphoeifonenaaDoor
open Go.RowKit Go.Lib

/-- copy between slices of rows: the block behind it. -/
theorem run_copy5 (w : World) (ty : TypeId) (g o dLen dCap : Nat) (a : Addr) (sLen sCap k : Nat) (cur : List Value) (cs : List Value)
    (hg : w.heap[g]? = some (.cells cur.toArray 118 (0, 0))) (hk : k = Nat.min sLen dLen) (hn : cs.length = k * 5)
    (hsrc : ∀ j v, cs[j]? = some v → w.cell? (a.add j) = some v) (hfit : o + cs.length ≤ cur.length) (h1 : ∀ v ∈ cs, v.oneCell' = true) :
    (Builtin.copy_ #[110, 110] ty #[.slice (some ⟨g, o, none⟩) dLen dCap, .slice (some a) sLen sCap]).run Tryd.prog w = .ok (goInt k) (w.setRow g (splice cur o cs).toArray) := by
  have hl := run_loadCells_list (P := Tryd.prog) w a cs hsrc
  have hst := run_storeCells_at Tryd.prog g o 118 cs 0 cur.toArray w hg (by simpa using hfit) h1
  obtain ⟨i0, hi0, hz0, hz1, hz2⟩ := info_parts row_info
  simp [Builtin.copy_, run_underlying Tryd.underlying110, Builtin.lenOf, Builtin.firstCells, sizeOf, typeInfo, hi0, hz1, ← hk, ← hn, hl, hst, splice]
set_option maxHeartbeats 1000000 in
theorem insert_grow (g n c i vb vc : Nat) (rs : List Row) (r : Row) (w : World) (h : OwnR w 0 (.slice (some ⟨g, 0, none⟩) n c) rs) (hn : n = rs.length) (hl : n ≤ 100000) (hi : i < n) (hnc : n ≤ c) (hroom : c < n + 1)
    (hb : w.heap[vb]? = some (.cells r.cells.toArray 118 (0, 0))) :
    Calls Tryd.prog 64 #[.slice (some ⟨g, 0, none⟩) n c, .int .i64 i, .slice (some ⟨vb, 0, none⟩) 1 vc] w (InsPost (.slice (some ⟨g, 0, none⟩) n c) (insR rs i r) w) := by
  have hcn : c = n := by omega
  subst hcn
  have H := Lib.hid h
  have HB := Lib.hid hb
  have HN := Lib.hid hn
  obtain ⟨i0, hi0, hz0, hz1, hz2⟩ := info_parts row_info
  have hnews := block_cells hb
  have HNw := Lib.hid hnews
  clear h hb hnews hn hroom hnc
  have hz1' : ((i : Int) == (c : Int)) = false := by simp; omega
  have hci : ¬ (c = i) := by omega
  have hold : (Builtin.firstCells i0.size i (.slice (some ⟨g, 0, none⟩) i c)).run Tryd.prog w.drew = .ok ((rs.take i).flatMap Row.cells).toArray w.drew := by
    rw [hz1]
    refine run_firstCells_some w.drew 5 i ⟨g, 0, none⟩ i c _ (by rw [flat_length, List.length_take]; have := HN.out; omega) (fun j v hj => ?_)
    rw [Addr.add_lit, Nat.zero_add]
    rw [flat_take, List.getElem?_take] at hj
    split at hj
    · have hh := H.out
      have e := HN.out
      subst e
      exact (World.ownsRow.cellAt (cap := rs.length) hh j (by omega)).trans hj
    · cases hj
  obtain ⟨G, hG⟩ : ∃ G, G = grownCap w (c + 1) c 118 := ⟨_, rfl⟩
  obtain ⟨ROW, hROW⟩ : ∃ ROW : Array Value, ROW = ((rs.take i).flatMap Row.cells).toArray ++ Builtin.zeroCells (Value.agg #[.int .i64 0, .int .u64 0, .int .u64 0, .int .u64 0, .int .u64 0]).cells (c + 1 - i) ++ Builtin.zeroCells (Value.agg #[.int .i64 0, .int .u64 0, .int .u64 0, .int .u64 0, .int .u64 0]).cells (G - (c + 1)) := ⟨_, rfl⟩
  obtain ⟨W1, hW1⟩ : ∃ W1, W1 = w.drew.alloc (.cells ROW 118) := ⟨_, rfl⟩
  have hrz : ∀ ty, (Builtin.append_ #[110, 3] ty #[.slice (some ⟨g, 0, none⟩) i c, .int .i64 ((c : Int) + 1 - (i : Int))]).run Tryd.prog w = .ok (.slice (some ⟨w.heap.size, 0, none⟩) (c + 1) G) W1 := fun ty => by
    have h := Lib.run_append_grow_zeros w 110 3 ty 118 i0 _ .i64 .i64 Tryd.underlying110 Tryd.underlying3 hi0 hz0 (some ⟨g, 0, none⟩) i c _ hold (c + 1 - i) (by omega) (by omega) (by omega) (by omega) (by rw [hz2]; omega) (by rw [hz2, show i + (c + 1 - i) = c + 1 by omega]; exact growslice_fits (by omega) (by omega))
    rw [show i + (c + 1 - i) = c + 1 by omega] at h
    rw [show (c : Int) + 1 - (i : Int) = ((c + 1 - i : Nat) : Int) by omega, hW1, hROW, hG]
    exact h
  have hGc : c + 1 ≤ G := by rw [hG]; exact grownCap_ge w _ _ _
  have hGm : G ≤ 9223372036854775807 := by
    have := grownCap_le_maxLen w (c + 1) c 118 (by unfold maxLen; omega)
    rw [← hG] at this
    unfold maxLen at this
    omega
  have hfl : ((rs.take i).flatMap Row.cells).length = i * 5 := by rw [flat_length, List.length_take]; have := HN.out; omega
  have hRs : ROW.toList.length = G * 5 := by
    rw [hROW]
    simp only [Array.toList_append, List.length_append, hfl, Array.length_toList, size_zeroCells, Value.cells]
    simp
    omega
  have hRt : ROW.toList.take (i * 5) = (rs.take i).flatMap Row.cells := by
    rw [hROW]
    simp only [Array.toList_append, List.append_assoc]
    rw [List.take_append_of_le_length (by simp [hfl]), List.take_of_length_le (by simp [hfl])]
  have hblk : W1.heap[w.heap.size]? = some (.cells ROW.toList.toArray 118 (0, 0)) := by
    rw [hW1]
    exact heap_alloc_new w.drew _
  have hT1 : Turn [] w W1 := by rw [hW1]; exact ((Turn.refl [] w).drew).alloc _
  have hgl : g < w.heap.size := (H.out.lt g rfl).2
  have hvl : vb < w.heap.size := (Array.getElem?_eq_some_iff.1 HB.out).1
  obtain ⟨W2, hW2⟩ : ∃ W2, W2 = W1.setRow w.heap.size (splice ROW.toList (i * 5) r.cells).toArray := ⟨_, rfl⟩
  have hcpA : ∀ ty dc, (Builtin.copy_ #[110, 110] ty #[.slice (some ⟨w.heap.size, i * 5, none⟩) (c + 1 - i) dc, .slice (some ⟨vb, 0, none⟩) 1 vc]).run Tryd.prog W1 = .ok (goInt 1) W2 := fun ty dc => by
    rw [hW2]
    refine run_copy5 W1 ty w.heap.size (i * 5) (c + 1 - i) dc ⟨vb, 0, none⟩ 1 vc 1 ROW.toList r.cells hblk (by simp only [Nat.min_def]; split <;> omega) rfl (fun j u hj => ?_) (by rw [hRs]; simp [Row.cells]; omega) r.cells_one
    have hc := HNw.out j u hj
    rw [Addr.add_lit, Nat.zero_add] at hc ⊢
    exact (hT1.cell (p := ⟨vb, j, none⟩) hvl (by simp)).trans hc
  have hT2 : Turn [] w W2 := by
    rw [hW2]
    exact hT1.trans (G := [w.heap.size]) ⟨rfl, rfl, rfl, by simp [World.setRow], fun k hk hn => setRow_other W1 w.heap.size k _ (by simpa using hn)⟩ (fun g hg => .inr (by simp at hg; omega))
  have hcur2 : (splice ROW.toList (i * 5) r.cells).length = G * 5 := by rw [length_splice _ _ _ (by rw [hRs]; simp [Row.cells]; omega), hRs]
  have hblk2 : W2.heap[w.heap.size]? = some (.cells (splice ROW.toList (i * 5) r.cells).toArray 118 (0, 0)) := by
    rw [hW2]
    exact setRow_heap W1 w.heap.size _ _ 118 _ hblk
  obtain ⟨W3, hW3⟩ : ∃ W3, W3 = W2.drew.setRow w.heap.size (splice (splice ROW.toList (i * 5) r.cells) ((i + 1) * 5) ((rs.drop i).flatMap Row.cells)).toArray := ⟨_, rfl⟩
  have hdl : ((rs.drop i).flatMap Row.cells).length = (c - i) * 5 := by rw [flat_length, List.length_drop]; have := HN.out; omega
  have hcpB : ∀ ty dc sc, (Builtin.copy_ #[110, 110] ty #[.slice (some ⟨w.heap.size, (i + 1) * 5, none⟩) (c - i) dc, .slice (some ⟨g, i * 5, none⟩) (c - i) sc]).run Tryd.prog W2.drew = .ok (goInt (c - i : Nat)) W3 := fun ty dc sc => by
    rw [hW3]
    refine run_copy5 W2.drew ty w.heap.size ((i + 1) * 5) (c - i) dc ⟨g, i * 5, none⟩ (c - i) sc (c - i) _ _ hblk2 (by simp only [Nat.min_def]; split <;> omega) hdl (fun j u hj => ?_) (by rw [hcur2, hdl]; omega) (flat_one _)
    rw [flat_drop, List.getElem?_drop] at hj
    rw [Addr.add_lit]
    have hj' : i * 5 + j < c * 5 := by
      have h1 := (List.getElem?_eq_some_iff.1 hj).1
      rw [flat_length] at h1
      have := HN.out
      omega
    have hh := H.out
    have e := HN.out
    have hcl : w.cell? ⟨g, i * 5 + j, none⟩ = some u := by
      subst e
      exact (World.ownsRow.cellAt (cap := rs.length) hh (i * 5 + j) hj').trans hj
    exact (hT2.cell (p := ⟨g, i * 5 + j, none⟩) hgl (by simp)).trans hcl
  have HW3 := Lib.hid hW3
  have HT2 := Lib.hid hT2
  have Hcur2 := Lib.hid hcur2
  have Hblk2 := Lib.hid hblk2
  have Hdl := Lib.hid hdl
  clear hW3 hT2 hcur2 hblk2 hdl
  have HG := Lib.hid hG
  have HROW := Lib.hid hROW
  have HW1 := Lib.hid hW1
  have HW2 := Lib.hid hW2
  have HRt := Lib.hid hRt
  have HRs := Lib.hid hRs
  have Hblk := Lib.hid hblk
  have HT1 := Lib.hid hT1
  have Hrz := Lib.hid hrz
  have HcpA := Lib.hid hcpA
  have hGi : ¬ (G = i) := by omega
  have hGi1 : ¬ (G = i + 1) := by omega
  have hz2' : decide ((c : Int) < (c : Int) + 1) = true := by simp; omega
  clear hG hROW hW1 hW2 hRt hRs hblk hT1 hrz hfl hold
  go_enter Tryd.func64, Tryd.ntmps64
  go_wp2_with (first
    | (at_builtin; go_loud (refine Lib.wpList_append_run _ rfl (.tmp 34) (.tmp 39) 110 3 rfl _ _ rfl rfl _ _ (Hrz.out _) ?_)))
  have hw1 : IntKind.i64.wrap ((i : Int) + 1) = (i : Int) + 1 := by rw [IntKind.wrap_i64]; omega
  have hb1 : (0 : Int) ≤ (i : Int) + 1 := by omega
  have htn : ((i : Int) + 1).toNat = i + 1 := by omega
  have hb3 : (i : Int) ≤ (c : Int) := by omega
  have hb4 : (i : Int) + 1 ≤ (c : Int) + 1 := by omega
  go_region
  go_wp2
  go_ret
  have hW3 := HW3.out
  have hb := setRow_heap W2.drew w.heap.size _ (splice (splice ROW.toList (i * 5) r.cells) ((i + 1) * 5) ((rs.drop i).flatMap Row.cells)).toArray 118 _ Hblk2.out
  rw [← hW3] at hb
  have hT3 : Turn [] w W3 := by
    rw [hW3]
    exact (HT2.out.drew).trans (G := [w.heap.size]) ⟨rfl, rfl, rfl, by simp [World.setRow], fun k hk hn => setRow_other W2.drew w.heap.size k _ (by simpa using hn)⟩ (fun g hg => .inr (by simp at hg; omega))
  refine ⟨_, rfl, ?_, hT3.more (by simp), .inr ⟨w.heap.size, rfl, Nat.le_refl _⟩⟩
  have hlen : (insR rs i r).length = c + 1 := by
    have := HN.out
    simp only [insR, List.length_append, List.length_take, List.length_cons, List.length_drop]
    omega
  unfold OwnR
  rw [hlen]
  refine ⟨by rw [flat_length, hlen], .inr ⟨w.heap.size, G, _, rfl, Nat.zero_le _, hb, hGc, ?_, ?_, ?_⟩⟩
  · unfold maxLen; omega
  · rw [List.size_toArray, length_splice _ _ _ (by rw [Hcur2.out, Hdl.out]; omega), Hcur2.out]
  · have e1 : (splice ROW.toList (i * 5) r.cells).take ((i + 1) * 5) = (rs.take i).flatMap Row.cells ++ r.cells := by
      unfold splice
      have h5 : ((rs.take i).flatMap Row.cells ++ r.cells).length = (i + 1) * 5 := by
        rw [List.length_append, flat_length, List.length_take]
        have := HN.out
        simp [Row.cells]
        omega
      rw [HRt.out, ← List.append_assoc, List.take_append_of_le_length (by omega), List.take_of_length_le (by omega)]
    rw [List.toList_toArray]
    have e2 : splice (splice ROW.toList (i * 5) r.cells) ((i + 1) * 5) ((rs.drop i).flatMap Row.cells) = (insR rs i r).flatMap Row.cells ++ (splice ROW.toList (i * 5) r.cells).drop ((i + 1) * 5 + ((rs.drop i).flatMap Row.cells).length) := by
      rw [splice, e1, insR, flat_append, List.flatMap_cons]
      simp only [List.append_assoc]
    rw [e2, List.take_append_of_le_length (by rw [flat_length, hlen]; omega), List.take_of_length_le (by rw [flat_length, hlen]; omega)]
end Go.Proofs.YtjnphoeifonenaaDoor

/- Stage 1's text Ins3: what stage 8 wants of it (printed by conv1.py). -/
set_option linter.unusedSimpArgs false
set_option linter.unusedVariables false
set_option maxRecDepth 100000
namespace Go.Proofs.YtjnphoeifonenaaDoor
open Go.RowKit Go.Lib

theorem turn_setRow {F : List Nat} {w0 w : World} {g : Nat} (h : Turn F w0 w) (hg : g ∈ F ∨ w0.heap.size ≤ g) (cs : Array Value) : Turn F w0 (w.setRow g cs) :=
  h.trans (G := [g]) ⟨rfl, rfl, rfl, by simp [World.setRow], fun k hk hn => setRow_other w g k _ (by simpa using hn)⟩ (fun g' hg' => by
    have : g' = g := by simpa using hg'
    subst this
    exact hg)
set_option maxHeartbeats 1000000 in
theorem insert_room (g n c i vb vc : Nat) (rs : List Row) (r : Row) (w : World) (h : OwnR w 0 (.slice (some ⟨g, 0, none⟩) n c) rs) (hn : n = rs.length) (hl : n ≤ 100000) (hi : i < n) (hroom : n + 1 ≤ c)
    (hb : w.heap[vb]? = some (.cells r.cells.toArray 118 (0, 0))) (hvg : vb ≠ g) :
    Calls Tryd.prog 64 #[.slice (some ⟨g, 0, none⟩) n c, .int .i64 i, .slice (some ⟨vb, 0, none⟩) 1 vc] w (InsPost (.slice (some ⟨g, 0, none⟩) n c) (insR rs i r) w) := by
  subst hn
  generalize hn : rs.length = n at *
  obtain ⟨cur, hg, hcm, hcs, htake⟩ : ∃ cur : Array Value, w.heap[g]? = some (.cells cur 118 (0, 0)) ∧ c ≤ maxLen ∧ cur.size = c * 5 ∧ cur.toList.take (n * 5) = rs.flatMap Row.cells := by
    have h' := h
    unfold OwnR at h'
    rw [hn] at h'
    rcases h'.2 with ⟨h1, _⟩ | ⟨g', cap', cur, h1, _, hg, _, hcm, hcs, ht⟩
    · cases h1
    · simp only [Value.slice.injEq, Option.some.injEq, Addr.mk.injEq, and_true, true_and] at h1
      obtain ⟨rfl, rfl⟩ := h1
      exact ⟨cur, hg, hcm, hcs, ht⟩
  have HB := Lib.hid hb
  have HN := Lib.hid hn
  have hnews := block_cells hb
  have hc63 : c ≤ 9223372036854775807 := by unfold maxLen at hcm; omega
  have hcl : cur.toList.length = c * 5 := by simpa using hcs
  have hg' : w.heap[g]? = some (.cells cur.toList.toArray 118 (0, 0)) := by simpa using hg
  have hov : ∀ lb cb, (callFunc 73 #[.slice (some ⟨vb, 0, none⟩) 1 vc, .slice (some ⟨g, (i + 1) * 5, none⟩) lb cb]).run Tryd.prog w = .ok (.value (.bool false)) w := fun lb cb => by
    rw [run_callFunc_extern Tryd.func73 (by kernel_rfl) (by kernel_rfl) (by kernel_rfl) (e := Extern.SlicesOverlaps.overlaps #[110, 110] #[4]) (by kernel_rfl),
      Lib.run_overlaps_apart w 110 4 118 Tryd.underlying110 5 Tryd.sizeOf118 ⟨vb, 0, none⟩ ⟨g, (i + 1) * 5, none⟩ 1 vc lb cb hvg 118 118 5 (c * 5) (by simp [World.shape?, hb, Row.cells]) (by simp [World.shape?, hg, hcs]) (by omega)
        (frozen_of_row w vb 0 _ 118 hb) (frozen_of_row w vb 5 _ 118 hb)]
    rfl
  have hdl : ((rs.drop i).flatMap Row.cells).length = (n - i) * 5 := by rw [flat_length, List.length_drop, hn]
  obtain ⟨W1, hW1⟩ : ∃ W1, W1 = w.drew.setRow g (splice cur.toList ((i + 1) * 5) ((rs.drop i).flatMap Row.cells)).toArray := ⟨_, rfl⟩
  have hcp1 : ∀ ty dc sc, (Builtin.copy_ #[110, 110] ty #[.slice (some ⟨g, (i + 1) * 5, none⟩) (n - i) dc, .slice (some ⟨g, i * 5, none⟩) (n + 1 - i) sc]).run Tryd.prog w.drew = .ok (goInt (n - i : Nat)) W1 := fun ty dc sc => by
    rw [hW1]
    refine run_copy5 w.drew ty g ((i + 1) * 5) (n - i) dc ⟨g, i * 5, none⟩ (n + 1 - i) sc (n - i) _ _ hg' (by simp only [Nat.min_def]; split <;> omega) hdl (fun j u hj => ?_) (by rw [hcl, hdl]; omega) (flat_one _)
    rw [flat_drop, List.getElem?_drop] at hj
    rw [Addr.add_lit]
    have hj' : i * 5 + j < n * 5 := by
      have h1 := (List.getElem?_eq_some_iff.1 hj).1
      rw [flat_length] at h1
      omega
    refine (cell_of_row w g (i * 5 + j) cur 118 (0, 0) hg).trans ?_
    rw [← htake, List.getElem?_take, if_pos hj'] at hj
    simpa using hj
  have hT1 : Turn [g] w W1 := by rw [hW1]; exact turn_setRow ((Turn.refl [g] w).drew) (.inl (by simp)) _
  have hblk1 : W1.heap[g]? = some (.cells (splice cur.toList ((i + 1) * 5) ((rs.drop i).flatMap Row.cells)).toArray 118 (0, 0)) := by
    rw [hW1]
    exact setRow_heap w.drew g _ _ 118 _ hg'
  have hcl1 : (splice cur.toList ((i + 1) * 5) ((rs.drop i).flatMap Row.cells)).length = c * 5 := by rw [length_splice _ _ _ (by rw [hcl, hdl]; omega), hcl]
  have hvl : vb < w.heap.size := (Array.getElem?_eq_some_iff.1 hb).1
  obtain ⟨W2, hW2⟩ : ∃ W2, W2 = W1.setRow g (splice (splice cur.toList ((i + 1) * 5) ((rs.drop i).flatMap Row.cells)) (i * 5) r.cells).toArray := ⟨_, rfl⟩
  have hcp2 : ∀ ty dc, (Builtin.copy_ #[110, 110] ty #[.slice (some ⟨g, i * 5, none⟩) (n + 1 - i) dc, .slice (some ⟨vb, 0, none⟩) 1 vc]).run Tryd.prog W1 = .ok (goInt 1) W2 := fun ty dc => by
    rw [hW2]
    refine run_copy5 W1 ty g (i * 5) (n + 1 - i) dc ⟨vb, 0, none⟩ 1 vc 1 _ r.cells hblk1 (by simp only [Nat.min_def]; split <;> omega) rfl (fun j u hj => ?_) (by rw [hcl1]; simp [Row.cells]; omega) r.cells_one
    have hc := hnews j u hj
    rw [Addr.add_lit, Nat.zero_add] at hc ⊢
    exact (hT1.cell (p := ⟨vb, j, none⟩) hvl (by simpa using hvg)).trans hc
  have hT2 : Turn [g] w W2 := by rw [hW2]; exact turn_setRow hT1 (.inl (by simp)) _
  have hblk2 : W2.heap[g]? = some (.cells (splice (splice cur.toList ((i + 1) * 5) ((rs.drop i).flatMap Row.cells)) (i * 5) r.cells).toArray 118 (0, 0)) := by
    rw [hW2]
    exact setRow_heap W1 g _ _ 118 _ hblk1
  have hcl2 : (splice (splice cur.toList ((i + 1) * 5) ((rs.drop i).flatMap Row.cells)) (i * 5) r.cells).length = c * 5 := by rw [length_splice _ _ _ (by rw [hcl1]; simp [Row.cells]; omega), hcl1]
  have hlen : (insR rs i r).length = n + 1 := by
    simp only [insR, List.length_append, List.length_take, List.length_cons, List.length_drop, hn]
    omega
  have hfin : OwnR W2 0 (.slice (some ⟨g, 0, none⟩) (n + 1) c) (insR rs i r) := by
    unfold OwnR
    rw [hlen]
    refine ⟨by rw [flat_length, hlen], .inr ⟨g, c, _, rfl, Nat.zero_le _, hblk2, hroom, hcm, by rw [List.size_toArray, hcl2], ?_⟩⟩
    have ht1 : (splice cur.toList ((i + 1) * 5) ((rs.drop i).flatMap Row.cells)).take (i * 5) = (rs.take i).flatMap Row.cells := by
      unfold splice
      rw [List.take_append_of_le_length (by rw [List.length_take, hcl]; omega), List.take_take, Nat.min_eq_left (by omega), flat_take, ← htake, List.take_take, Nat.min_eq_left (by omega)]
    have ht2 : (splice cur.toList ((i + 1) * 5) ((rs.drop i).flatMap Row.cells)).drop (i * 5 + r.cells.length) = (rs.drop i).flatMap Row.cells ++ cur.toList.drop ((i + 1) * 5 + ((rs.drop i).flatMap Row.cells).length) := by
      unfold splice
      have h5 : r.cells.length = 5 := rfl
      rw [h5, show i * 5 + 5 = (cur.toList.take ((i + 1) * 5)).length by rw [List.length_take, hcl]; omega, List.drop_left]
    rw [List.toList_toArray]
    have e2 : splice (splice cur.toList ((i + 1) * 5) ((rs.drop i).flatMap Row.cells)) (i * 5) r.cells = (insR rs i r).flatMap Row.cells ++ cur.toList.drop ((i + 1) * 5 + ((rs.drop i).flatMap Row.cells).length) := by
      rw [splice, ht1, ht2, insR, flat_append, List.flatMap_cons]
      simp only [List.append_assoc]
    rw [e2, List.take_append_of_le_length (by rw [flat_length, hlen]; omega), List.take_of_length_le (by rw [flat_length, hlen]; omega)]
  have HFin := Lib.hid hfin
  have HT2 := Lib.hid hT2
  have hz1' : ((i : Int) == (n : Int)) = false := by simp; omega
  have hci : ¬ (c = i) := by omega
  have hci1 : ¬ (c = i + 1) := by omega
  have hz2' : decide ((c : Int) < (n : Int) + 1) = false := by simp; omega
  have hw1 : IntKind.i64.wrap ((i : Int) + 1) = (i : Int) + 1 := by rw [IntKind.wrap_i64]; omega
  have hb1 : (0 : Int) ≤ (i : Int) + 1 := by omega
  have htn : ((i : Int) + 1).toNat = i + 1 := by omega
  have hb3 : (i : Int) ≤ (n : Int) + 1 := by omega
  have hb4 : (i : Int) + 1 ≤ (n : Int) + 1 := by omega
  clear h hg hcm hcs htake hb hn hnews hcl hg' hdl hW1 hT1 hblk1 hcl1 hW2 hT2 hblk2 hcl2 hlen hfin
  go_enter Tryd.func64, Tryd.ntmps64
  go_wp2_with (simp only [hov])
  go_region
  go_wp2
  go_ret
  exact ⟨_, rfl, HFin.out, HT2.out, .inl rfl⟩
theorem insert_any (v : Value) (rs : List Row) (i : Nat) (r : Row) (vb vc : Nat) (w : World) (h : OwnR w 0 v rs) (hl : rs.length ≤ 100000) (hi : i ≤ rs.length) (hb : w.heap[vb]? = some (.cells r.cells.toArray 118 (0, 0))) (hv : v.ownBlock ≠ some vb) :
    Calls Tryd.prog 64 #[v, .int .i64 i, .slice (some ⟨vb, 0, none⟩) 1 vc] w (InsPost v (insR rs i r) w) := by
  by_cases e : i = rs.length
  · subst e
    have := insert_end v rs r vb vc w h hl hb
    simpa [insR] using this
  · have h2 := h.2
    rcases h2 with ⟨_, h0⟩ | ⟨g, cap, cur, rfl, _, _, hnc, _⟩
    · omega
    · by_cases hroom : rs.length + 1 ≤ cap
      · exact insert_room g _ cap i vb vc rs r w h rfl hl (by omega) hroom hb (fun e => hv (by rw [e]; rfl))
      · exact insert_grow g _ cap i vb vc rs r w h rfl hl (by omega) hnc (by omega) hb
end Go.Proofs.YtjnphoeifonenaaDoor
