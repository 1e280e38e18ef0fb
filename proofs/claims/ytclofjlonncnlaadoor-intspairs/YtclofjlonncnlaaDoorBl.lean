/- Plain arithmetic: the list of the set bits of a word; what taking the lowest one away does. -/
import Derived.Lib.TrailingZeros
import Derived.Test.YtclofjlonncnlaaDoorPop
set_option linter.unusedSimpArgs false
set_option linter.unusedVariables false
namespace Go.Proofs.YtclofjlonncnlaaDoor

/-- The places of the set bits of a word, rising. -/
def bitsL (x : Nat) : List Nat := (List.range' 0 64).filter (fun j => x.testBit j)
theorem bit_drop (k m j : Nat) : ((2 ^ k * (2 * m + 1)) &&& (2 ^ k * (2 * m + 1) - 1)).testBit j = ((2 ^ k * (2 * m + 1)).testBit j && decide (j ≠ k)) := by
  have hp : 0 < 2 ^ k := Nat.two_pow_pos k
  have e1 : 2 ^ k * (2 * m + 1) - 1 = 2 ^ k * (2 * m) + (2 ^ k - 1) := by
    rw [Nat.mul_add, Nat.mul_one]; omega
  have e0 : 2 ^ k * (2 * m + 1) = 2 ^ k * (2 * m + 1) + 0 := rfl
  rw [Nat.testBit_and, e1, Nat.testBit_two_pow_mul_add _ (by omega), e0, Nat.testBit_two_pow_mul_add _ hp]
  rcases Nat.lt_trichotomy j k with h | h | h
  · simp [h]
  · subst h; simp
  · obtain ⟨s, rfl⟩ : ∃ s, j = k + (s + 1) := ⟨j - k - 1, by omega⟩
    have hn : ¬ k + (s + 1) < k := by omega
    rw [if_neg hn, if_neg hn, show k + (s + 1) - k = s + 1 by omega, Nat.testBit_succ, Nat.testBit_succ, show (2 * m + 1) / 2 = m by omega, show (2 * m) / 2 = m by omega]
    cases m.testBit s <;> simp
theorem bit_low (k m j : Nat) : (j < k → (2 ^ k * (2 * m + 1)).testBit j = false) ∧ (2 ^ k * (2 * m + 1)).testBit k = true := by
  have hp : 0 < 2 ^ k := Nat.two_pow_pos k
  have e0 : 2 ^ k * (2 * m + 1) = 2 ^ k * (2 * m + 1) + 0 := rfl
  constructor
  · intro h
    rw [e0, Nat.testBit_two_pow_mul_add _ hp]
    simp [h]
  · rw [e0, Nat.testBit_two_pow_mul_add _ hp]
    simp
theorem filter_low (p q : Nat → Bool) (k : Nat) (hq : ∀ j, q j = (p j && decide (j ≠ k))) (hk : p k = true) (n s : Nat) (hs : s ≤ k) (hn : k < s + n) (hlo : ∀ j, j < k → p j = false) :
    (List.range' s n).filter p = k :: (List.range' s n).filter q := by
  induction n generalizing s with
  | zero => omega
  | succ n ih =>
    rw [List.range'_succ]
    by_cases e : s = k
    · subst e
      rw [List.filter_cons, if_pos hk, List.filter_cons, if_neg (by rw [hq]; simp)]
      congr 1
      apply List.filter_congr
      intro j hj
      rw [hq]
      have := List.mem_range'.1 hj
      have hne : j ≠ s := by obtain ⟨i, _, rfl⟩ := this; omega
      simp [hne]
    · have h1 : p s = false := hlo s (by omega)
      rw [List.filter_cons, if_neg (by simp [h1]), List.filter_cons, if_neg (by rw [hq, h1]; simp)]
      exact ih (s + 1) (by omega) (by omega)
/-- The lowest set bit, and the others. -/
theorem bitsL_step (x : Nat) (hx : x < 18446744073709551616) (h0 : x ≠ 0) : bitsL x = Lib.ctz 64 x :: bitsL (x &&& (x - 1)) ∧ x &&& (x - 1) < x ∧ Lib.ctz 64 x < 64 := by
  obtain ⟨m, hm, hk⟩ := Lib.ctzFrom_spec 64 x (by omega) (by simpa using hx)
  have hc : Lib.ctz 64 x = Lib.ctzFrom 64 x := by simp [Lib.ctz, h0]
  generalize Lib.ctzFrom 64 x = k at *
  rw [hc]
  refine ⟨?_, ?_, hk⟩
  · have hl := bit_low k m
    unfold bitsL
    rw [filter_low (fun j => x.testBit j) (fun j => (x &&& (x - 1)).testBit j) k (fun j => by rw [hm]; exact bit_drop k m j) (by rw [hm]; exact (hl 0).2) 64 0 (by omega) (by omega) (fun j hj => by rw [hm]; exact (hl j).1 hj)]
  · have h1 : x &&& (x - 1) ≤ x - 1 := Nat.and_le_right
    omega
theorem bitsL_zero : bitsL 0 = [] := by simp [bitsL]
theorem popN_filter (f s x : Nat) : popN f (x / 2 ^ s) = ((List.range' s f).filter (fun j => x.testBit j)).length := by
  induction f generalizing s with
  | zero => rfl
  | succ f ih =>
    rw [List.range'_succ, List.filter_cons]
    have h := ih (s + 1)
    rw [Nat.pow_succ, ← Nat.div_div_eq_div_mul] at h
    simp only [popN]
    rw [h]
    have ht := Nat.testBit_eq_decide_div_mod_eq (x := x) (i := s)
    rcases Nat.mod_two_eq_zero_or_one (x / 2 ^ s) with e | e
    · rw [e] at ht ⊢
      rw [ht]; simp
    · rw [e] at ht ⊢
      rw [ht]; simp; omega
theorem pop_bits (x : Nat) : popN 64 x = (bitsL x).length := by
  have := popN_filter 64 0 x
  simpa [bitsL] using this
theorem bitsL_length (x : Nat) : (bitsL x).length ≤ 64 := by
  have := List.length_filter_le (fun j => x.testBit j) (List.range' 0 64)
  simpa [bitsL] using this
theorem mem_bitsL (x j : Nat) : j ∈ bitsL x ↔ j < 64 ∧ x.testBit j = true := by
  unfold bitsL
  rw [List.mem_filter, List.mem_range']
  constructor
  · rintro ⟨⟨i, hi, rfl⟩, h⟩
    exact ⟨by omega, h⟩
  · rintro ⟨h, h2⟩
    exact ⟨⟨j, h, by omega⟩, h2⟩
theorem bitsL_sorted (x : Nat) : (bitsL x).Pairwise (· < ·) := by
  unfold bitsL
  exact List.Pairwise.filter _ (List.pairwise_lt_range' (s := 0) (n := 64) 1)
end Go.Proofs.YtclofjlonncnlaaDoor
