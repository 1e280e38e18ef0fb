/- Sets: Has. -/
import Derived.Test.YtclofjlonncnlaaDoorSet2
set_option linter.unusedSimpArgs false
set_option linter.unusedVariables false
namespace Go.Proofs.YtclofjlonncnlaaDoor
open Go.RowKit
theorem fld46 (a : Nat) (v0 v1 v2 v3 : Nat) (w : World) : (Instr.field 46 (.agg #[.int .i64 a, .int .u64 v0, .int .u64 v1, .int .u64 v2, .int .u64 v3]) 1).run Tryd.prog w = .ok (.agg #[.int .u64 v0, .int .u64 v1, .int .u64 v2, .int .u64 v3]) w := by kernel_rfl
attribute [local go_sem] idx44_0 idx44_1 idx44_2 idx44_3 fld46

def Row.word (r : Row) (i : Nat) : Nat := match i with
  | 0 => r.w0
  | 1 => r.w1
  | 2 => r.w2
  | _ => r.w3
/-- Is the row's bit j set? -/
def Row.bit (r : Row) (j : Nat) : Bool := (r.word (j / 64)).testBit (j % 64)
/-- Have the rows the number? -/
def hasN (rs : List Row) (n : Nat) : Bool := (rowOf rs (n / 256)).bit (n % 256)
theorem and_pow (x n : Nat) (hx : x < 18446744073709551616) : (bits BinOp.and IntKind.u64 (x : Int) ((2 ^ (n % 64) : Nat) : Int) != 0) = x.testBit (n % 64) := by
  rw [u64_and_nat x _ hx (pow_lt64 n)]
  cases hb : x.testBit (n % 64)
  · have h0 : x &&& 2 ^ (n % 64) = 0 := by
      apply Nat.eq_of_testBit_eq
      intro i
      rw [Nat.testBit_and, Nat.testBit_two_pow, Nat.zero_testBit]
      by_cases e : n % 64 = i
      · subst e; simp [hb]
      · simp [e]
    rw [h0]; rfl
  · have h1 : (x &&& 2 ^ (n % 64)).testBit (n % 64) = true := by rw [Nat.testBit_and, Nat.testBit_two_pow]; simp [hb]
    have h0 : x &&& 2 ^ (n % 64) ≠ 0 := by
      intro e
      rw [e, Nat.zero_testBit] at h1
      cases h1
    rw [bne_iff_ne]
    omega
theorem rowOf_fits {rs : List Row} (h : ∀ r ∈ rs, r.Fits) {t : Nat} (ht : t < 4096) : (rowOf rs t).Fits := by
  unfold rowOf
  split
  · rename_i r hr
    exact h r (List.mem_of_find?_eq_some hr)
  · exact ⟨ht, Nat.zero_lt_of_lt (by decide : 1 < 18446744073709551616), Nat.zero_lt_of_lt (by decide : 1 < 18446744073709551616), Nat.zero_lt_of_lt (by decide : 1 < 18446744073709551616), Nat.zero_lt_of_lt (by decide : 1 < 18446744073709551616)⟩

set_option maxHeartbeats 400000 in
theorem has_out (p : Value) (n : Int) (w : World) (h : okB n = false) : Calls Tryd.prog 13 #[p, .int .i64 n] w fun e w' => e = .returned (.bool false) ∧ w = w' := by
  have H := Lib.hid h
  clear h
  go_enter Tryd.func13, Tryd.ntmps13
  go_wp2_with (go_at_call 24; refine (mayHold_any n _).mono ?_; rw [H.out]; rintro e w' ⟨rfl, rfl⟩)
  go_ret
  exact ⟨rfl, rfl⟩
set_option maxHeartbeats 1000000 in
theorem has_in (p v : Value) (rs : List Row) (n : Nat) (w : World) (h : SetV w p v rs) (hn : n < 1048576) : Calls Tryd.prog 13 #[p, .int .i64 n] w fun e w' => e = .returned (.bool (hasN rs n)) ∧ Turn [] w w' := by
  have H := Lib.hid h
  have hok : okB n = true := by simp [okB]; omega
  have HOk := Lib.hid hok
  have hf := rowOf_fits h.ok.fits (show n / 256 < 4096 by omega)
  have hw : hasN rs n = ((rowOf rs (n / 256)).word (n % 256 / 64)).testBit (n % 64) := by
    unfold hasN Row.bit
    rw [show n % 256 % 64 = n % 64 by omega]
  have hr : ∀ W, SetV W p v rs → Calls Tryd.prog 28 #[p, .int .i64 ((n : Int) / 256)] W fun e w' => e = .returned (rowOf rs (n / 256)).val ∧ Turn [] W w' := fun W hW => by
    have := rowAt_any p v rs (n / 256) W hW (by omega)
    rwa [show (((n / 256 : Nat)) : Int) = (n : Int) / 256 by omega] at this
  have HR := Lib.hid hr
  generalize rowOf rs (n / 256) = r at *
  have HW := Lib.hid hw
  obtain ⟨a, w0, w1, w2, w3⟩ := r
  obtain ⟨_, b0, b1, b2, b3⟩ := hf
  simp only at b0 b1 b2 b3
  have HB := Lib.hid (bitOf_walk n)
  have a0 := and_pow w0 n b0
  have a1 := and_pow w1 n b1
  have a2 := and_pow w2 n b2
  have a3 := and_pow w3 n b3
  clear h hok hw hr
  generalize hbit : 2 ^ (n % 64) = bt at *
  have HBT := Lib.hid hbit
  clear hbit
  have hcase : n % 256 / 64 = 0 ∨ n % 256 / 64 = 1 ∨ n % 256 / 64 = 2 ∨ n % 256 / 64 = 3 := by omega
  rcases hcase with hcs | hcs | hcs | hcs
  all_goals
    rw [hcs] at HB HW
    have HCS := Lib.hid hcs
    clear hcs
    go_enter Tryd.func13, Tryd.ntmps13
    go_wp2_with (first
      | (go_at_call 24; refine (mayHold_any n _).mono ?_; rw [HOk.out]; rintro e w' ⟨rfl, rfl⟩)
      | (go_at_call 27; refine (HB.out _ (by omega)).mono ?_; rintro e w' ⟨rfl, q, rfl⟩)
      | (go_at_call 28; refine (HR.out _ (H.out.turn' ((Turn.refl _ _).drewN q))).mono ?_; rintro e w' ⟨rfl, ht⟩; simp only [Row.val]; have HT := Lib.hid ht; clear ht))
    go_ret
    refine ⟨ret_bool ?_, Turn.trans' ((Turn.refl _ _).drewN q) HT.out⟩
    rw [HW.out]
    rfl
end Go.Proofs.YtclofjlonncnlaaDoor
