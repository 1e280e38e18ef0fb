/- Rows of 256 bits: the walks of the methods of ints.row. -/
import Derived.Test.YtclofjlonncnlaaDoorBits
import Derived.Handy
import Derived.BigRegion
set_option linter.unusedSimpArgs false
set_option linter.unusedVariables false
namespace Go.Proofs.YtclofjlonncnlaaDoor
open Go.RowKit

structure Row where
  at_ : Nat
  w0 : Nat
  w1 : Nat
  w2 : Nat
  w3 : Nat
def Row.cells (r : Row) : List Value := [.int .i64 r.at_, .int .u64 r.w0, .int .u64 r.w1, .int .u64 r.w2, .int .u64 r.w3]
def Row.val (r : Row) : Value := .agg #[.int .i64 r.at_, .int .u64 r.w0, .int .u64 r.w1, .int .u64 r.w2, .int .u64 r.w3]
/-- Its place and its words lie in their ranges. -/
structure Row.Fits (r : Row) : Prop where
  a : r.at_ < 4096
  b0 : r.w0 < 18446744073709551616
  b1 : r.w1 < 18446744073709551616
  b2 : r.w2 < 18446744073709551616
  b3 : r.w3 < 18446744073709551616

theorem idx44_0 (v0 v1 v2 v3 : Nat) (w : World) : (Instr.index 44 (.agg #[.int .u64 v0, .int .u64 v1, .int .u64 v2, .int .u64 v3]) (.int .i64 0)).run Tryd.prog w = .ok (.int .u64 v0) w := by kernel_rfl
theorem idx44_1 (v0 v1 v2 v3 : Nat) (w : World) : (Instr.index 44 (.agg #[.int .u64 v0, .int .u64 v1, .int .u64 v2, .int .u64 v3]) (.int .i64 1)).run Tryd.prog w = .ok (.int .u64 v1) w := by kernel_rfl
theorem idx44_2 (v0 v1 v2 v3 : Nat) (w : World) : (Instr.index 44 (.agg #[.int .u64 v0, .int .u64 v1, .int .u64 v2, .int .u64 v3]) (.int .i64 2)).run Tryd.prog w = .ok (.int .u64 v2) w := by kernel_rfl
theorem idx44_3 (v0 v1 v2 v3 : Nat) (w : World) : (Instr.index 44 (.agg #[.int .u64 v0, .int .u64 v1, .int .u64 v2, .int .u64 v3]) (.int .i64 3)).run Tryd.prog w = .ok (.int .u64 v3) w := by kernel_rfl
attribute [local go_sem] idx44_0 idx44_1 idx44_2 idx44_3
def OnesAt (x p : Nat) : Prop := ∀ W, Calls Tryd.prog 42 #[.int .u64 x] W fun e w' => e = .returned (.int .i64 p) ∧ W = w'
set_option maxHeartbeats 400000 in
theorem count_walk (a w0 w1 w2 w3 p0 p1 p2 p3 : Nat) (w : World) (c0 : OnesAt w0 p0) (c1 : OnesAt w1 p1) (c2 : OnesAt w2 p2) (c3 : OnesAt w3 p3) (h0 : p0 ≤ 64) (h1 : p1 ≤ 64) (h2 : p2 ≤ 64) (h3 : p3 ≤ 64) :
    Calls Tryd.prog 34 #[.agg #[.int .i64 a, .int .u64 w0, .int .u64 w1, .int .u64 w2, .int .u64 w3]] w fun e w' => e = .returned (.int .i64 (p0 + p1 + p2 + p3 : Nat)) ∧ Turn [] w w' := by
  go_enter Tryd.func34, Tryd.ntmps34
  go_wp2_with fail
  refine wp_loop_rounds 5 ?_
  rw [rounds_succ]
  go_wp2_with (go_at_call 42; refine (c0 _).mono ?_; rintro e w' ⟨rfl, rfl⟩)
  rw [rounds_succ]
  go_wp2_with (go_at_call 42; refine (c1 _).mono ?_; rintro e w' ⟨rfl, rfl⟩)
  rw [rounds_succ]
  go_wp2_with (go_at_call 42; refine (c2 _).mono ?_; rintro e w' ⟨rfl, rfl⟩)
  rw [rounds_succ]
  go_wp2_with (go_at_call 42; refine (c3 _).mono ?_; rintro e w' ⟨rfl, rfl⟩)
  rw [rounds_succ]
  go_wp2
  go_ret
  exact ⟨ret_int (by omega), (Turn.refl _ _).alloc _⟩
theorem popN_le (f x : Nat) : popN f x ≤ f := by
  induction f generalizing x with
  | zero => simp [popN]
  | succ f ih => have := ih (x / 2); simp only [popN]; omega
def Row.count (r : Row) : Nat := popN 64 r.w0 + popN 64 r.w1 + popN 64 r.w2 + popN 64 r.w3
theorem count_any (r : Row) (hr : r.Fits) (w : World) : Calls Tryd.prog 34 #[r.val] w fun e w' => e = .returned (.int .i64 r.count) ∧ Turn [] w w' :=
  count_walk r.at_ r.w0 r.w1 r.w2 r.w3 _ _ _ _ w (ones64_any _ hr.b0) (ones64_any _ hr.b1) (ones64_any _ hr.b2) (ones64_any _ hr.b3) (popN_le _ _) (popN_le _ _) (popN_le _ _) (popN_le _ _)

/-- meets, by the four answers of '&'. -/
def B4 (b0 b1 b2 b3 : Bool) : Bool := b0 || b1 || b2 || b3
set_option maxHeartbeats 1000000 in
theorem meets_walk (a w0 w1 w2 w3 b v0 v1 v2 v3 : Nat) (b0 b1 b2 b3 : Bool) (w : World)
    (h0 : (bits BinOp.and IntKind.u64 (w0 : Int) (v0 : Int) != 0) = b0) (h1 : (bits BinOp.and IntKind.u64 (w1 : Int) (v1 : Int) != 0) = b1)
    (h2 : (bits BinOp.and IntKind.u64 (w2 : Int) (v2 : Int) != 0) = b2) (h3 : (bits BinOp.and IntKind.u64 (w3 : Int) (v3 : Int) != 0) = b3) :
    Calls Tryd.prog 35 #[.agg #[.int .i64 a, .int .u64 w0, .int .u64 w1, .int .u64 w2, .int .u64 w3], .agg #[.int .i64 b, .int .u64 v0, .int .u64 v1, .int .u64 v2, .int .u64 v3]] w
      fun e w' => e = .returned (.bool (B4 b0 b1 b2 b3)) ∧ Turn [] w w' := by
  go_enter Tryd.func35, Tryd.ntmps35
  go_wp2_with fail
  refine wp_loop_rounds 5 ?_
  rw [rounds_succ]
  cases b0
  · go_wp2
    rw [rounds_succ]
    cases b1
    · go_wp2
      rw [rounds_succ]
      cases b2
      · go_wp2
        rw [rounds_succ]
        cases b3
        · go_wp2
          rw [rounds_succ]
          go_wp2
          go_ret
          exact ⟨rfl, ((Turn.refl _ _).alloc _).alloc _⟩
        · go_wp2
          go_ret
          exact ⟨rfl, ((Turn.refl _ _).alloc _).alloc _⟩
      · go_wp2
        go_ret
        exact ⟨rfl, ((Turn.refl _ _).alloc _).alloc _⟩
    · go_wp2
      go_ret
      exact ⟨rfl, ((Turn.refl _ _).alloc _).alloc _⟩
  · go_wp2
    go_ret
    exact ⟨rfl, ((Turn.refl _ _).alloc _).alloc _⟩
def Row.meets (r s : Row) : Bool := B4 (r.w0 &&& s.w0 != 0) (r.w1 &&& s.w1 != 0) (r.w2 &&& s.w2 != 0) (r.w3 &&& s.w3 != 0)
theorem and_ne (a b : Nat) (ha : a < 18446744073709551616) (hb : b < 18446744073709551616) : (bits BinOp.and IntKind.u64 (a : Int) (b : Int) != 0) = (a &&& b != 0) := by
  rw [u64_and_nat a b ha hb]
  rw [Bool.eq_iff_iff]
  simp only [bne_iff_ne, ne_eq]
  omega
theorem meets_any (r s : Row) (hr : r.Fits) (hs : s.Fits) (w : World) : Calls Tryd.prog 35 #[r.val, s.val] w fun e w' => e = .returned (.bool (r.meets s)) ∧ Turn [] w w' :=
  meets_walk r.at_ r.w0 r.w1 r.w2 r.w3 s.at_ s.w0 s.w1 s.w2 s.w3 _ _ _ _ w (and_ne _ _ hr.b0 hs.b0) (and_ne _ _ hr.b1 hs.b1) (and_ne _ _ hr.b2 hs.b2) (and_ne _ _ hr.b3 hs.b3)

def mk (a w0 w1 w2 w3 : Nat) : Value := .agg #[.int .i64 a, .int .u64 w0, .int .u64 w1, .int .u64 w2, .int .u64 w3]
set_option maxHeartbeats 1000000 in
theorem without_walk (a w0 w1 w2 w3 b v0 v1 v2 v3 x0 x1 x2 x3 : Nat) (w : World)
    (h0 : bits BinOp.andNot IntKind.u64 (w0 : Int) (v0 : Int) = x0) (h1 : bits BinOp.andNot IntKind.u64 (w1 : Int) (v1 : Int) = x1)
    (h2 : bits BinOp.andNot IntKind.u64 (w2 : Int) (v2 : Int) = x2) (h3 : bits BinOp.andNot IntKind.u64 (w3 : Int) (v3 : Int) = x3) :
    Calls Tryd.prog 33 #[.agg #[.int .i64 a, .int .u64 w0, .int .u64 w1, .int .u64 w2, .int .u64 w3], .agg #[.int .i64 b, .int .u64 v0, .int .u64 v1, .int .u64 v2, .int .u64 v3]] w
      fun e w' => e = .returned (mk a x0 x1 x2 x3) ∧ Turn [] w w' := by
  go_enter Tryd.func33, Tryd.ntmps33
  go_wp2_with fail
  refine wp_loop_rounds 5 ?_
  rw [rounds_succ]
  go_wp2
  rw [rounds_succ]
  go_wp2
  rw [rounds_succ]
  go_wp2
  rw [rounds_succ]
  go_wp2
  rw [rounds_succ]
  go_wp2
  refine bodyPost_ret (v := mk a x0 x1 x2 x3) (by simp [results, Tryd.results33, go_sem, mk]) rfl ⟨rfl, ?_⟩
  exact Turn.below (by go_grown)
end Go.Proofs.YtclofjlonncnlaaDoor
