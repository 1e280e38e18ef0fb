/- The reference's Kind. -/
import Derived.Test.YthdoihemjndmlaaDoorLx
set_option linter.unusedSimpArgs false
set_option linter.unusedVariables false
namespace Go.Proofs.YthdoihemjndmlaaDoor
open Go.RowKit

def sgL : List Nat := [123, 125, 40, 41, 91, 93, 59, 44, 61, 46, 60, 43, 45]
def kN (n : Nat) : Nat :=
  if (65 ≤ n ∧ n ≤ 90) ∨ (97 ≤ n ∧ n ≤ 122) ∨ n = 95 then 0 else if 48 ≤ n ∧ n ≤ 57 then 1 else if n ∈ sgL then 2
  else if n ∈ [32, 9, 13, 10] then 3 else if n = 35 then 4 else if n = 58 then 5 else 6

set_option maxHeartbeats 3200000 in
theorem kind_any (n : Nat) (hn : n < 256) (w : World) : Calls Tryd.prog 23 #[.int .u8 (n : Int)] w fun e w' => e = .returned (.int .i64 (kN n : Int)) ∧ w' = w := by
  go_enter Tryd.func23, Tryd.ntmps23
  go_wp2_with fail
  all_goals
    go_ret
    refine ⟨ret_int ?_, rfl⟩
    try simp only [beq_iff_eq, beq_eq_false_iff_ne, ne_eq] at *
    unfold kN sgL
    simp only [List.mem_cons, List.not_mem_nil, or_false]
    (repeat' split) <;> omega
end Go.Proofs.YthdoihemjndmlaaDoor
