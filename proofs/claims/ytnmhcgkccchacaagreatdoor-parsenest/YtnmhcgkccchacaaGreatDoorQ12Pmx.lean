import Derived.Test.YtnmhcgkccchacaaGreatDoorQ11Pmb

/- The texts of lists, laid one behind the other. -/
set_option linter.unusedSimpArgs false
set_option linter.unusedVariables false
set_option maxRecDepth 100000
namespace Go.Proofs.YtnmhcgkccchacaaGreatDoor
open Go.RowKit

theorem mk_app (a b : List UInt8) : mk a ++ mk b = mk (a ++ b) := by
  apply ByteArray.ext
  simp [mk, ByteArray.data_append]
theorem repT_snoc (l : List UInt8) : ∀ n, repT n l ++ l = repT (n + 1) l
  | 0 => by simp [repT]
  | n + 1 => by
    show (l ++ repT n l) ++ l = l ++ repT (n + 1) l
    rw [List.append_assoc, repT_snoc l n]
theorem pm_next (j q : Nat) : mk (pmH j ++ repT q (pmO j)) ++ mk (pmO j) = mk (pmH j ++ repT (q + 1) (pmO j)) := by
  rw [mk_app, List.append_assoc, repT_snoc]
theorem pm_tail (j q : Nat) : mk (pmH j ++ repT q (pmO j)) ++ mk (pmT j) = mk (pmText j q) := by
  rw [mk_app]
  rfl
theorem repT_len (l : List UInt8) : ∀ n, (repT n l).length = n * l.length
  | 0 => by simp [repT]
  | n + 1 => by
    rw [show repT (n + 1) l = l ++ repT n l from rfl, List.length_append, repT_len l n, Nat.add_mul]
    omega
theorem pm_size (j q : Nat) (h : q ≤ 90) : (mk (pmH j ++ repT q (pmO j))).size ≤ 10000 := by
  have h1 : (pmH j).length ≤ 20 := by unfold pmH; split <;> decide
  have h2 : (pmO j).length ≤ 30 := by unfold pmO; split <;> decide
  have h3 : q * (pmO j).length ≤ 90 * 30 := Nat.mul_le_mul h h2
  rw [Lib.size_eq]
  simp only [mk, List.length_append, repT_len]
  omega
end Go.Proofs.YtnmhcgkccchacaaGreatDoor
