/- The reference's Same and Tokens. -/
import Derived.Test.YthdoihemjndmlaaDoorSt
import Derived.Test.YthdoihemjndmlaaDoorTn
import Derived.Test.YthdoihemjndmlaaDoorPl
set_option linter.unusedSimpArgs false
set_option linter.unusedVariables false
namespace Go.Proofs.YthdoihemjndmlaaDoor
open Go.RowKit

set_option maxHeartbeats 1600000 in
theorem refSame_any (A1 A2 : Option Addr) (c1 c2 : Nat) (ts : List Tok) (w : World) (h1 : OwnT w (.slice A1 ts.length c1) ts) (h2 : OwnT w (.slice A2 ts.length c2) ts) (hl : ts.length ≤ 1000000) :
    Calls Tryd.prog 11 #[.slice A1 ts.length c1, .slice A2 ts.length c2] w fun e w' => e = .returned (.bool true) ∧ ∃ m, w' = w.drewN m := by
  obtain ⟨A1', c1', e1, hc1, hr1⟩ := h1.form
  obtain ⟨A2', c2', e2, hc2, hr2⟩ := h2.form
  injection e1 with e1 _ e1'
  injection e2 with e2 _ e2'
  subst e1 e1' e2 e2'
  have HR1 := Lib.hid hr1
  have HR2 := Lib.hid hr2
  clear hr1 hr2 h1 h2
  obtain ⟨N, hN⟩ : ∃ N, ts.length = N := ⟨_, rfl⟩
  rw [hN] at hl hc1 hc2 ⊢
  have HN := Lib.hid hN
  clear hN
  go_enter Tryd.func11, Tryd.ntmps11
  go_wp2_with fail
  go_loopw [5] (fun ti wr => ∃ i : Nat, i ≤ N ∧ ti = .int .i64 (i : Int) ∧ Hid (∃ m, wr = w.drewN m)) (fun ti _ => N - (intOf ti).toNat)
  case atStart => exact ⟨0, by omega, rfl, Lib.hid ⟨0, rfl⟩⟩
  case round =>
    obtain ⟨i, hi, rfl, HM⟩ := hrel
    by_cases hlt : i < N
    · obtain ⟨t, ht⟩ := at_lt (show i < ts.length by have := HN.out; omega)
      obtain ⟨g1, rfl, hg1, hcell1⟩ := HR1.out i t ht
      obtain ⟨g2, rfl, hg2, hcell2⟩ := HR2.out i t ht
      have hcw : ∀ p, wr.cell? p = w.cell? p := fun p => by
        obtain ⟨m, e⟩ := HM.out
        rw [e]
        rfl
      obtain ⟨kd, tx, l, c⟩ := t
      have x0 : wr.cell? ⟨g1, i * 4, none⟩ = some (.int .i64 (kd : Int)) := (hcw _).trans (hcell1 0 _ rfl)
      have x1 : wr.cell? ⟨g1, i * 4 + 1, none⟩ = some (.string ⟨tx.toArray⟩) := (hcw _).trans (hcell1 1 _ rfl)
      have x2 : wr.cell? ⟨g1, i * 4 + 2, none⟩ = some (.int .i64 (l : Int)) := (hcw _).trans (hcell1 2 _ rfl)
      have x3 : wr.cell? ⟨g1, i * 4 + 3, none⟩ = some (.int .i64 (c : Int)) := (hcw _).trans (hcell1 3 _ rfl)
      have y0 : wr.cell? ⟨g2, i * 4, none⟩ = some (.int .i64 (kd : Int)) := (hcw _).trans (hcell2 0 _ rfl)
      have y1 : wr.cell? ⟨g2, i * 4 + 1, none⟩ = some (.string ⟨tx.toArray⟩) := (hcw _).trans (hcell2 1 _ rfl)
      have y2 : wr.cell? ⟨g2, i * 4 + 2, none⟩ = some (.int .i64 (l : Int)) := (hcw _).trans (hcell2 2 _ rfl)
      have y3 : wr.cell? ⟨g2, i * 4 + 3, none⟩ = some (.int .i64 (c : Int)) := (hcw _).trans (hcell2 3 _ rfl)
      have d1 : decide ((i : Int) < (N : Int)) = true := by simp; omega
      have d2 : (i : Int) < (N : Int) := by omega
      clear hcell1 hcell2 hcw ht
      go_wp2_with fail
      go_quiet (fail)
      go_wp2_with fail
      go_roundw
      case rel =>
        refine ⟨i + 1, by omega, by go_num, Lib.hid ?_⟩
        obtain ⟨m, e⟩ := HM.out
        exact ⟨_, by rw [e, World.drewN_drewN]⟩
      case measure => simp [intOf]; omega
    · obtain rfl : i = N := by omega
      have d1 : decide ((i : Int) < (i : Int)) = false := by simp
      go_wp2_with fail
      go_ret
      exact ⟨rfl, HM.out⟩
end Go.Proofs.YthdoihemjndmlaaDoor
