/- awake: the document's example; Tokens where the answer is known. -/
import Derived.Test.YthdoihemjndmlaaDoorTn
set_option linter.unusedSimpArgs false
set_option linter.unusedVariables false
namespace Go.Proofs.YthdoihemjndmlaaDoor
open Go.RowKit

theorem tokens_good (hr : ReadSaid) (s : ByteArray) (w : World) (hS : Sg w) (ts : List Tok) (p : Nat × Nat) (h : tokR s.data.toList = .good ts p) :
    Calls Tryd.prog 9 #[.string s] w fun e w' => ∃ V, e = .returned (goodV V p) ∧ Turn [] w w' ∧ OwnT w' V ts ∧ (∀ g, V.ownBlock = some g → w.heap.size ≤ g) := by
  refine (tokens_any hr s w hS).mono ?_
  rintro e w' ⟨t, ⟨x, l, c, h1, _, _⟩ | ⟨ts', p', V, h1, h2, h3, rfl⟩⟩
  · rw [h] at h1
    cases h1
  · rw [h] at h1
    injection h1 with h1 h1'
    subst h1 h1'
    exact ⟨V, rfl, t, h2, h3⟩
theorem tokens_bad (hr : ReadSaid) (s : ByteArray) (w : World) (hS : Sg w) (x l c : Nat) (h : tokR s.data.toList = .bad x l c) :
    Calls Tryd.prog 9 #[.string s] w fun e w' => e = .returned (badV x l c) ∧ Turn [] w w' ∧ x ≠ 0 := by
  refine (tokens_any hr s w hS).mono ?_
  rintro e w' ⟨t, ⟨x', l', c', h1, h2, rfl⟩ | ⟨ts', p', V, h1, h2, h3, rfl⟩⟩
  · rw [h] at h1
    injection h1 with e1 e2 e3
    subst e1 e2 e3
    exact ⟨rfl, t, h2⟩
  · rw [h] at h1
    cases h1

set_option maxHeartbeats 1600000 in
theorem awake_any (hr : ReadSaid) (w : World) (hS : Sg w) : Calls Tryd.prog 8 #[] w fun e w' => e = .returned (.bool true) ∧ Turn [] w w' := by
  have HS := Lib.hid hS
  have HR := Lib.hid hr
  clear hS hr
  go_enter Tryd.func8, Tryd.ntmps8
  go_wp2_with fail
  refine (tokens_good HR.out ⟨#[120, 32, 61, 32, 121, 46, 102, 59]⟩ w HS.out _ _ (show tokR [120, 32, 61, 32, 121, 46, 102, 59] = _ from lxs_awake)).mono ?_
  rintro e w1 ⟨V, rfl, t1, hV, hg⟩
  obtain ⟨A, c, rfl, hc, hrow⟩ := hV.form
  obtain ⟨g, rfl, hgl, hcell⟩ := hrow 1 _ rfl
  have k0 : w1.cell? ⟨g, 4, none⟩ = some (.int .i64 2) := hcell 0 _ rfl
  have k1 : w1.cell? ⟨g, 5, none⟩ = some (.string ⟨#[61]⟩) := hcell 1 _ rfl
  have k2 : w1.cell? ⟨g, 6, none⟩ = some (.int .i64 1) := hcell 2 _ rfl
  have k3 : w1.cell? ⟨g, 7, none⟩ = some (.int .i64 3) := hcell 3 _ rfl
  have HT1 := Lib.hid t1
  clear hcell hrow hV t1 hg
  have n0 := World.new_ne w1 ⟨g, 4, none⟩ k0
  simp only [goodV, List.length_cons, List.length_nil]
  go_wp2_with fail
  go_ret
  exact ⟨rfl, (((HT1.out).alloc _).alloc _)⟩
end Go.Proofs.YthdoihemjndmlaaDoor
