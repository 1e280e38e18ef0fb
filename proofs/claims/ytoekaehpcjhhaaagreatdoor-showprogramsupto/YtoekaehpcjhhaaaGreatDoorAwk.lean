/- awake: the document's example. -/
import Derived.Test.YtoekaehpcjhhaaaGreatDoorShl
set_option linter.unusedSimpArgs false
set_option linter.unusedVariables false
namespace Go.Proofs.YtoekaehpcjhhaaaGreatDoor
open Go.RowKit

def exS : St := .mk 11 ⟨#[120]⟩ ⟨#[121]⟩ ⟨#[]⟩ ⟨#[]⟩ ⟨#[102]⟩ [⟨#[97]⟩, ⟨#[98]⟩] 0 [] [] 0 0
theorem exS_rows : rw1 0 exS = [(0, ⟨#[120, 32, 61, 32, 121, 46, 102, 40, 97, 44, 32, 98, 41, 59]⟩)] := by
  unfold exS
  rw [rw1_plain (by decide) (by decide) (by decide)]
  have : pl 11 ⟨#[120]⟩ ⟨#[121]⟩ ⟨#[]⟩ ⟨#[]⟩ ⟨#[102]⟩ [⟨#[97]⟩, ⟨#[98]⟩] 0 = some ⟨#[120, 32, 61, 32, 121, 46, 102, 40, 97, 44, 32, 98, 41, 59]⟩ := by decide +kernel
  rw [this]
  rfl
theorem exS_line : jn ((rw1 0 exS).map (·.2)) ⟨#[32]⟩ = ⟨#[120, 32, 61, 32, 121, 46, 102, 40, 97, 44, 32, 98, 41, 59]⟩ := by
  rw [exS_rows, List.map_cons, List.map_nil, jn_one]

set_option maxHeartbeats 2000000 in
set_option maxRecDepth 100000 in
theorem awake_any (B : Nat) (w : World) (hE : Env B w) : Calls Tryz.prog 4 #[] w fun e w' => e = .returned (.bool true) ∧ Turn [] w w' := by
  have tA := bx w #[.string ⟨#[97]⟩, .string ⟨#[98]⟩] 9
  obtain ⟨W, hW⟩ : ∃ W, w.alloc (.cells #[.string ⟨#[97]⟩, .string ⟨#[98]⟩] 9) = W := ⟨_, rfl⟩
  have hSt : Sts W (some ⟨w.heap.size, 0, none⟩) [⟨#[97]⟩, ⟨#[98]⟩] := by rw [← hW]; exact sts_new w _ _ rfl
  rw [hW] at tA
  have hWs : W.heap.size = w.heap.size + 1 := by rw [← hW]; simp
  have hR : RdS (w.heap.size + 1) W [.int .i64 11, .string ⟨#[120]⟩, .string ⟨#[121]⟩, .string ⟨#[]⟩, .string ⟨#[]⟩, .string ⟨#[102]⟩, .slice (some ⟨w.heap.size, 0, none⟩) 2 2, .int .i64 0, .slice none 0 0, .slice none 0 0, .int .i64 0, .int .i64 0] exS := by
    unfold exS RdS
    exact ⟨_, 2, none, 0, none, 0, rfl, by decide, by decide, by decide, hSt, (fun b off e _ => by injection e with e; injection e with e; omega), by unfold RdL; trivial, by unfold RdL; trivial⟩
  have HC := Lib.hid (line_any exS _ (w.heap.size + 1) W hR ((hE.turn tA (by simp)).more (by have := hE.lt; omega) (by omega))
    (by unfold exS; rw [FtS]; exact ⟨by decide, by decide, ⟨by decide, by intro a ha; simp at ha; rcases ha with rfl | rfl <;> decide⟩, by rw [FtL]; trivial, by rw [FtL]; trivial⟩)
    (by unfold exS; rw [LnS]; exact ⟨by decide, by decide, by rw [LnL]; trivial, by rw [LnL]; trivial⟩) (by rw [exS_rows]; decide) (by rw [exS_line]; decide))
  rw [exS_line] at HC
  have HT := Lib.hid tA
  have HW := Lib.hid hW
  clear tA hW hSt hWs hR hE
  go_enter Tryz.func4, Tryz.ntmps4
  go_wp2_with fail
  rw [HW.out]
  refine HC.out.mono ?_
  rintro e w1 ⟨rfl, t1⟩
  have HT1 := Lib.hid t1
  clear t1
  go_wp2_with fail
  go_ret
  exact ⟨rfl, HT.out.trans' HT1.out⟩
end Go.Proofs.YtoekaehpcjhhaaaGreatDoor
