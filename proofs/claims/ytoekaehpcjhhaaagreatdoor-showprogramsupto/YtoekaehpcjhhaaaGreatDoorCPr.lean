/- ShowPrograms's card, second form: for any two programs of at most the given bulk the law returns true and what came in reads behind the call as it read before, on the condition that the listed tables read as the program's text lays them (tied by the card). -/
import Derived.Test.YtoekaehpcjhhaaaGreatDoorOpm
import Derived.Test.YtoekaehpcjhhaaaGreatDoorOpp
import Derived.Test.YtoekaehpcjhhaaaGreatDoorLPr
import Derived.Test.YtoekaehpcjhhaaaGreatDoorTie
import Derived.Test.YtoekaehpcjhhaaaGreatDoorCards
import Derived.Deep.DeepHandedRow
import Derived.SevenTiedAt
import Derived.Lay
import Derived.Shelf.Vars
set_option linter.unusedSimpArgs false
set_option linter.unusedVariables false
namespace Go.Proofs.YtoekaehpcjhhaaaGreatDoor
open Go.ChangeShapes Go.WideShapes Go.ChangeAt Go.RowKit Go.ChangeMaps

def laidU : List (String × DataW Unit) := Rows.showProgramsUptoRow.laid
theorem laid_same : laidU = laidA := rfl
theorem max_cell {W : World} (h : W.ShapedOpen Tryz.prog) : ∃ m, W.cell? ⟨0, 0, none⟩ = some (.int .i64 m) :=
  cell_of_shapedOpen_int (zero := #[.int .i64 0]) (t := 3) h (of_decide_eq_true (by kernel_rfl)) (by kernel_rfl) rfl (by kernel_rfl) (by kernel_rfl) Tryz.underlying3

set_option maxRecDepth 100000 in
theorem programs_contract (H : Type) (enc : TypeId × Value → H) (W : World) (base : Nat) (args : Array Value) (ds gs : List (DataW H)) (before : List MemPlace)
    (hval0 : ∀ (j : Nat) t v, Tryz.f3.params[j]? = some t → args[j]? = some v → Value.okWide Tryz.prog W .any base t v)
    (hW : DataW.Whole enc Tryz.prog Tryz.f3.params.toList Rows.showProgramsSpec.vars false W args.toList ds gs before)
    (hk : Rows.uptoSmall H (ds ++ gs) = true)
    (hz0 : (DataW.weightsEach Tryz.prog (Tryz.f3.params.toList ++ Rows.showProgramsSpec.plain.varTypes Tryz.prog) (ds ++ gs)).all (· ≤ reachBytes) = true)
    (hL : laidMetH Tryz.prog laidA W) (hsh : W.ShapedOpen Tryz.prog) :
    Calls Tryz.prog 3 args W fun e W' => ∃ v, e = .returned v ∧ Rows.showProgramsSpec.post enc Tryz.prog Tryz.f3 false true false false W args v W' := by
  have hval : ∀ (j : Nat) t v, Tryz.f3.params[j]? = some t → args[j]? = some v → Value.okWide Tryz.prog W .any base t v := hval0
  have hW' := hW
  obtain ⟨p, q, hA0, hV, rfl, hfz, hnd⟩ := hW
  have hA : DataW.TrodAll enc Tryz.prog W 0 (fun _ => true) true Tryz.f3.params.toList args.toList ds p := hA0
  have hz : (DataW.weightsEach Tryz.prog (Tryz.f3.params.toList ++ Rows.showProgramsSpec.plain.varTypes Tryz.prog) (ds ++ gs)).all (· ≤ reachBytes) = true := hz0
  rw [Tryz.params3] at hA hval hz
  obtain ⟨v0, v1, d0, d1, p0, p1, rfl, rfl, rfl, h0, h1⟩ := trodAll_two hA
  obtain ⟨rfl, rfl⟩ := trodVars_none hV
  obtain ⟨hP, hg⟩ := of_laidA hL
  obtain ⟨m, hm⟩ := max_cell hsh
  have hb0 : Rows.uptoBulkAll ([d0, d1] ++ []) ≤ 1048576 := of_decide_eq_true hk
  have hS0 : Slim d0 := Nat.le_trans (bulk_part (by simp)) hb0
  have hS1 : Slim d1 := Nat.le_trans (bulk_part (by simp)) hb0
  have hLite0 : Lite d0 30 := fun k hk => of_decide_eq_true (List.all_eq_true.1 hz k (DataW.weights_mem_each (ts := [30, 30] ++ Rows.showProgramsSpec.plain.varTypes Tryz.prog) (j := 0) rfl rfl k hk))
  have hLite1 : Lite d1 30 := fun k hk => of_decide_eq_true (List.all_eq_true.1 hz k (DataW.weights_mem_each (ts := [30, 30] ++ Rows.showProgramsSpec.plain.varTypes Tryz.prog) (j := 1) rfl rfl k hk))
  obtain ⟨a0, rfl, _⟩ := okWide_struct Tryz.underlying30 (hval 0 30 v0 rfl rfl)
  obtain ⟨a1, rfl, _⟩ := okWide_struct Tryz.underlying30 (hval 1 30 v1 rfl rfl)
  have h0' := h0
  have h1' := h1
  obtain ⟨fuel0, hf0⟩ := h0
  obtain ⟨fuel1, hf1⟩ := h1
  obtain ⟨P0, r0, o0⟩ := open_program hf0 hLite0 hS0
  obtain ⟨P1, r1, o1⟩ := open_program hf1 hLite1 hS1
  simp only [Value.cells] at r0 r1
  clear hA0 hval0
  simp only [List.append_nil] at hW'
  have hlt0 : ∀ y ∈ p0, y.block < W.heap.size := fun y hy => by simpa using hW'.lt y (by simp [hy])
  have hlt1 : ∀ y ∈ p1, y.block < W.heap.size := fun y hy => by simpa using hW'.lt y (by simp [hy])
  have key := programs_law a0.toList a1.toList P0 P1 m W r0 r1 o0 o1 ⟨Nat.le_refl _, hg, hP⟩ hm
  rw [Array.toArray_toList, Array.toArray_toList] at key
  refine key.mono fun e W' ⟨he, hw⟩ => ?_
  subst he
  have hb := hw.to_below
  refine ⟨_, rfl, _, _, _, [], p0 ++ p1, [], by simpa using hW', ?_, ?_, ?_, hb.frame _, fun h => by cases h⟩
  · exact trodAll_mk1 (shut_bool Tryz.underlying4 true)
  · exact trodAll_mk2 (Below.trod door_laidOut (by kernel_rfl) (of_decide_eq_true (by kernel_rfl)) h0' hb hlt0) (Below.trod door_laidOut (by kernel_rfl) (of_decide_eq_true (by kernel_rfl)) h1' hb hlt1)
  · rfl

/-- A program with nothing in it: the witness. -/
def none1 : Value := .agg #[.slice none 0 0, .string ⟨#[]⟩, .string ⟨#[]⟩, .bool false, .bool false, .slice none 0 0, .slice none 0 0, .slice none 0 0, .int .i64 0, .int .i64 0]
def none2 (H : Type) : DataW H := .agg [.nil, .agg [.lit (.string []), .lit (.string []), .lit (.bool false), .lit (.bool false), .nil, .nil, .nil, .agg [.lit (.int .i64 0), .lit (.int .i64 0)]]]
theorem none_reads (os : Os) {H : Type} (enc : TypeId × Value → H) : ∃ places, DataW.whole enc Tryz.prog ((World.laidAll Tryz.prog os laidA).forCall (fun _ _ => 0) ⟨#[], #[none1, none1], []⟩).memory Tryz.f3.params.toList Rows.showProgramsSpec.vars false #[none1, none1].toList 8 = some ([none2 H, none2 H], [], places) :=
  ⟨[], by kernel_rfl⟩

set_option maxRecDepth 100000 in
theorem showPrograms_lifted (os : Os) (started : os.Started) (H : Type) (enc : TypeId × Value → H) (F : Stop.Interp) :
    ReturnsInHanded {} Tryz.checked os 3 .any ((Rows.OpenSpec.upto Rows.showProgramsSpec).preRow enc Tryz.prog Tryz.f3 Rows.showProgramsUptoRow.domain false Rows.showProgramsUptoRow.laid) (((Rows.OpenSpec.upto Rows.showProgramsSpec).at F).post enc Tryz.prog Tryz.f3 false true false false) := by
  obtain ⟨places, hx⟩ := none_reads os enc
  have hok : Input.okWideB Tryz.checked.prog ((World.laidAll Tryz.prog os laidA).forCall (fun _ _ => 0) ⟨#[], #[none1, none1], []⟩) 3 ⟨#[], #[none1, none1], []⟩ = true := by kernel_rfl
  refine returnsInHanded_of_row (C := Tryz.checked) (s := Rows.OpenSpec.upto Rows.showProgramsSpec) door_own started (by kernel_rfl) Tryz.func3
    ⟨World.laidAll Tryz.prog os laidA, fun _ _ => 0, ⟨#[], #[none1, none1], []⟩, World.laidAll_os _ _ _, World.shaped_of_ZipB (by kernel_rfl) (by kernel_rfl), (Input.okWide_of_okWideB (base := 0) hok).1, (Input.okWide_of_okWideB hok).2,
      OpenSpec.preRow_of_cond 8 hx (by kernel_rfl) (fun k hk => by cases hk; kernel_rfl) (by kernel_rfl) (by rw [MakeChecks.laidMetH_plain _ _ _ (by kernel_rfl)]; exact laidMet_laidAll (laid := laidA) _ (by kernel_rfl) (by kernel_rfl)), by
        simp only [Assume.holds]
        exact ⟨by simp, by simp, by simp, by simp, by simp⟩⟩ ?_
  intro W base args ds gs before hval hW _ hcond hz hL hsh _
  exact programs_contract H enc W base args ds gs before hval hW (hcond _ rfl) hz hL hsh

theorem showPrograms_holds : Rows.ShowProgramsUptoSaid :=
  OpenClaim.holds_of_cond 3 Tryz.f3 rfl rfl rfl rfl rfl rfl rfl ⟨rfl, rfl, rfl, rfl, rfl⟩ rfl rfl rfl rfl rfl (by kernel_rfl) Tryz.func3 (by kernel_rfl)
    (of_decide_eq_true (by kernel_rfl)) (by unfold Func.isWrapper; first | (rw [if_pos (by decide +kernel)]; kernel_rfl) | (rw [if_neg (by decide +kernel)]; exact ⟨rfl, rfl⟩))
    (fun os started H enc _ F => by rw [OpenClaim.pre_eq_preRow]; exact showPrograms_lifted os started H enc F)

theorem showPrograms_card : Rows.ShowProgramsUptoCardSaid :=
  Claim7.holds_tied_plain_at .later [] [.data, .data, .data, .data, .pinned] true (true, "eba3c5ac5a564c8b3f00f8f02e0c6cf9c3c55572b859df7be685dd12d81795c3") false
    showPrograms_holds (fun _ h => by cases h) (by kernel_rfl) (fun _ h => by cases h) showProgramsUpto_row_tie rfl ⟨rfl, rfl⟩ (by kernel_rfl) rfl
    (fun f fn hf hfn => by
      obtain rfl : f = 3 := Option.some.inj ((show Tryz.prog.funcNamed Rows.showProgramsUptoRow.func = some 3 by kernel_rfl).symm.trans hf) |>.symm
      obtain rfl : fn = Tryz.f3 := (Option.some.inj (Tryz.func3.symm.trans hfn)).symm
      exact ⟨by kernel_rfl, fun j t ht => by
        rw [Tryz.params3] at ht
        have hm : t ∈ [30, 30] := by simpa using Array.mem_of_getElem? ht
        have hall : ([30, 30].all fun u => !Tryz.prog.wantsStandIn u) = true := by kernel_rfl
        exact (show Tryz.prog.wantsStandIn t = false by simpa using List.all_eq_true.1 hall t hm)⟩)
    (by kernel_rfl)
end Go.Proofs.YtoekaehpcjhhaaaGreatDoor
