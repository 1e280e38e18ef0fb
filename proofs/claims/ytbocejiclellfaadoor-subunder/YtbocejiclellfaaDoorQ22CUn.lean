/- SubUnder's card: for every program the law returns true, and it reads behind the call as it read before, on the condition that the listed table reads as the program's text lays it (tied by the card). -/
import Derived.Test.YtbocejiclellfaaDoorQ16Opk
import Derived.Test.YtbocejiclellfaaDoorQ21LUn
import Derived.Test.YtbocejiclellfaaDoorTie
import Derived.Test.YtbocejiclellfaaDoorCards
import Derived.SevenTiedAt

set_option linter.unusedSimpArgs false
set_option linter.unusedVariables false
namespace Go.Proofs.YtbocejiclellfaaDoor
open Go.ChangeShapes Go.WideShapes Go.ChangeAt Go.RowKit

/-- A program with nothing in it: the witness. -/
def noneCUn : Value := .agg #[.slice none 0 0, .string ⟨#[]⟩, .string ⟨#[]⟩, .bool false, .bool false, .slice none 0 0, .slice none 0 0, .slice none 0 0, .int .i64 0, .int .i64 0]
set_option maxRecDepth 100000 in
theorem subUnder_lifted (os : Os) (started : os.Started) (H : Type) (enc : TypeId × Value → H) :
    ReturnsInHanded {} Tryd.checked os 4 .any (fun w args => (Rows.subUnderSpec.pre enc Tryd.prog Tryd.f4 [] false w args ∧ laidMetH Tryd.prog doorLaidList w) ∧ sizedMet enc Tryd.prog Tryd.f4 (OpenSpec.ofChange Rows.subUnderSpec) false w args)
      (Rows.subUnderSpec.post enc Tryd.prog Tryd.f4 false true false false) := by
  refine returnsInHanded_of_change_and (C := Tryd.checked) (X := fun w _ => laidMetH Tryd.prog doorLaidList w) (fun _ _ _ hh h => h.of_heap hh) door_own started (by kernel_rfl) Tryd.func4
    (ChangeSpec.witness_shaped (enc := enc) (C := Tryd.checked) (os := os) (X := fun w _ => laidMetH Tryd.prog doorLaidList w) false (World.doorLaid Tryd.prog 400 os) #[noneCUn] 8 rfl (World.shaped_of_RefB (by kernel_rfl) (by kernel_rfl)) (by kernel_rfl) (by kernel_rfl) (by kernel_rfl) (door_met os _)) ?_
  intro W base args ds gs before hval0 hW _ hz0 hL _
  have hval : ∀ (j : Nat) t v, Tryd.f4.params[j]? = some t → args[j]? = some v → Value.okWide Tryd.prog W .any base t v := hval0
  have hW' := hW
  obtain ⟨p, q, hA0, hV, rfl, hfz, hnd⟩ := hW
  have hA : DataW.TrodAll enc Tryd.prog W 0 (fun _ => true) true Tryd.f4.params.toList args.toList ds p := hA0
  have hz : (DataW.weightsEach Tryd.prog (Tryd.f4.params.toList ++ Rows.subUnderSpec.plain.varTypes Tryd.prog) (ds ++ gs)).all (· ≤ reachBytes) = true := hz0
  rw [Tryd.params4] at hA hval hz
  obtain ⟨v0, d0, rfl, rfl, h0⟩ := trodAll_one hA
  obtain ⟨rfl, rfl⟩ := trodVars_none hV
  have hLite0 : Lite d0 30 := fun k hk => of_decide_eq_true (List.all_eq_true.1 hz k (DataW.weights_mem_each (ts := [30] ++ Rows.subUnderSpec.plain.varTypes Tryd.prog) (j := 0) rfl rfl k hk))
  obtain ⟨a0, rfl, _⟩ := okWide_struct Tryd.underlying30 (hval 0 30 v0 rfl rfl)
  have hT := of_laid hL
  clear hA0 hval0
  simp only [List.append_nil] at hW'
  have hlt : ∀ y ∈ p, y.block < W.heap.size := fun y hy => by simpa using hW'.lt y hy
  have h0' := h0
  obtain ⟨fuel0, hf0⟩ := h0
  obtain ⟨A, l, c, m0, m1, m2, m3, m4, m5, m6, m7, m8, hcs, hok, hrd⟩ := open_program hf0 hLite0
  simp only [Value.cells] at hcs
  obtain rfl : a0 = #[.slice A l.length c, m0, m1, m2, m3, m4, m5, m6, m7, m8] := Array.toList_inj.1 hcs
  refine (subunder_law A c W.heap.size l m0 m1 m2 m3 m4 m5 m6 m7 m8 W hrd (Nat.le_refl _) hok hT).mono fun e W' ⟨he, hw⟩ => ?_
  subst he
  have hb := hw.to_below
  refine ⟨_, rfl, _, _, _, [], p, [], hW', ?_, ?_, ?_, hb.frame _, fun h => by cases h⟩
  · exact trodAll_mk1 (shut_bool Tryd.underlying4 true)
  · exact trodAll_mk1 (Below.trod door_laidOut (by kernel_rfl) (of_decide_eq_true (by kernel_rfl)) h0' hb hlt)
  · rfl

theorem subUnder_holds : Rows.SubUnderSaid :=
  OpenClaim.holds_of_wide 4 Tryd.f4 rfl rfl rfl rfl rfl rfl rfl ⟨rfl, rfl, rfl, rfl, rfl⟩ rfl rfl rfl rfl rfl (by kernel_rfl) Tryd.func4 (by kernel_rfl)
    (of_decide_eq_true (by kernel_rfl)) (by unfold Func.isWrapper; first | (rw [if_pos (by decide +kernel)]; kernel_rfl) | (rw [if_neg (by decide +kernel)]; exact ⟨rfl, rfl⟩))
    (fun os started H enc _ => subUnder_lifted os started H enc)

theorem subUnder_card : Rows.SubUnderCardSaid :=
  Claim7.holds_tied_plain_at .later [] [.data] true (true, "0d022799ddc0b8d21ed602f7f809640109bfd5fa08b6896bf2ea4fa9e4da0833") true
    subUnder_holds (fun _ h => by cases h) (by kernel_rfl) (fun _ h => by cases h) subUnder_row_tie rfl ⟨rfl, rfl⟩ (by kernel_rfl) rfl
    (fun f fn hf hfn => by
      obtain rfl : f = 4 := Option.some.inj ((show Tryd.prog.funcNamed Rows.subUnderRow.func = some 4 by kernel_rfl).symm.trans hf) |>.symm
      obtain rfl : fn = Tryd.f4 := (Option.some.inj (Tryd.func4.symm.trans hfn)).symm
      exact ⟨by kernel_rfl, fun j t ht => by
        rw [Tryd.params4] at ht
        have hm : t ∈ [30] := by simpa using Array.mem_of_getElem? ht
        have hall : ([30].all fun u => !Tryd.prog.wantsStandIn u) = true := by kernel_rfl
        exact (show Tryd.prog.wantsStandIn t = false by simpa using List.all_eq_true.1 hall t hm)⟩)
    (by kernel_rfl)
end Go.Proofs.YtbocejiclellfaaDoor
