/- HierTells's card: for every program, every slice of ints and every text the law returns true, and all three read behind the call as they read before, on the condition that the listed table reads as the program's text lays it (tied by the card). -/
import Derived.Test.YtjnphoeifonenaaDoorQ10Opk
import Derived.Test.YtjnphoeifonenaaDoorQ23LTe
import Derived.Test.YtjnphoeifonenaaDoorTie
import Derived.Test.YtjnphoeifonenaaDoorCards
import Derived.SevenTiedAt
import Derived.ChangeMaps5

set_option linter.unusedSimpArgs false
set_option linter.unusedVariables false
namespace Go.Proofs.YtjnphoeifonenaaDoor
open Go.ChangeMaps Go.ChangeShapes Go.WideShapes Go.ChangeAt Go.RowKit

/-- A program with nothing in it: the witness. -/
def none3 : Value := .agg #[.slice none 0 0, .string ⟨#[]⟩, .string ⟨#[]⟩, .bool false, .bool false, .slice none 0 0, .slice none 0 0, .slice none 0 0, .int .i64 0, .int .i64 0]
set_option maxRecDepth 100000 in
theorem tells_lifted (os : Os) (started : os.Started) (H : Type) (enc : TypeId × Value → H) :
    ReturnsInHanded {} Tryd.checked os 4 .any (fun w args => (Rows.hierTellsSpec.pre enc Tryd.prog Tryd.f4 [] false w args ∧ laidMetH Tryd.prog doorLaidList w) ∧ sizedMet enc Tryd.prog Tryd.f4 (OpenSpec.ofChange Rows.hierTellsSpec) false w args)
      (Rows.hierTellsSpec.post enc Tryd.prog Tryd.f4 false true false false) := by
  refine returnsInHanded_of_change_and (C := Tryd.checked) (X := fun w _ => laidMetH Tryd.prog doorLaidList w) (fun _ _ _ hh h => h.of_heap hh) door_own started (by kernel_rfl) Tryd.func4
    (ChangeSpec.witness_shaped (enc := enc) (C := Tryd.checked) (os := os) (X := fun w _ => laidMetH Tryd.prog doorLaidList w) false (World.doorLaid Tryd.prog 400 os) #[none3, .slice none 0 0, .string ⟨#[]⟩] 8 rfl (World.shaped_of_RefB (by kernel_rfl) (by kernel_rfl)) (by kernel_rfl) (by kernel_rfl) (by kernel_rfl) (door_met os _)) ?_
  intro W base args ds gs before hval0 hW _ hz0 hL _
  have hval : ∀ (j : Nat) t v, Tryd.f4.params[j]? = some t → args[j]? = some v → Value.okWide Tryd.prog W .any base t v := hval0
  have hW' := hW
  obtain ⟨p, q, hA0, hV, rfl, hfz, hnd⟩ := hW
  have hA : DataW.TrodAll enc Tryd.prog W 0 (fun _ => true) true Tryd.f4.params.toList args.toList ds p := hA0
  have hz : (DataW.weightsEach Tryd.prog (Tryd.f4.params.toList ++ Rows.hierTellsSpec.plain.varTypes Tryd.prog) (ds ++ gs)).all (· ≤ reachBytes) = true := hz0
  rw [Tryd.params4] at hA hval hz
  obtain ⟨v0, v1, v2, d0, d1, d2, p0, p1, p2, rfl, rfl, rfl, h0, h1, h2⟩ := trodAll_three hA
  obtain ⟨rfl, rfl⟩ := trodVars_none hV
  have hLite0 : Lite d0 30 := fun k hk => of_decide_eq_true (List.all_eq_true.1 hz k (DataW.weights_mem_each (ts := [30, 40, 9] ++ Rows.hierTellsSpec.plain.varTypes Tryd.prog) (j := 0) rfl rfl k hk))
  have hLite2 : Lite d2 9 := fun k hk => of_decide_eq_true (List.all_eq_true.1 hz k (DataW.weights_mem_each (ts := [30, 40, 9] ++ Rows.hierTellsSpec.plain.varTypes Tryd.prog) (j := 2) rfl rfl k hk))
  obtain ⟨a0, rfl, _⟩ := okWide_struct Tryd.underlying30 (hval 0 30 v0 rfl rfl)
  obtain ⟨a1, len1, cap1, rfl⟩ := okWide_slice Tryd.underlying40 (hval 1 40 v1 rfl rfl)
  obtain ⟨sx, rfl, rfl, rfl, hsx⟩ := open_string Tryd.underlying9 (hval 2 9 v2 rfl rfl) h2
  have hsz := lite_str hLite2
  have hT := of_laid hL
  clear hA0 hval0
  simp only [List.append_nil] at hW'
  have hlt : ∀ y ∈ p0, y.block < W.heap.size := fun y hy => by simpa using hW'.lt y (by simp [hy])
  have hlt1 : ∀ y ∈ p1, y.block < W.heap.size := fun y hy => by simpa using hW'.lt y (by simp [hy])
  obtain ⟨l1, hlen1, hle1, hI1, hwf1, -, -⟩ := open_row h1 hlt1
  have h0' := h0
  obtain ⟨fuel0, hf0⟩ := h0
  obtain ⟨A, l, c, m0, m1, m2, m3, m4, m5, m6, m7, m8, hcs, hok, hrd⟩ := open_program hf0 hLite0
  simp only [Value.cells] at hcs
  obtain rfl : a0 = #[.slice A l.length c, m0, m1, m2, m3, m4, m5, m6, m7, m8] := Array.toList_inj.1 hcs
  refine (tells_law A c W.heap.size l m0 m1 m2 m3 m4 m5 m6 m7 m8 a1 len1 cap1 l1 sx W hrd (Nat.le_refl _) hok hI1 hlen1 hsz hT).mono fun e W' ⟨he, hw⟩ => ?_
  subst he
  have hb := hw.to_below
  refine ⟨_, rfl, _, _, _, [], p0 ++ (p1 ++ []), [], by simpa using hW', ?_, ?_, ?_, hb.frame _, fun h => by cases h⟩
  · exact trodAll_mk1 (shut_bool Tryd.underlying4 true)
  · exact trodAll_mk3 (Below.trod door_laidOut (by kernel_rfl) (of_decide_eq_true (by kernel_rfl)) h0' hb hlt) (Below.trod door_laidOut (by kernel_rfl) (of_decide_eq_true (by kernel_rfl)) h1 hb hlt1) (shut_string Tryd.underlying9 hsx)
  · rfl

theorem tells_holds : Rows.HierTellsSaid :=
  OpenClaim.holds_of_wide 4 Tryd.f4 rfl rfl rfl rfl rfl rfl rfl ⟨rfl, rfl, rfl, rfl, rfl⟩ rfl rfl rfl rfl rfl (by kernel_rfl) Tryd.func4 (by kernel_rfl)
    (of_decide_eq_true (by kernel_rfl)) (by unfold Func.isWrapper; first | (rw [if_pos (by decide +kernel)]; kernel_rfl) | (rw [if_neg (by decide +kernel)]; exact ⟨rfl, rfl⟩))
    (fun os started H enc _ => tells_lifted os started H enc)

theorem hierTells_card : Rows.HierTellsCardSaid :=
  Claim7.holds_tied_plain_at .later [] [.data] true (true, "596e51c0a0976ae7c47d9373868b1a487986e43a21f66ff89f1289aab27726ce") true
    tells_holds (fun _ h => by cases h) (by kernel_rfl) (fun _ h => by cases h) hierTells_row_tie rfl ⟨rfl, rfl⟩ (by kernel_rfl) rfl
    (fun f fn hf hfn => by
      obtain rfl : f = 4 := Option.some.inj ((show Tryd.prog.funcNamed Rows.hierTellsRow.func = some 4 by kernel_rfl).symm.trans hf) |>.symm
      obtain rfl : fn = Tryd.f4 := (Option.some.inj (Tryd.func4.symm.trans hfn)).symm
      exact ⟨by kernel_rfl, fun j t ht => by
        rw [Tryd.params4] at ht
        have hm : t ∈ [30, 40, 9] := by simpa using Array.mem_of_getElem? ht
        have hall : ([30, 40, 9].all fun u => !Tryd.prog.wantsStandIn u) = true := by kernel_rfl
        exact (show Tryd.prog.wantsStandIn t = false by simpa using List.all_eq_true.1 hall t hm)⟩)
    (by kernel_rfl)
end Go.Proofs.YtjnphoeifonenaaDoor
