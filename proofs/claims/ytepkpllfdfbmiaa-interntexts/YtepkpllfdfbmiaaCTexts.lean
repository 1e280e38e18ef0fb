/- InternTexts: for any slice of texts and any int the law returns true, and both read behind the call as they read before. No condition. -/
import Derived.Test.YtepkpllfdfbmiaaOpen
import Derived.Test.YtepkpllfdfbmiaaLTexts
import Derived.SizedLaws
set_option linter.unusedSimpArgs false
set_option linter.unusedVariables false
namespace Go.Proofs.Ytepkpllfdfbmiaa
open Go.ChangeShapes Go.WideShapes Go.ChangeAt Go.RowKit Go.Deep

theorem weights_strs {H : Type} (P : Program) (e : TypeId) (s : ByteArray) : ∀ (l : List ByteArray), s ∈ l → s.data.toList.length ∈ DataW.weightsAll P e (l.map (fun s => (.lit (.string s.data.toList) : DataW H)))
  | [], h => by simp at h
  | x :: l, h => by
    rcases List.mem_cons.1 h with rfl | h
    · simp [DataW.weightsAll, DataW.weights]
    · have := weights_strs (H := H) P e s l h
      simp only [List.map_cons, DataW.weightsAll, List.mem_append]
      exact .inr this

/-- A slice of texts, opened, each text within what a machine holds. -/
theorem open_sts_sized {H : Type} {enc : TypeId × Value → H} {W : World} {a0 : Option Addr} {len cap : Nat} {d : DataW H} {p : List MemPlace} {ts : List TypeId} {ds : List (DataW H)}
    (h : DataW.Trod enc Try.prog W 0 (fun _ => true) true 28 (.slice a0 len cap) d p) (hz : (DataW.weightsEach Try.prog ts ds).all (· ≤ reachBytes) = true) (ht : ts[0]? = some 28) (hd : ds[0]? = some d) :
    ∃ l : List ByteArray, len = l.length ∧ len ≤ 9223372036854775807 ∧ Sts W a0 l ∧ ∀ s ∈ l, s.size ≤ 281474976710656 := by
  obtain ⟨fuel, hf⟩ := h
  rcases open_strs Try.underlying28 Try.underlying9 c9 hf with ⟨hcs, hx⟩ | ⟨a, len', cap', m, Sx, hcs, _, hl, hm, hmm, hx, hr⟩
  · simp [Value.cells] at hcs
    obtain ⟨rfl, rfl, rfl⟩ := hcs
    exact ⟨[], rfl, by omega, fun k q hq => by simp at hq, fun q hq => by simp at hq⟩
  · simp [Value.cells] at hcs
    obtain ⟨rfl, rfl, rfl⟩ := hcs
    simp only [if_true] at hmm
    subst hmm
    have hm' := hm
    simp only [maxLen] at hm'
    refine ⟨(List.range len).map Sx, by simp, by omega, ?_, ?_⟩
    · intro k y hy
      rw [List.getElem?_map] at hy
      have hk : k < len := by
        rcases Nat.lt_or_ge k len with h | h
        · exact h
        · rw [List.getElem?_eq_none (by simpa using h)] at hy; cases hy
      rw [List.getElem?_range hk] at hy
      injection hy with hy
      subst hy
      have hsp : a.spot = none := spot_none (hr 0 (by omega)).1
      obtain ⟨b, off, spot⟩ := a
      simp only at hsp
      subst hsp
      have hc := (hr k (by omega)).1
      rw [Addr.add_lit] at hc
      exact ⟨b, off, rfl, cell_lt hc, hc⟩
    · intro s hs
      injection hx with hx1 hx2
      have h1 := weights_strs (H := H) Try.prog 9 s _ hs
      rw [List.map_map] at h1
      have h2 : s.data.toList.length ∈ d.weights Try.prog 28 := by
        rw [hx1, DataW.weights, Try.underlying28]
        exact List.mem_cons_of_mem _ (List.mem_append_left _ h1)
      have h3 := List.all_eq_true.1 hz _ (DataW.weights_mem_each ht hd _ h2)
      have h4 : s.data.toList.length ≤ reachBytes := of_decide_eq_true h3
      have h5 : s.size = s.data.toList.length := Array.length_toList.symm
      unfold reachBytes at h4
      omega

set_option maxRecDepth 100000 in
theorem internTexts_lifted (os : Os) (started : os.Started) (H : Type) (enc : TypeId × Value → H) :
    ReturnsInHanded {} Try.checked os 4 .any (Rows.internTextsSpec.pre6 enc Try.prog Try.f4 Rows.internTextsRow.domain false) (Rows.internTextsSpec.post enc Try.prog Try.f4 false true false false) := by
  refine returnsInHanded_of_change_sized (C := Try.checked) try_own started (by kernel_rfl) Try.func4
    (ChangeSpec.witness6 (enc := enc) (C := Try.checked) false ⟨#[], #[.slice none 0 0, .int .i64 0], []⟩ 8 (by kernel_rfl) (by kernel_rfl) (by kernel_rfl) (by kernel_rfl)) ?_
  intro W base args ds gs before hval0 hW hcnd hz0 _
  have hval : ∀ (j : Nat) t v, Try.f4.params[j]? = some t → args[j]? = some v → Value.okWide Try.prog W .any base t v := hval0
  have hW' := hW
  obtain ⟨p, q, hA0, hV, rfl, hfz, hnd⟩ := hW
  have hA : DataW.TrodAll enc Try.prog W 0 (fun _ => true) true Try.f4.params.toList args.toList ds p := hA0
  have hz : (DataW.weightsEach Try.prog (Try.f4.params.toList ++ Rows.internTextsSpec.plain.varTypes Try.prog) (ds ++ gs)).all (· ≤ reachBytes) = true := hz0
  rw [Try.params4] at hA hval hz
  obtain ⟨v0, v1, d0, d1, p0, p1, rfl, rfl, rfl, h0, h1⟩ := trodAll_two hA
  obtain ⟨rfl, rfl⟩ := trodVars_none hV
  obtain ⟨a0, len, cap, rfl⟩ := okWide_slice Try.underlying28 (hval 0 28 v0 rfl rfl)
  obtain ⟨x, rfl, rfl, rfl, hx⟩ := open_int Try.underlying3 (hval 1 3 v1 rfl rfl) h1
  clear hA0 hval0
  simp only [List.append_nil] at hW'
  have hlt : ∀ y ∈ p0, y.block < W.heap.size := fun y hy => by simpa using hW'.lt y hy
  obtain ⟨l, rfl, hle, hR, hsz⟩ := open_sts_sized h0 hz rfl rfl
  refine (texts_law a0 cap l x W hle hsz hR).mono fun e W' ⟨he, hw⟩ => ?_
  subst he
  have hb := hw.to_below
  refine ⟨_, rfl, _, _, _, [], p0 ++ [], [], by simpa using hW', ?_, ?_, ?_, hb.frame _, fun h => by cases h⟩
  · exact trodAll_mk1 (shut_bool Try.underlying4 true)
  · exact trodAll_mk2 (Below.trod try_laidOut (by kernel_rfl) (of_decide_eq_true (by kernel_rfl)) h0 hb hlt) (shut_int Try.underlying3 hx)
  · rfl

theorem internTexts_holds : Rows.InternTextsSaid :=
  OpenClaim.holds_of_wide 4 Try.f4 rfl rfl rfl rfl rfl rfl rfl ⟨rfl, rfl, rfl, rfl, rfl⟩ rfl rfl rfl rfl rfl (by kernel_rfl) Try.func4 (by kernel_rfl)
    (of_decide_eq_true (by kernel_rfl)) (by unfold Func.isWrapper; first | (rw [if_pos (by decide +kernel)]; kernel_rfl) | (rw [if_neg (by decide +kernel)]; exact ⟨rfl, rfl⟩))
    (fun os started H enc _ => internTexts_lifted os started H enc)
end Go.Proofs.Ytepkpllfdfbmiaa
