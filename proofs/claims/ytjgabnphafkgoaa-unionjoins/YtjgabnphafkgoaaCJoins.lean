/- UnionJoins: for every int, every slice of slices of ints and every slice of ints the law returns true, and all three read behind the call as they read before. No condition. -/
import Derived.Test.YtjgabnphafkgoaaOpen
import Derived.Test.YtjgabnphafkgoaaLJoins
set_option linter.unusedSimpArgs false
set_option linter.unusedVariables false
namespace Go.Proofs.Ytjgabnphafkgoaa
open Go.ChangeShapes Go.WideShapes Go.ChangeAt Go.RowKit Go.Deep

/-- A slice of ints, opened: its length is bounded and it reads as a list. -/
theorem open_row {H : Type} {enc : TypeId × Value → H} {W : World} {a0 : Option Addr} {len cap : Nat} {d : DataW H} {p : List MemPlace}
    (h : DataW.Trod enc Try.prog W 0 (fun _ => true) true 23 (.slice a0 len cap) d p) (hlt : ∀ x ∈ p, x.block < W.heap.size) :
    ∃ l : List Int, len = l.length ∧ len ≤ 9223372036854775807 ∧ Ints W a0 l ∧ (∀ y ∈ l, (Lit.int .i64 y).wf = true) ∧ cap ≤ 9223372036854775807 ∧ len ≤ cap := by
  obtain ⟨fuel, hf⟩ := h
  rcases open_ints Try.underlying23 Try.underlying3 (by kernel_rfl) hf with ⟨hcs, hx⟩ | ⟨a, len', cap', zs, hcs, _, hl, hm, hz, hx, hcell, hwz⟩
  · simp [Value.cells] at hcs
    obtain ⟨rfl, rfl, rfl⟩ := hcs
    exact ⟨[], rfl, by omega, Ints.nil _ _, fun y hy => (by simp at hy), by omega, by omega⟩
  · simp [Value.cells] at hcs
    obtain ⟨rfl, rfl, rfl⟩ := hcs
    simp only [if_true] at hz
    have hp := (Prod.mk.inj hx).2
    simp only [maxLen] at hm
    refine ⟨zs.take len, by simp; omega, by omega, ?_, fun y hy => hwz y (List.mem_of_mem_take hy), by omega, hl⟩
    intro k y hy
    have hk : k < len := by
      have := (List.getElem?_eq_some_iff.1 hy).1
      simp at this
      omega
    have hy' : zs[k]? = some y := by
      rw [← hy, List.getElem?_take_of_lt hk]
    obtain ⟨b, off, spot⟩ := a
    have h0 := hcell 0 (by omega)
    obtain rfl : spot = none := by
      cases spot with
      | none => rfl
      | some s => simp [Addr.add, World.cell?] at h0; split at h0 <;> simp at h0
    refine ⟨b, off, rfl, ?_, ?_⟩
    · exact hlt (.cell b off) (by rw [hp]; exact MemPlace.mem_row.2 ⟨0, by omega, by simp⟩)
    · have := hcell k (by omega)
      have e : (Addr.add ⟨b, off, none⟩ k) = ⟨b, off + k, none⟩ := by
        by_cases hk0 : k = 0 <;> simp [Addr.add, hk0]
      rw [e] at this
      rw [this, List.getD_eq_getElem?_getD, hy']
      rfl

theorem cell_lt {w : World} {g o : Nat} {v : Value} (h : w.cell? ⟨g, o, none⟩ = some v) : g < w.heap.size := by
  by_cases hh : g < w.heap.size
  · exact hh
  · simp only [World.cell?] at h
    rw [Array.getElem?_eq_none (by omega)] at h
    cases h

/-- A slice of slices of ints, opened. -/
theorem open_rws {H : Type} {enc : TypeId × Value → H} {W : World} {a0 : Option Addr} {len cap : Nat} {d : DataW H} {p : List MemPlace}
    (h : DataW.Trod enc Try.prog W 0 (fun _ => true) true 22 (.slice a0 len cap) d p) :
    ∃ ls : List (List Int), len = ls.length ∧ len ≤ 9223372036854775807 ∧ Rws W a0 ls ∧ ∀ l ∈ ls, l.length ≤ 9223372036854775807 := by
  obtain ⟨fuel, hf⟩ := h
  rcases open_int_rows Try.underlying22 Try.underlying23 Try.underlying3 c23 c3 hf with ⟨hcs, hx⟩ | ⟨a, len', cap', A, L, C, Z, hcs, _, hl, hm, hx, hr⟩
  · simp [Value.cells] at hcs
    obtain ⟨rfl, rfl, rfl⟩ := hcs
    exact ⟨[], rfl, by omega, fun k q hq => by simp at hq, fun q hq => by simp at hq⟩
  · simp [Value.cells] at hcs
    obtain ⟨rfl, rfl, rfl⟩ := hcs
    simp only [maxLen] at hm
    have hspot : 0 < len → a.spot = none := fun h0 => spot_none (hr 0 (by omega)).1
    refine ⟨(List.range len).map (fun r => (Z r).take (L r)), by simp, by omega, ?_, ?_⟩
    · intro k l hl'
      rw [List.getElem?_map] at hl'
      have hk : k < len := by
        rcases Nat.lt_or_ge k len with h | h
        · exact h
        · rw [List.getElem?_eq_none (by simpa using h)] at hl'; cases hl'
      rw [List.getElem?_range hk] at hl'
      injection hl' with hl'
      subst hl'
      obtain ⟨hcell, hLC, hCm, hZ, _, hnone, hsome⟩ := hr k (by omega)
      have hsp := hspot (by omega)
      obtain ⟨b, off, spot⟩ := a
      simp only at hsp
      subst hsp
      rw [Addr.add_lit] at hcell
      have hlen : ((Z k).take (L k)).length = L k := by rw [List.length_take]; omega
      refine ⟨b, off, A k, C k, rfl, cell_lt hcell, by rw [hlen]; exact hcell, ?_⟩
      intro j y hy
      have hj : j < L k := by
        have := (List.getElem?_eq_some_iff.1 hy).1
        rw [hlen] at this
        exact this
      rw [List.getElem?_take_of_lt hj] at hy
      cases hA : A k with
      | none => have := hnone hA; omega
      | some a' =>
        obtain ⟨_, hcs⟩ := hsome a' hA
        have hs' : a'.spot = none := spot_none (hcs 0 (by omega))
        obtain ⟨b', off', spot'⟩ := a'
        simp only at hs'
        subst hs'
        have hc := hcs j (by omega)
        rw [Addr.add_lit, List.getD_eq_getElem?_getD, hy] at hc
        exact ⟨b', off', rfl, cell_lt hc, hc⟩
    · intro l hl'
      obtain ⟨i, hi, rfl⟩ := List.mem_map.1 hl'
      obtain ⟨_, hLC, hCm, hZ, _⟩ := hr i (by have := List.mem_range.1 hi; omega)
      simp only [maxLen] at hCm
      rw [List.length_take]
      omega

set_option maxRecDepth 100000 in
theorem joins_lifted (os : Os) (started : os.Started) (H : Type) (enc : TypeId × Value → H) :
    ReturnsInHanded {} Try.checked os 3 .any (Rows.unionJoinsSpec.pre6 enc Try.prog Try.f3 Rows.unionJoinsRow.domain false) (Rows.unionJoinsSpec.post enc Try.prog Try.f3 false true false false) := by
  refine returnsInHanded_of_change (C := Try.checked) try_own started (by kernel_rfl) Try.func3
    (ChangeSpec.witness6 (enc := enc) (C := Try.checked) false ⟨#[], #[.int .i64 0, .slice none 0 0, .slice none 0 0], []⟩ 8 (by kernel_rfl) (by kernel_rfl) (by kernel_rfl) (by kernel_rfl)) ?_
  intro W base args ds gs before hval0 hW hcnd _
  have hval : ∀ (j : Nat) t v, Try.f3.params[j]? = some t → args[j]? = some v → Value.okWide Try.prog W .any base t v := hval0
  have hW' := hW
  obtain ⟨p, q, hA0, hV, rfl, hfz, hnd⟩ := hW
  have hA : DataW.TrodAll enc Try.prog W 0 (fun _ => true) true Try.f3.params.toList args.toList ds p := hA0
  rw [Try.params3] at hA hval
  obtain ⟨v0, v1, v2, d0, d1, d2, p0, p1, p2, rfl, rfl, rfl, h0, h1, h2⟩ := trodAll_three hA
  obtain ⟨rfl, rfl⟩ := trodVars_none hV
  obtain ⟨x, rfl, rfl, rfl, hx⟩ := open_int Try.underlying3 (hval 0 3 v0 rfl rfl) h0
  obtain ⟨a1, len1, cap1, rfl⟩ := okWide_slice Try.underlying22 (hval 1 22 v1 rfl rfl)
  obtain ⟨a2, len2, cap2, rfl⟩ := okWide_slice Try.underlying23 (hval 2 23 v2 rfl rfl)
  clear hA0 hval0
  simp only [List.append_nil, List.nil_append] at hW'
  have hlt1 : ∀ y ∈ p1, y.block < W.heap.size := fun y hy => by simpa using hW'.lt y (List.mem_append_left _ hy)
  have hlt2 : ∀ y ∈ p2, y.block < W.heap.size := fun y hy => by simpa using hW'.lt y (List.mem_append_right _ hy)
  obtain ⟨js, rfl, hle1, hJ, hjj⟩ := open_rws h1
  obtain ⟨l, rfl, hle2, hI, _, _, _⟩ := open_row h2 hlt2
  refine (joins_law x a1 cap1 js a2 cap2 l W hle1 hle2 hjj hJ hI).mono fun e W' ⟨he, hw⟩ => ?_
  subst he
  have hb := hw.to_below
  refine ⟨_, rfl, _, _, _, [], [] ++ (p1 ++ p2), [], hW', ?_, ?_, ?_, hb.frame _, fun h => by cases h⟩
  · exact trodAll_mk1 (shut_bool Try.underlying4 true)
  · exact trodAll_mk3 (shut_int Try.underlying3 hx) (Below.trod try_laidOut (by kernel_rfl) (of_decide_eq_true (by kernel_rfl)) h1 hb hlt1) (Below.trod try_laidOut (by kernel_rfl) (of_decide_eq_true (by kernel_rfl)) h2 hb hlt2)
  · rfl

theorem unionJoins_holds : Rows.UnionJoinsSaid :=
  OpenClaim.holds_of_wide 3 Try.f3 rfl rfl rfl rfl rfl rfl rfl ⟨rfl, rfl, rfl, rfl, rfl⟩ rfl rfl rfl rfl rfl (by kernel_rfl) Try.func3 (by kernel_rfl)
    (of_decide_eq_true (by kernel_rfl)) (by unfold Func.isWrapper; first | (rw [if_pos (by decide +kernel)]; kernel_rfl) | (rw [if_neg (by decide +kernel)]; exact ⟨rfl, rfl⟩))
    (fun os started H enc _ => joins_lifted os started H enc)
end Go.Proofs.Ytjgabnphafkgoaa
