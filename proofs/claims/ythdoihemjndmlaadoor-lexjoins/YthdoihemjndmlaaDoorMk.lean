/- How the measures are made. -/
import Derived.Test.YthdoihemjndmlaaDoorSg
import Derived.Laws.EntriesVeiled
set_option linter.unusedSimpArgs false
set_option linter.unusedVariables false
namespace Go.Proofs.YthdoihemjndmlaaDoor
open Go.RowKit

theorem mf : ∀ (fn : Fn) (first cap : Array Value) (w : World), (Instr.makeFunc fn first cap).run Tryd.prog w = .ok (.func fn first cap) w := fun _ _ _ _ => rfl

theorem one_alloc (w : World) (v : Value) (t : TypeId) (hv : v.cells = #[v]) : (w.alloc (.cells #[v] t)).cell? ⟨w.heap.size, 0, none⟩ = some v := by
  simp

theorem mkAmong_any (s : ByteArray) (w : World) :
    Calls Tryd.prog 29 #[.string s] w fun e w' => ∃ v G, e = .returned v ∧ Oct w' G v (fun c => s.data.toList.contains c) ∧ Turn [] w w' ∧ ∀ g ∈ G, w.heap.size ≤ g := by
  have hmf := mf
  go_enter Tryd.func29, Tryd.ntmps29
  go_wp2_with fail
  go_ret
  refine ⟨_, [w.heap.size], rfl, Oct.among (by simp) (by simp), (Turn.refl _ _).alloc _, by simp⟩

theorem mkBut_any (v0 : Value) (p : UInt8 → Bool) (G0 : List Nat) (w : World) (h : Oct w G0 v0 p) :
    Calls Tryd.prog 30 #[v0] w fun e w' => ∃ v G, e = .returned v ∧ Oct w' G v (fun c => !p c) ∧ Turn [] w w' ∧ ∀ g ∈ G, w.heap.size ≤ g ∨ g ∈ G0 := by
  have hmf := mf
  have HO := Lib.hid h
  obtain ⟨hG, k, caps, rfl, hen, hk⟩ := h
  clear hk hen hG
  go_enter Tryd.func30, Tryd.ntmps30
  go_wp2_with fail
  go_ret
  refine ⟨_, w.heap.size :: G0, rfl, Oct.but (by simp) (by simp) (HO.out.turn ((Turn.refl [] w).alloc _) (by simp)), (Turn.refl _ _).alloc _, ?_⟩
  intro g hg
  simp at hg
  rcases hg with rfl | hg
  · exact .inl (Nat.le_refl _)
  · exact .inr hg

theorem mkRun_any (v1 v2 : Value) (p q : UInt8 → Bool) (G1 G2 : List Nat) (w : World) (h1 : Oct w G1 v1 p) (h2 : Oct w G2 v2 q) :
    Calls Tryd.prog 28 #[v1, v2] w fun e w' => ∃ v G, e = .returned v ∧ Msr w' G v (runN p q) ∧ Turn [] w w' ∧ ∀ g ∈ G, w.heap.size ≤ g ∨ g ∈ G1 ∨ g ∈ G2 := by
  have hmf := mf
  have HO1 := Lib.hid h1
  have HO2 := Lib.hid h2
  obtain ⟨hG1, k1, caps1, rfl, hen1, hk1⟩ := h1
  obtain ⟨hG2, k2, caps2, rfl, hen2, hk2⟩ := h2
  clear hk1 hen1 hG1 hk2 hen2 hG2
  go_enter Tryd.func28, Tryd.ntmps28
  go_wp2_with fail
  go_ret
  have t : Turn [] w ((w.alloc (.cells #[.func (.func k1) #[] caps1.toArray] 65)).alloc (.cells #[.func (.func k2) #[] caps2.toArray] 65)) := ((Turn.refl [] w).alloc _).alloc _
  refine ⟨_, w.heap.size :: (w.heap.size + 1) :: (G1 ++ G2), rfl, Msr.run (by simp; omega) (by simp) ?_ ?_ (HO1.out.turn t (by simp)) (HO2.out.turn t (by simp)), t, ?_⟩
  · simp
  · simp
  intro g hg
  simp at hg
  rcases hg with rfl | rfl | hg | hg
  · exact .inl (Nat.le_refl _)
  · exact .inl (by omega)
  · exact .inr (.inl hg)
  · exact .inr (.inr hg)
end Go.Proofs.YthdoihemjndmlaaDoor
