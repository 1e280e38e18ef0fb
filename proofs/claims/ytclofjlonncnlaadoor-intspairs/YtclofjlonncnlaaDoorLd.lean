/- The reference's contracts over slices that the program itself made, and plain facts on unions. -/
import Derived.Test.YtclofjlonncnlaaDoorLParts
set_option linter.unusedSimpArgs false
set_option linter.unusedVariables false
namespace Go.Proofs.YtclofjlonncnlaaDoor
open Go.RowKit

theorem notIn {b g : Nat} {v : Value} (h1 : g ≠ b) (h2 : ∀ k, v.ownBlock = some k → g ≠ k) : g ∉ b :: v.ownBlock.toList := by
  intro h
  rcases List.mem_cons.1 h with e | e
  · exact h1 e
  · exact h2 g (by simpa using e) rfl
theorem newIn {b : Nat} {v : Value} {F : List Nat} {n : Nat} (h1 : n ≤ b) (h2 : ∀ k, v.ownBlock = some k → n ≤ k) : ∀ g ∈ b :: v.ownBlock.toList, g ∈ F ∨ n ≤ g := by
  intro g h
  rcases List.mem_cons.1 h with e | e
  · exact .inr (by omega)
  · exact .inr (h2 g (by simpa using e))
theorem newIn' {v : Value} {F : List Nat} {n : Nat} (h2 : ∀ k, v.ownBlock = some k → n ≤ k) : ∀ g ∈ v.ownBlock.toList, g ∈ F ∨ n ≤ g := by
  intro g h
  exact .inr (h2 g (by simpa using h))
theorem ownSame (B B' : Nat) (v u : Value) (l t : List Int) (w : World) (h : OwnI w B v l) (h' : OwnI w B' u t) (hl : l.length ≤ 1000000) (hl' : t.length ≤ 1000000) :
    Calls Tryd.prog 15 #[v, u] w fun e w' => e = .returned (.bool (sameB l t)) ∧ Turn [] w w' := by
  obtain ⟨A, c, rfl, hi, _⟩ := h.form
  obtain ⟨A', c', rfl, hi', _⟩ := h'.form
  refine (refSame_any A A' _ _ c c' l t w hi hi' rfl rfl hl hl').mono ?_
  rintro e w' ⟨rfl, q, rfl⟩
  exact ⟨rfl, (Turn.refl _ _).drewN _⟩
theorem ownMinus (B B' : Nat) (v u : Value) (l t : List Int) (w : World) (h : OwnI w B v l) (h' : OwnI w B' u t) (hl : l.length ≤ 100000) (hl' : t.length ≤ 100000) :
    Calls Tryd.prog 21 #[v, u] w (OwnedPost w w.heap.size (minusL l t)) := by
  obtain ⟨A, c, rfl, hi, _⟩ := h.form
  obtain ⟨A', c', rfl, hi', _⟩ := h'.form
  exact refMinus_any A A' _ _ c c' l t w hi hi' rfl rfl hl hl'
theorem ownOf (B : Nat) (v : Value) (l : List Int) (w : World) (h : OwnI w B v l) (hl : l.length ≤ 100000) :
    Calls Tryd.prog 18 #[v] w (OwnedPost w w.heap.size (ofL l)) := by
  obtain ⟨A, c, rfl, hi, _⟩ := h.form
  exact refOf_any A _ c l w hi rfl hl
theorem ownHas (B : Nat) (v : Value) (l : List Int) (x : Int) (w : World) (h : OwnI w B v l) (hl : l.length ≤ 100000) :
    Calls Tryd.prog 14 #[v, .int .i64 x] w fun e w' => e = .returned (.bool (hasB l x)) ∧ w = w' := by
  obtain ⟨A, c, rfl, hi, _⟩ := h.form
  exact refHas_any A _ c l x w hi rfl (by omega)
theorem minusL_union (x y : List Int) (hy : ∀ z ∈ y, okB z = true) : minusL y (unionL x y) = [] := by
  apply List.eq_nil_iff_forall_not_mem.2
  intro z hz
  obtain ⟨h1, h2⟩ := (mem_minusL _ _ _).1 hz
  exact h2 ((mem_ofL _ _).2 ⟨List.mem_append_right _ h1, hy z h1⟩)
theorem unionL_again (x y : List Int) : unionL (unionL x y) y = unionL x y := by
  unfold unionL
  refine sd_ext (sd_ofL _) (sd_ofL _) (fun z => ?_)
  rw [mem_ofL, mem_ofL, List.mem_append, mem_ofL, List.mem_append]
  by_cases hz : z ∈ y <;> simp [hz]
theorem okB_ofL {a : List Int} : ∀ z ∈ ofL a, okB z = true := fun z hz => ((mem_ofL _ _).1 hz).2
end Go.Proofs.YtclofjlonncnlaaDoor
