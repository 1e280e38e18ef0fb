/- All small statements: what the reference's Lines and All answer. -/
import Derived.Test.YtoekaehpcjhhaaaGreatDoorRli
import Derived.Test.YtoekaehpcjhhaaaGreatDoorSma
set_option linter.unusedSimpArgs false
set_option linter.unusedVariables false
namespace Go.Proofs.YtoekaehpcjhhaaaGreatDoor
open Go.RowKit

theorem rsaid : ∀ (k : Nat), k ≤ 5 → ∀ (l : List St), smL k l = true → OkL l → ∀ s ∈ l, RSaidS s
  | 0, _, l, h, _ => by
    have : l = [] := List.eq_nil_of_length_eq_zero (by simpa [smL] using h)
    subst this
    simp
  | k + 1, hk, l, h, ho => by
    have hf := (sm_facts (k + 1) l h ho).1
    rw [smL_succ, Bool.and_eq_true, decide_eq_true_eq, List.all_eq_true] at h
    intro s hs
    have hsm := h.2 s hs
    have hok := OkL_mem ho hs
    have hft : FtS s := by
      obtain ⟨j, hj⟩ := List.getElem?_of_mem hs
      exact hf.at hj
    refine lines_of s hft ?_
    intro d x y z t f ag n bd ot ln cl e
    subst e
    obtain ⟨_, _, _, p4, p5⟩ := smS_parts hsm
    obtain ⟨_, _, _, _, _, hob, hoo⟩ := hok.parts
    obtain ⟨_, _, b3, b4⟩ := sm_facts k bd p4 hob
    obtain ⟨_, _, o3, o4⟩ := sm_facts k ot p5 hoo
    have hc := cnt_le (k := k) (by omega)
    have := b4 0
    have := o4 0
    exact ⟨all_of bd (rsaid k (by omega) bd p4 hob), all_of ot (rsaid k (by omega) ot p5 hoo), by omega, by omega, by omega, by omega⟩
theorem rall {k : Nat} (hk : k ≤ 5) {l : List St} (h : smL k l = true) (ho : OkL l) : RSaidL l := all_of l (rsaid k hk l h ho)
end Go.Proofs.YtoekaehpcjhhaaaGreatDoor
