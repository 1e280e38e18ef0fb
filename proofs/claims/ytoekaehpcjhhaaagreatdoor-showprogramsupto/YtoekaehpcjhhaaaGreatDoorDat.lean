/- Statements ag data, and how they lie in memory. -/
import Derived.Test.YtoekaehpcjhhaaaGreatDoorLb
set_option linter.unusedSimpArgs false
set_option linter.unusedVariables false
namespace Go.Proofs.YtoekaehpcjhhaaaGreatDoor
open Go.RowKit

/-- A statement: what it does, X, Y, Z, T, F, Args, N, Body, Other, its place. -/
inductive St where
  | mk (d : Int) (x y z t f : ByteArray) (ag : List ByteArray) (n : Int) (bd ot : List St) (ln cl : Int)

mutual
/-- The twelve cells cs read ag the statement, all that it leads to in blocks below B. -/
def RdS (B : Nat) (w : World) : List Value → St → Prop
  | cs, .mk d x y z t f ag n bd ot ln cl => ∃ A1 c1 A2 c2 A3 c3, cs = [.int .i64 d, .string x, .string y, .string z, .string t, .string f, .slice A1 ag.length c1, .int .i64 n, .slice A2 bd.length c2, .slice A3 ot.length c3, .int .i64 ln, .int .i64 cl] ∧
      ag.length ≤ c1 ∧ bd.length ≤ c2 ∧ ot.length ≤ c3 ∧ Sts w A1 ag ∧ (∀ b off, A1 = some ⟨b, off, none⟩ → 0 < ag.length → b < B) ∧ RdL B w A2 0 bd ∧ RdL B w A3 0 ot
/-- From its k-th thing on the slice at A reads ag the statements. -/
def RdL (B : Nat) (w : World) (A : Option Addr) (k : Nat) : List St → Prop
  | [] => True
  | s :: l => (∃ b off cs, A = some ⟨b, off, none⟩ ∧ b < B ∧ b < w.heap.size ∧ (∀ j v, cs[j]? = some v → w.cell? ⟨b, off + k * 12 + j, none⟩ = some v) ∧ RdS B w cs s) ∧ RdL B w A (k + 1) l
end

mutual
theorem RdS.turn {B : Nat} {w w' : World} {F : List Nat} (t : Turn F w w') (hF : ∀ g ∈ F, B ≤ g) : ∀ {cs : List Value} {s : St}, RdS B w cs s → RdS B w' cs s
  | cs, .mk d x y z tt f ag n bd ot ln cl, h => by
    unfold RdS at h ⊢
    obtain ⟨A1, c1, A2, c2, A3, c3, e, k1, k2, k3, h1, hb, h2, h3⟩ := h
    refine ⟨A1, c1, A2, c2, A3, c3, e, k1, k2, k3, ?_, hb, RdL.turn t hF bd h2, RdL.turn t hF ot h3⟩
    by_cases h0 : ag.length = 0
    · exact ⟨h1.1, .inl h0⟩
    · exact h1.turn t (fun b off e hg => by have := hb b off e (by omega); have := hF b hg; omega)
theorem RdL.turn {B : Nat} {w w' : World} {F : List Nat} (t : Turn F w w') (hF : ∀ g ∈ F, B ≤ g) {A : Option Addr} {k : Nat} : ∀ (l : List St), RdL B w A k l → RdL B w' A k l
  | [], h => by unfold RdL; trivial
  | s :: l, h => by
    unfold RdL at h ⊢
    obtain ⟨⟨b, off, cs, e, hb, hlt, hc, hs⟩, hl⟩ := h
    refine ⟨⟨b, off, cs, e, hb, Nat.lt_of_lt_of_le hlt t.size, fun j v hv => ?_, RdS.turn t hF hs⟩, RdL.turn t hF l hl⟩
    exact (t.cell (p := ⟨b, off + k * 12 + j, none⟩) hlt (fun hg => by have := hF b hg; omega)).trans (hc j v hv)
end

theorem RdL.at {B : Nat} {w : World} {A : Option Addr} : ∀ {l : List St} {k j : Nat} {s : St}, RdL B w A k l → l[j]? = some s →
    ∃ b off cs, A = some ⟨b, off, none⟩ ∧ b < B ∧ b < w.heap.size ∧ (∀ i v, cs[i]? = some v → w.cell? ⟨b, off + (k + j) * 12 + i, none⟩ = some v) ∧ RdS B w cs s
  | [], k, j, s, h, hj => by simp at hj
  | u :: l, k, 0, s, h, hj => by
    unfold RdL at h
    simp at hj
    subst hj
    exact h.1
  | u :: l, k, j + 1, s, h, hj => by
    unfold RdL at h
    have := RdL.at h.2 (j := j) (s := s) (by simpa using hj)
    rw [show k + (j + 1) = k + 1 + j by omega]
    exact this

/-- A statement's cells. -/
theorem RdS.cells {B : Nat} {w : World} {cs : List Value} {d : Int} {x y z t f : ByteArray} {ag : List ByteArray} {n : Int} {bd ot : List St} {ln cl : Int} (h : RdS B w cs (.mk d x y z t f ag n bd ot ln cl)) :
    ∃ A1 c1 A2 c2 A3 c3, cs = [.int .i64 d, .string x, .string y, .string z, .string t, .string f, .slice A1 ag.length c1, .int .i64 n, .slice A2 bd.length c2, .slice A3 ot.length c3, .int .i64 ln, .int .i64 cl] ∧
      ag.length ≤ c1 ∧ bd.length ≤ c2 ∧ ot.length ≤ c3 ∧ Sts w A1 ag ∧ (∀ b off, A1 = some ⟨b, off, none⟩ → 0 < ag.length → b < B) ∧ RdL B w A2 0 bd ∧ RdL B w A3 0 ot := by
  unfold RdS at h
  exact h

/-- A text that a machine can hold. -/
def Fit (s : ByteArray) : Prop := s.size ≤ 281474976710656
mutual
/-- Numbers and texts are such as there can be. -/
def OkS : St → Prop
  | .mk d x y z t f ag n bd ot ln cl => (-9223372036854775808 ≤ d ∧ d ≤ 9223372036854775807) ∧ (-9223372036854775808 ≤ n ∧ n ≤ 9223372036854775807) ∧ (-9223372036854775808 ≤ ln ∧ ln ≤ 9223372036854775807) ∧ (Fit x ∧ Fit y ∧ Fit z ∧ Fit t ∧ Fit f) ∧ (∀ a ∈ ag, Fit a) ∧ OkL bd ∧ OkL ot
def OkL : List St → Prop
  | [] => True
  | s :: l => OkS s ∧ OkL l
end
theorem OkL.at : ∀ {l : List St} {j : Nat} {s : St}, OkL l → l[j]? = some s → OkS s
  | [], j, s, h, hj => by simp at hj
  | u :: l, 0, s, h, hj => by unfold OkL at h; simp at hj; subst hj; exact h.1
  | u :: l, j + 1, s, h, hj => by unfold OkL at h; exact OkL.at h.2 (j := j) (by simpa using hj)
theorem OkL.of : ∀ {l : List St}, (∀ s ∈ l, OkS s) → OkL l
  | [], h => by unfold OkL; trivial
  | u :: l, h => by unfold OkL; exact ⟨h u (by simp), OkL.of fun s hs => h s (by simp [hs])⟩
theorem OkS.parts {d : Int} {x y z t f : ByteArray} {ag : List ByteArray} {n : Int} {bd ot : List St} {ln cl : Int} (h : OkS (.mk d x y z t f ag n bd ot ln cl)) :
    (-9223372036854775808 ≤ d ∧ d ≤ 9223372036854775807) ∧ (-9223372036854775808 ≤ n ∧ n ≤ 9223372036854775807) ∧ (-9223372036854775808 ≤ ln ∧ ln ≤ 9223372036854775807) ∧ (Fit x ∧ Fit y ∧ Fit z ∧ Fit t ∧ Fit f) ∧ (∀ a ∈ ag, Fit a) ∧ OkL bd ∧ OkL ot := by
  unfold OkS at h
  exact h
end Go.Proofs.YtoekaehpcjhhaaaGreatDoor
