/- Tokens stand in the text at their places, one behind the other; places tell octets apart. -/
import Derived.Test.YthdoihemjndmlaaDoorPl
import Derived.Test.YthdoihemjndmlaaDoorAw
set_option linter.unusedSimpArgs false
set_option linter.unusedVariables false
namespace Go.Proofs.YthdoihemjndmlaaDoor
open Go.RowKit

/-- The tokens ts stand in T, from octet n on, one behind the other. -/
def Offs (T : List UInt8) : Nat → List Tok → Prop
  | _, [] => True
  | n, t :: ts => ∃ m, n ≤ m ∧ 0 < t.text.length ∧ m + t.text.length ≤ T.length ∧ (T.drop m).take t.text.length = t.text ∧ plc T m = (t.line, t.col) ∧ Offs T (m + t.text.length) ts
theorem Offs.le {T : List UInt8} {n n' : Nat} {ts : List Tok} (h : Offs T n ts) (hn : n' ≤ n) : Offs T n' ts := by
  cases ts with
  | nil => trivial
  | cons t ts =>
    obtain ⟨m, h1, h2⟩ := h
    exact ⟨m, Nat.le_trans hn h1, h2⟩

theorem offs_of : ∀ (k : Nat) (T : List UInt8) (n : Nat) (ts : List Tok) (p : Nat × Nat), T.length - n ≤ k → lxa T n = .good ts p → Offs T n ts := by
  intro k
  induction k with
  | zero =>
    intro T n ts p hk h
    have : T.drop n = [] := List.drop_of_length_le (by omega)
    rw [lxa_end this] at h
    injection h with h1 h2
    subst h1
    trivial
  | succ k ih =>
    intro T n ts p hk h
    by_cases he : T.drop n = []
    · rw [lxa_end he] at h
      injection h with h1 h2
      subst h1
      trivial
    by_cases hg : 0 < gpN (T.drop n)
    · have hgl := gpN_le (T.drop n)
      rw [lxa_gap hg] at h
      exact (ih T (n + gpN (T.drop n)) ts p (by omega) h).le (by omega)
    by_cases hb : (fst3 (T.drop n)).1 = 0
    · have hsz := fst3_size _ hb
      rw [List.length_drop] at hsz
      rw [lxa_tok he (by omega) hb] at h
      cases hr : lxa T (n + (fst3 (T.drop n)).2.1) with
      | bad x l c => rw [hr] at h; cases h
      | good us q =>
        rw [hr] at h
        injection h with h1 h2
        subst h1
        have ih' := ih T (n + (fst3 (T.drop n)).2.1) us q (by omega) hr
        have hl : ((T.drop n).take (fst3 (T.drop n)).2.1).length = (fst3 (T.drop n)).2.1 := by
          rw [List.length_take, List.length_drop]
          omega
        refine ⟨n, Nat.le_refl _, ?_, ?_, ?_, rfl, ?_⟩
        · rw [hl]
          exact hsz.1
        · rw [hl]
          omega
        · rw [hl]
        · rw [hl]
          exact ih'
    · rw [lxa_bad he (by omega) hb] at h
      cases h
theorem offs_tok {T : List UInt8} {ts : List Tok} {p : Nat × Nat} (h : tokR T = .good ts p) : Offs T 0 ts := by
  unfold tokR at h
  split at h
  · cases h
  · exact offs_of T.length T 0 ts p (by omega) h

def ltP (p q : Nat × Nat) : Prop := p.1 < q.1 ∨ (p.1 = q.1 ∧ p.2 < q.2)
theorem adv_lt (p : Nat × Nat) (c : UInt8) : ltP p (adv p c) := by
  unfold adv ltP
  split
  · exact .inl (by simp)
  · exact .inr (by simp)
theorem ltP.trans {p q r : Nat × Nat} (h : ltP p q) (k : ltP q r) : ltP p r := by
  unfold ltP at *
  omega
theorem plc_lt {T : List UInt8} : ∀ (k a : Nat), a + k < T.length → ltP (plc T a) (plc T (a + k + 1)) := by
  intro k
  induction k with
  | zero =>
    intro a h
    rw [plc_succ (List.getElem?_eq_getElem h)]
    exact adv_lt _ _
  | succ k ih =>
    intro a h
    have h1 := ih a (by omega)
    have hk : a + k + 1 < T.length := by omega
    rw [show a + (k + 1) + 1 = (a + k + 1) + 1 by omega, plc_succ (List.getElem?_eq_getElem hk)]
    exact h1.trans (adv_lt _ _)
theorem plc_ne {T : List UInt8} {a m : Nat} (h : a < m) (hm : m ≤ T.length) : (plc T a).1 ≠ (plc T m).1 ∨ ((plc T a).1 = (plc T m).1 ∧ (plc T a).2 ≠ (plc T m).2) := by
  have := plc_lt (T := T) (m - a - 1) a (by omega)
  rw [show a + (m - a - 1) + 1 = m by omega] at this
  unfold ltP at this
  omega
end Go.Proofs.YthdoihemjndmlaaDoor
