/- A text's tokens, as a plain function of its octets. -/
import Derived.Test.YthdoihemjndmlaaDoorTk
set_option linter.unusedSimpArgs false
set_option linter.unusedVariables false
namespace Go.Proofs.YthdoihemjndmlaaDoor
open Go.RowKit

/-- What stands at a text's start, behind all gaps: an error, or a token's size and kind. -/
def fst3 (t : List UInt8) : Nat × Nat × Nat :=
  if 32 < wdN t then (13, 0, 0) else if 0 < wdN t then (0, wdN t, 0)
  else if 3 < nmN t then (13, 0, 0) else if 0 < nmN t then (0, nmN t, 1)
  else if 0 < sgN t then (0, sgN t, 2) else (10, 0, 0)

inductive LR where
  | bad (e l c : Nat)
  | good (ts : List Tok) (p : Nat × Nat)
deriving DecidableEq, Repr
def preT (us : List Tok) : LR → LR
  | .bad e l c => .bad e l c
  | .good ts p => .good (us ++ ts) p
theorem preT_nil (r : LR) : preT [] r = r := by cases r <;> rfl
theorem preT_preT (a b : List Tok) (r : LR) : preT a (preT b r) = preT (a ++ b) r := by cases r <;> simp [preT]

def lx : Nat → List UInt8 → Nat × Nat → LR
  | 0, _, p => .good [] p
  | n + 1, t, p =>
    if t = [] then .good [] p
    else if 0 < gpN t then lx n (t.drop (gpN t)) (pss p (t.take (gpN t)))
    else if (fst3 t).1 ≠ 0 then .bad (fst3 t).1 p.1 p.2
    else preT [⟨(fst3 t).2.2, t.take (fst3 t).2.1, p.1, p.2⟩] (lx n (t.drop (fst3 t).2.1) (pss p (t.take (fst3 t).2.1)))
def lxs (t : List UInt8) (p : Nat × Nat) : LR := lx t.length t p

theorem runN_le (p q : UInt8 → Bool) : ∀ t : List UInt8, runN p q t ≤ t.length
  | [] => Nat.le_refl _
  | c :: r => by
    have := (List.takeWhile_prefix q (l := r)).length_le
    rw [List.length_cons]
    simp only [runN]
    split <;> omega
theorem gpN_le (t : List UInt8) : gpN t ≤ t.length := by
  have h1 := runN_le isB isB t
  have h2 := runN_le isH noF t
  unfold gpN
  omega
theorem sgF_len (t : List UInt8) : ∀ (l : List (List UInt8)) (n : Nat), n ≤ t.length → l.foldl (sgF t) n ≤ t.length
  | [], n, h => h
  | x :: l, n, h => by
    rw [List.foldl_cons]
    refine sgF_len t l _ ?_
    unfold sgF
    split
    · rename_i hp
      have := (List.isPrefixOf_iff_prefix.1 hp).length_le
      omega
    · exact h
theorem sgN_len (t : List UInt8) : sgN t ≤ t.length := sgF_len t signsL 0 (Nat.zero_le _)
theorem sgN_two (t : List UInt8) : sgN t ≤ 2 := sgF_le t signsL 0 (by decide) (by omega)
theorem fst3_size (t : List UInt8) (h : (fst3 t).1 = 0) : 0 < (fst3 t).2.1 ∧ (fst3 t).2.1 ≤ t.length := by
  have h1 := runN_le isL isW t
  have h2 := runN_le isD isD t
  have h3 := sgN_len t
  by_cases a : 32 < wdN t
  · simp [fst3, a] at h
  by_cases b : 0 < wdN t
  · simp only [fst3, if_neg a, if_pos b]
    exact ⟨b, h1⟩
  by_cases c : 3 < nmN t
  · simp [fst3, a, b, c] at h
  by_cases d : 0 < nmN t
  · simp only [fst3, if_neg a, if_neg b, if_neg c, if_pos d]
    exact ⟨d, h2⟩
  by_cases e : 0 < sgN t
  · simp only [fst3, if_neg a, if_neg b, if_neg c, if_neg d, if_pos e]
    exact ⟨e, h3⟩
  · simp [fst3, a, b, c, d, e] at h
theorem fst3_kind (t : List UInt8) : (fst3 t).2.2 ≤ 2 := by
  unfold fst3
  repeat' split
  all_goals simp
theorem fst3_err (t : List UInt8) : (fst3 t).1 ≤ 13 := by
  unfold fst3
  repeat' split
  all_goals simp

theorem lx_fuel : ∀ (n m : Nat) (t : List UInt8) (p : Nat × Nat), t.length ≤ n → t.length ≤ m → lx n t p = lx m t p
  | 0, 0, t, p, _, _ => rfl
  | 0, m + 1, t, p, h, _ => by
    have : t = [] := List.eq_nil_of_length_eq_zero (by omega)
    subst this
    simp [lx]
  | n + 1, 0, t, p, _, h => by
    have : t = [] := List.eq_nil_of_length_eq_zero (by omega)
    subst this
    simp [lx]
  | n + 1, m + 1, t, p, h1, h2 => by
    unfold lx
    split
    · rfl
    split
    · exact lx_fuel n m _ _ (by rw [List.length_drop]; omega) (by rw [List.length_drop]; omega)
    split
    · rfl
    · rename_i h3 h4 h5
      have := fst3_size t (by omega)
      rw [lx_fuel n m _ _ (by rw [List.length_drop]; omega) (by rw [List.length_drop]; omega)]

theorem lxs_nil (p : Nat × Nat) : lxs [] p = .good [] p := rfl
theorem lxs_succ (t : List UInt8) (p : Nat × Nat) : lxs t p = lx (t.length + 1) t p := lx_fuel _ _ _ _ (Nat.le_refl _) (by omega)
theorem lxs_gap {t : List UInt8} (p : Nat × Nat) (h : 0 < gpN t) : lxs t p = lxs (t.drop (gpN t)) (pss p (t.take (gpN t))) := by
  have hne : t ≠ [] := fun e => by rw [e] at h; exact absurd h (by decide)
  rw [lxs_succ]
  unfold lx
  rw [if_neg hne, if_pos h]
  exact lx_fuel _ _ _ _ (by rw [List.length_drop]; omega) (Nat.le_refl _)
theorem lxs_bad {t : List UInt8} (p : Nat × Nat) (hne : t ≠ []) (h : gpN t = 0) (he : (fst3 t).1 ≠ 0) : lxs t p = .bad (fst3 t).1 p.1 p.2 := by
  rw [lxs_succ]
  unfold lx
  rw [if_neg hne, if_neg (by omega), if_pos he]
theorem lxs_tok {t : List UInt8} (p : Nat × Nat) (hne : t ≠ []) (h : gpN t = 0) (he : (fst3 t).1 = 0) :
    lxs t p = preT [⟨(fst3 t).2.2, t.take (fst3 t).2.1, p.1, p.2⟩] (lxs (t.drop (fst3 t).2.1) (pss p (t.take (fst3 t).2.1))) := by
  rw [lxs_succ]
  unfold lx
  rw [if_neg hne, if_neg (by omega), if_neg (by omega)]
  have := fst3_size t he
  exact congrArg _ (lx_fuel _ _ _ _ (by rw [List.length_drop]; omega) (Nat.le_refl _))

/-- The document's example. -/
theorem lxs_awake : lxs [120, 32, 61, 32, 121, 46, 102, 59] (1, 1) =
    .good [⟨0, [120], 1, 1⟩, ⟨2, [61], 1, 3⟩, ⟨0, [121], 1, 5⟩, ⟨2, [46], 1, 6⟩, ⟨0, [102], 1, 7⟩, ⟨2, [59], 1, 8⟩] (1, 9) := by
  decide +kernel
end Go.Proofs.YthdoihemjndmlaaDoor
