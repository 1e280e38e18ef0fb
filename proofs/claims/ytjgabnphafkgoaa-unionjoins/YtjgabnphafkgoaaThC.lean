/- Plain facts: the classes of heads, number by number. -/
import Derived.Test.YtjgabnphafkgoaaTh
namespace Go.Proofs.Ytjgabnphafkgoaa

/-- The heads below j. -/
def hds (H : Nat → Nat) (j : Nat) : List Nat := (List.range j).filter (fun h => decide (H h = h))
/-- Those below j whose head is h. -/
def cl (H : Nat → Nat) (j h : Nat) : List Nat := (List.range j).filter (fun k => decide (H k = h))
/-- The classes of the numbers below j. -/
def cls (H : Nat → Nat) (j : Nat) : List (List Nat) := (hds H j).map (cl H j)

theorem hds_succ (H : Nat → Nat) (j : Nat) : hds H (j + 1) = hds H j ++ if H j = j then [j] else [] := by
  unfold hds
  rw [List.range_succ, List.filter_append]
  by_cases h : H j = j <;> simp [h]
theorem cl_succ (H : Nat → Nat) (j h : Nat) : cl H (j + 1) h = cl H j h ++ if H j = h then [j] else [] := by
  unfold cl
  rw [List.range_succ, List.filter_append]
  by_cases e : H j = h <;> simp [e]
theorem hds_length (H : Nat → Nat) (j : Nat) : (hds H j).length = hc j H := by
  unfold hds hc
  rw [List.countP_eq_length_filter]
theorem cls_length (H : Nat → Nat) (j : Nat) : (cls H j).length = hc j H := by simp [cls, hds_length]
theorem hds_mem {H : Nat → Nat} {j h : Nat} (hm : h ∈ hds H j) : h < j ∧ H h = h := by
  unfold hds at hm
  rw [List.mem_filter, List.mem_range] at hm
  exact ⟨hm.1, by simpa using hm.2⟩

/-- A head stands at the place that tells how many are below it. -/
theorem hds_at {H : Nat → Nat} {j h : Nat} (hj : h < j) (hh : H h = h) : (hds H j)[hc h H]? = some h := by
  induction j with
  | zero => omega
  | succ k ih =>
    rw [hds_succ]
    by_cases e : h = k
    · subst e
      rw [if_pos hh, List.getElem?_append_right (by rw [hds_length]; exact Nat.le_refl _), hds_length]
      simp
    · have := ih (by omega)
      rw [List.getElem?_append_left (List.getElem?_eq_some_iff.1 this).1]
      exact this
theorem hds_idx {H : Nat → Nat} {j i h : Nat} (hi : (hds H j)[i]? = some h) : hc h H = i := by
  induction j with
  | zero => simp [hds] at hi
  | succ k ih =>
    rw [hds_succ] at hi
    by_cases hlt : i < (hds H k).length
    · rw [List.getElem?_append_left hlt] at hi
      exact ih hi
    · rw [List.getElem?_append_right (by omega)] at hi
      by_cases e : H k = k
      · rw [if_pos e] at hi
        have hz : i - (hds H k).length = 0 := by
          rcases Nat.eq_zero_or_pos (i - (hds H k).length) with h | h
          · exact h
          · rw [List.getElem?_eq_none (by simp; omega)] at hi; cases hi
        rw [hz] at hi
        simp at hi
        subst hi
        rw [hds_length] at hlt hz
        omega
      · rw [if_neg e] at hi
        simp at hi

theorem cls_at {H : Nat → Nat} {j h : Nat} (hj : h < j) (hh : H h = h) : (cls H j)[hc h H]? = some (cl H j h) := by
  unfold cls
  rw [List.getElem?_map, hds_at hj hh]
  rfl

/-- A number that is a head: a class of its own, last. -/
theorem cls_head {n : Nat} {H : Nat → Nat} (hH : Heads n H) {j : Nat} (hj : H j = j) : cls H (j + 1) = cls H j ++ [[j]] := by
  unfold cls
  rw [hds_succ, if_pos hj, List.map_append]
  congr 1
  · apply List.map_congr_left
    intro h hm
    have := hds_mem hm
    rw [cl_succ, if_neg (by omega), List.append_nil]
  · rw [List.map_singleton, cl_succ, if_pos hj]
    have : cl H j j = [] := by
      unfold cl
      rw [List.filter_eq_nil_iff]
      intro k hk
      have h1 := hH.le k
      have h2 := List.mem_range.1 hk
      simp
      omega
    rw [this]
    rfl
/-- Any other: last of its head's class. -/
theorem cls_other {n : Nat} {H : Nat → Nat} (hH : Heads n H) {j : Nat} (hj : H j ≠ j) : cls H (j + 1) = (cls H j).set (hc (H j) H) (cl H j (H j) ++ [j]) := by
  unfold cls
  rw [hds_succ, if_neg hj, List.append_nil]
  apply List.ext_getElem?
  intro i
  rw [List.getElem?_map, List.getElem?_set, List.getElem?_map, List.length_map]
  have hlt : H j < j := by have := hH.le j; omega
  have hat := hds_at hlt (hH.twice j)
  by_cases e : hc (H j) H = i
  · subst e
    rw [if_pos rfl, if_pos (List.getElem?_eq_some_iff.1 hat).1, hat]
    show some (cl H (j + 1) (H j)) = _
    rw [cl_succ, if_pos rfl]
  · rw [if_neg e]
    cases hi : (hds H j)[i]? with
    | none => rfl
    | some h =>
      show some (cl H (j + 1) h) = some (cl H j h)
      rw [cl_succ, if_neg (fun e2 => e (by rw [e2]; exact hds_idx hi)), List.append_nil]

/-- The place of each head below j. -/
def plc (H : Nat → Nat) (j : Nat) : Nat → Option Nat := fun h => if h < j ∧ H h = h then some (hc h H) else none
theorem plc_head {H : Nat → Nat} {j : Nat} (hj : H j = j) (i : Nat) : (fun i => if i = j then some (hc j H) else plc H j i) i = plc H (j + 1) i := by
  unfold plc
  by_cases e : i = j
  · subst e
    simp [hj]
  · by_cases h : i < j ∧ H i = i
    · have : i < j + 1 ∧ H i = i := ⟨by omega, h.2⟩
      simp [e, h, this]
    · have : ¬ (i < j + 1 ∧ H i = i) := fun h2 => h ⟨by omega, h2.2⟩
      simp [e, h, this]
theorem plc_other {H : Nat → Nat} {j : Nat} (hj : H j ≠ j) (i : Nat) : plc H j i = plc H (j + 1) i := by
  unfold plc
  by_cases h : i < j ∧ H i = i
  · rw [if_pos h, if_pos ⟨by omega, h.2⟩]
  · rw [if_neg h, if_neg]
    intro h2
    refine h ⟨?_, h2.2⟩
    rcases Nat.lt_or_ge i j with h3 | h3
    · exact h3
    · obtain rfl : i = j := by omega
      exact absurd h2.2 hj
theorem plc_at {H : Nat → Nat} {j h : Nat} (hj : h < j) (hh : H h = h) : plc H j h = some (hc h H) := by
  unfold plc
  rw [if_pos ⟨hj, hh⟩]
theorem hc_mono (H : Nat → Nat) {a b : Nat} (h : a ≤ b) : hc a H ≤ hc b H := by
  induction b with
  | zero => obtain rfl : a = 0 := by omega
            exact Nat.le_refl _
  | succ k ih =>
    rcases Nat.lt_or_ge k a with e | e
    · obtain rfl : a = k + 1 := by omega
      exact Nat.le_refl _
    · have := ih e
      rw [hc_succ]
      omega
end Go.Proofs.Ytjgabnphafkgoaa
