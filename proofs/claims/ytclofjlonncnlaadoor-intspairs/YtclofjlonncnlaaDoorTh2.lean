/- What adding a number does to the rows. -/
import Derived.Test.YtclofjlonncnlaaDoorTh
set_option linter.unusedSimpArgs false
set_option linter.unusedVariables false
namespace Go.Proofs.YtclofjlonncnlaaDoor

theorem asc_set {A C : List Row} {r s : Row} (h : Asc (A ++ r :: C)) (he : s.at_ = r.at_) : Asc (A ++ s :: C) := by
  obtain ⟨h1, h2, h3⟩ := List.pairwise_append.1 h
  obtain ⟨h4, h5⟩ := List.pairwise_cons.1 h2
  refine List.pairwise_append.2 ⟨h1, List.pairwise_cons.2 ⟨fun x hx => by rw [he]; exact h4 x hx, h5⟩, fun a ha c hc => ?_⟩
  rcases List.mem_cons.1 hc with e | e
  · subst e; rw [he]; exact h3 a ha r (by simp)
  · exact h3 a ha c (by simp [e])
theorem asc_ins {A C : List Row} {s : Row} (h : Asc (A ++ C)) (hA : ∀ r ∈ A, r.at_ < s.at_) (hC : ∀ r ∈ C, s.at_ < r.at_) : Asc (A ++ s :: C) := by
  obtain ⟨h1, h2, h3⟩ := List.pairwise_append.1 h
  refine List.pairwise_append.2 ⟨h1, List.pairwise_cons.2 ⟨hC, h2⟩, fun a ha c hc => ?_⟩
  rcases List.mem_cons.1 hc with e | e
  · subst e; exact hA a ha
  · exact h3 a ha c e
theorem rowOf_set {A C : List Row} {r s : Row} (h : Asc (A ++ r :: C)) (he : s.at_ = r.at_) (t : Nat) : rowOf (A ++ s :: C) t = if t = r.at_ then s else rowOf (A ++ r :: C) t := by
  have h' := asc_set h he
  split
  · rename_i e
    subst e
    rw [← he]
    exact rowOf_mem h' (by simp)
  · rename_i e
    refine rowOf_congr h' h (fun q hq => ?_)
    have n1 : q ≠ s := fun e2 => e (by rw [← hq, e2, he])
    have n2 : q ≠ r := fun e2 => e (by rw [← hq, e2])
    simp [n1, n2]
theorem rowOf_ins {A C : List Row} {s : Row} (h : Asc (A ++ C)) (hA : ∀ r ∈ A, r.at_ < s.at_) (hC : ∀ r ∈ C, s.at_ < r.at_) (t : Nat) : rowOf (A ++ s :: C) t = if t = s.at_ then s else rowOf (A ++ C) t := by
  have h' := asc_ins h hA hC
  split
  · rename_i e
    subst e
    exact rowOf_mem h' (by simp)
  · rename_i e
    refine rowOf_congr h' h (fun q hq => ?_)
    have n1 : q ≠ s := fun e2 => e (by rw [← hq, e2])
    simp [n1]
theorem word_setWord (r : Row) (i j x : Nat) (hi : i < 4) (hj : j < 4) : (r.setWord i x).word j = if j = i then x else r.word j := by
  match i, hi with
  | 0, _ => match j, hj with
    | 0, _ => rfl
    | 1, _ => rfl
    | 2, _ => rfl
    | 3, _ => rfl
  | 1, _ => match j, hj with
    | 0, _ => rfl
    | 1, _ => rfl
    | 2, _ => rfl
    | 3, _ => rfl
  | 2, _ => match j, hj with
    | 0, _ => rfl
    | 1, _ => rfl
    | 2, _ => rfl
    | 3, _ => rfl
  | 3, _ => match j, hj with
    | 0, _ => rfl
    | 1, _ => rfl
    | 2, _ => rfl
    | 3, _ => rfl
theorem at_setWord (r : Row) (i x : Nat) : (r.setWord i x).at_ = r.at_ := by
  unfold Row.setWord
  split <;> rfl
theorem fits_setWord {r : Row} (h : r.Fits) (i x : Nat) (hx : x < 18446744073709551616) : (r.setWord i x).Fits := by
  obtain ⟨a, b0, b1, b2, b3⟩ := h
  unfold Row.setWord
  split <;> constructor <;> assumption
theorem count_words (r : Row) : r.count = popN 64 (r.word 0) + popN 64 (r.word 1) + popN 64 (r.word 2) + popN 64 (r.word 3) := rfl
theorem count_pos {r : Row} {j : Nat} (hj : j < 256) (hb : r.bit j = true) : 0 < r.count := by
  rw [← Row.nums_length]
  have : (r.at_ * 256 + (j : Int)) ∈ r.nums := (mem_rowNums r _).2 ⟨j, hj, hb, rfl⟩
  exact List.length_pos_of_mem this
/-- The row with the bit of a number set. -/
def Row.put (r : Row) (n : Nat) : Row := r.setWord (n % 256 / 64) (r.word (n % 256 / 64) ||| 2 ^ (n % 64))
theorem bit_put (r : Row) (n j : Nat) (hj : j < 256) : (r.put n).bit j = (r.bit j || decide (j = n % 256)) := by
  unfold Row.put Row.bit
  rw [word_setWord r _ _ _ (by omega) (by omega)]
  split
  · rename_i e
    rw [e, Nat.testBit_or, Nat.testBit_two_pow]
    congr 1
    rw [decide_eq_decide]
    omega
  · rename_i e
    have : ¬ j = n % 256 := fun e2 => e (by rw [e2])
    simp [this]
theorem fits_put {r : Row} (h : r.Fits) (n : Nat) : (r.put n).Fits := fits_setWord h _ _ (Nat.or_lt_two_pow (n := 64) (word_lt h _) (pow_lt64 n))
theorem count_put (r : Row) (n : Nat) : 0 < (r.put n).count := count_pos (j := n % 256) (by omega) (by rw [bit_put r n _ (by omega)]; simp)
theorem at_put (r : Row) (n : Nat) : (r.put n).at_ = r.at_ := at_setWord _ _ _
/-- Rows that are a set's, with one number more. -/
structure Put (rs ss : List Row) (n : Nat) : Prop where
  ok : Ok ss
  has : ∀ m, hasN ss m = (hasN rs m || decide (m = n))
theorem put_set {A C : List Row} {r : Row} {n : Nat} (h : Ok (A ++ r :: C)) (he : r.at_ = n / 256) : Put (A ++ r :: C) (A ++ r.put n :: C) n := by
  constructor
  · refine ⟨asc_set h.asc (at_put r n), fun s hs => ?_, fun s hs => ?_⟩
    · rcases List.mem_append.1 hs with hs | hs
      · exact h.fits s (by simp [hs])
      · rcases List.mem_cons.1 hs with e | e
        · subst e; exact fits_put (h.fits r (by simp)) n
        · exact h.fits s (by simp [e])
    · rcases List.mem_append.1 hs with hs | hs
      · exact h.some_ s (by simp [hs])
      · rcases List.mem_cons.1 hs with e | e
        · subst e; exact count_put r n
        · exact h.some_ s (by simp [e])
  · intro m
    unfold hasN
    rw [rowOf_set h.asc (at_put r n)]
    split
    · rename_i e
      rw [e, rowOf_mem h.asc (r := r) (by simp), bit_put r n _ (by omega)]
      congr 1
      rw [decide_eq_decide]
      omega
    · rename_i e
      have : ¬ m = n := fun e2 => e (by rw [e2, he])
      simp [this]
theorem put_ins {A C : List Row} {n : Nat} (h : Ok (A ++ C)) (hn : n < 1048576) (hA : ∀ r ∈ A, r.at_ < n / 256) (hC : ∀ r ∈ C, n / 256 < r.at_) : Put (A ++ C) (A ++ (newRow (n / 256)).put n :: C) n := by
  have hat : ((newRow (n / 256)).put n).at_ = n / 256 := at_put _ _
  have hf : (newRow (n / 256)).Fits := ⟨by show n / 256 < 4096; omega, by show 0 < _; omega, by show 0 < _; omega, by show 0 < _; omega, by show 0 < _; omega⟩
  have hA' : ∀ r ∈ A, r.at_ < ((newRow (n / 256)).put n).at_ := fun r hr => by rw [hat]; exact hA r hr
  have hC' : ∀ r ∈ C, ((newRow (n / 256)).put n).at_ < r.at_ := fun r hr => by rw [hat]; exact hC r hr
  constructor
  · refine ⟨asc_ins h.asc hA' hC', fun s hs => ?_, fun s hs => ?_⟩
    · rcases List.mem_append.1 hs with hs | hs
      · exact h.fits s (by simp [hs])
      · rcases List.mem_cons.1 hs with e | e
        · subst e; exact fits_put hf n
        · exact h.fits s (by simp [e])
    · rcases List.mem_append.1 hs with hs | hs
      · exact h.some_ s (by simp [hs])
      · rcases List.mem_cons.1 hs with e | e
        · subst e; exact count_put _ n
        · exact h.some_ s (by simp [e])
  · intro m
    unfold hasN
    rw [rowOf_ins h.asc hA' hC', hat]
    split
    · rename_i e
      have hno : rowOf (A ++ C) (m / 256) = newRow (m / 256) := rowOf_no (fun r hr e2 => by
        rcases List.mem_append.1 hr with hr | hr
        · have := hA r hr; omega
        · have := hC r hr; omega)
      rw [hno, Row.bit_new, bit_put _ n _ (by omega), Row.bit_new]
      simp only [Bool.false_or, decide_eq_decide]
      omega
    · rename_i e
      have : ¬ m = n := fun e2 => e (by rw [e2])
      simp [this]
theorem nums_ext {rs : List Row} {l : List Int} (h : Ok rs) (hl : Sd l) (he : ∀ y, y ∈ l ↔ ∃ m : Nat, m < 1048576 ∧ hasN rs m = true ∧ y = (m : Int)) : nums rs = l :=
  sd_ext (sd_nums h.asc) hl (fun y => (mem_nums h y).trans (he y).symm)
theorem Put.nums {rs ss : List Row} {n : Nat} (h : Ok rs) (p : Put rs ss n) (hn : n < 1048576) : nums ss = putL (nums rs) n := by
  refine nums_ext p.ok (sd_putL (sd_nums h.asc) n) (fun y => ?_)
  rw [mem_putL, mem_nums h]
  constructor
  · rintro (⟨m, hm, hb, rfl⟩ | ⟨rfl, _⟩)
    · exact ⟨m, hm, by rw [p.has, hb]; rfl, rfl⟩
    · exact ⟨n, hn, by rw [p.has]; simp, rfl⟩
  · rintro ⟨m, hm, hb, rfl⟩
    rw [p.has] at hb
    simp only [Bool.or_eq_true, decide_eq_true_eq] at hb
    rcases hb with hb | rfl
    · exact .inl ⟨m, hm, hb, rfl⟩
    · exact .inr ⟨rfl, by simp [okB]; omega⟩
theorem hasB_nums {rs : List Row} (h : Ok rs) {n : Nat} (hn : n < 1048576) : hasB (nums rs) n = hasN rs n := by
  rw [Bool.eq_iff_iff, hasB_iff, mem_nums h]
  constructor
  · rintro ⟨m, _, hb, e⟩
    have : n = m := by omega
    subst this
    exact hb
  · intro hb
    exact ⟨n, hn, hb, rfl⟩
theorem hasB_nums_out {rs : List Row} (h : Ok rs) {n : Int} (hn : okB n = false) : hasB (nums rs) n = false := by
  cases hb : hasB (nums rs) n
  · rfl
  · obtain ⟨m, hm, _, rfl⟩ := (mem_nums h n).1 ((hasB_iff _ _).1 hb)
    simp [okB] at hn
    omega
end Go.Proofs.YtclofjlonncnlaaDoor
