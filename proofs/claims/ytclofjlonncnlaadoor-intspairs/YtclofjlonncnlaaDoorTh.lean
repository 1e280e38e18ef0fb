/- What the rows of a set stand for: plain facts on lists. -/
import Derived.Test.YtclofjlonncnlaaDoorAdd2
set_option linter.unusedSimpArgs false
set_option linter.unusedVariables false
namespace Go.Proofs.YtclofjlonncnlaaDoor

/-- Rising, each once. -/
def Sd (l : List Int) : Prop := l.Pairwise (· < ·)
theorem sd_ext {l t : List Int} (hl : Sd l) (ht : Sd t) (h : ∀ x, x ∈ l ↔ x ∈ t) : l = t := by
  induction l generalizing t with
  | nil =>
    cases t with
    | nil => rfl
    | cons y t => exact absurd ((h y).2 (by simp)) (by simp)
  | cons x l ih =>
    cases t with
    | nil => exact absurd ((h x).1 (by simp)) (by simp)
    | cons y t =>
      have h1 := List.pairwise_cons.1 hl
      have h2 := List.pairwise_cons.1 ht
      have e : x = y := by
        rcases List.mem_cons.1 ((h x).1 (by simp)) with e | e
        · exact e
        · rcases List.mem_cons.1 ((h y).2 (by simp)) with e' | e'
          · exact e'.symm
          · have a := h2.1 x e
            have b := h1.1 y e'
            omega
      subst e
      congr 1
      refine ih h1.2 h2.2 (fun z => ?_)
      constructor
      · intro hz
        rcases List.mem_cons.1 ((h z).1 (by simp [hz])) with e | e
        · subst e
          have := h1.1 z hz
          omega
        · exact e
      · intro hz
        rcases List.mem_cons.1 ((h z).2 (by simp [hz])) with e | e
        · subst e
          have := h2.1 z hz
          omega
        · exact e
theorem hasB_iff (l : List Int) (x : Int) : hasB l x = true ↔ x ∈ l := by simp [hasB]
theorem mem_putL (l : List Int) (n x : Int) : x ∈ putL l n ↔ x ∈ l ∨ (x = n ∧ okB n = true) := by
  unfold putL
  have h := List.takeWhile_append_dropWhile (p := fun y => decide (y < n)) (l := l)
  split
  · rename_i hc
    simp only [Bool.and_eq_true] at hc
    rw [List.mem_append, List.mem_cons]
    constructor
    · rintro (h1 | h1 | h1)
      · exact .inl (by rw [← h]; exact List.mem_append_left _ h1)
      · exact .inr ⟨h1, hc.1⟩
      · exact .inl (by rw [← h]; exact List.mem_append_right _ h1)
    · rintro (h1 | ⟨h1, _⟩)
      · rw [← h] at h1
        rcases List.mem_append.1 h1 with h2 | h2
        · exact .inl h2
        · exact .inr (.inr h2)
      · exact .inr (.inl h1)
  · rename_i hc
    constructor
    · exact .inl
    · rintro (h1 | ⟨rfl, h2⟩)
      · exact h1
      · simp only [h2, Bool.true_and, Bool.not_eq_true', Bool.not_eq_false] at hc
        exact (hasB_iff l x).1 hc
theorem of_takeWhile {p : Int → Bool} {l : List Int} {y : Int} (h : y ∈ l.takeWhile p) : p y = true := by
  induction l with
  | nil => simp at h
  | cons x t ih =>
    rw [List.takeWhile_cons] at h
    split at h
    · rcases List.mem_cons.1 h with e | e
      · subst e; assumption
      · exact ih e
    · simp at h
theorem sd_putL {l : List Int} (hl : Sd l) (n : Int) : Sd (putL l n) := by
  unfold putL
  split
  · rename_i hc
    simp only [Bool.and_eq_true, Bool.not_eq_true'] at hc
    have hn : n ∉ l := fun hm => by
      have := (hasB_iff l n).2 hm
      rw [this] at hc
      simp at hc
    have h := List.takeWhile_append_dropWhile (p := fun y => decide (y < n)) (l := l)
    have hp : Sd (l.takeWhile (fun y => decide (y < n)) ++ l.dropWhile (fun y => decide (y < n))) := by rw [h]; exact hl
    obtain ⟨p1, p2, p3⟩ := List.pairwise_append.1 hp
    have hlo : ∀ y ∈ l.takeWhile (fun y => decide (y < n)), y < n := fun y hy => by simpa using of_takeWhile hy
    have hhi : ∀ y ∈ l.dropWhile (fun y => decide (y < n)), n < y := by
      intro y hy
      have hym : y ∈ l := by rw [← h]; exact List.mem_append_right _ hy
      cases hd : l.dropWhile (fun y => decide (y < n)) with
      | nil => rw [hd] at hy; simp at hy
      | cons z t =>
        have hz : ¬ z < n := by
          have := List.head_dropWhile_not (fun y => decide (y < n)) (by rw [hd]; simp)
          simp [hd] at this
          omega
        have hzm : z ∈ l := by rw [← h, hd]; simp
        have hzn : z ≠ n := fun e => hn (e ▸ hzm)
        rw [hd] at hy p2
        rcases List.mem_cons.1 hy with e | e
        · omega
        · have := (List.pairwise_cons.1 p2).1 y e
          omega
    refine List.pairwise_append.2 ⟨p1, List.pairwise_cons.2 ⟨hhi, p2⟩, fun a ha c hc => ?_⟩
    rcases List.mem_cons.1 hc with e | e
    · subst e; exact hlo a ha
    · have h1 := hlo a ha
      have h2 := hhi c e
      omega
  · exact hl
theorem sd_ofL (ns : List Int) : Sd (ofL ns) := by
  unfold ofL
  have : ∀ (ns l : List Int), Sd l → Sd (ns.foldl putL l) := by
    intro ns
    induction ns with
    | nil => intro l h; exact h
    | cons x t ih => intro l h; exact ih _ (sd_putL h x)
  exact this ns [] List.Pairwise.nil
theorem length_putL {l : List Int} {n : Int} : (putL l n).length = l.length + if okB n && !hasB l n then 1 else 0 := by
  unfold putL
  split
  · have h := congrArg List.length (List.takeWhile_append_dropWhile (p := fun y => decide (y < n)) (l := l))
    simp only [List.length_append, List.length_cons] at h ⊢
    omega
  · rfl

/- rows -/
theorem rowOf_mem {rs : List Row} (ha : Asc rs) {r : Row} (hr : r ∈ rs) : rowOf rs r.at_ = r := by
  induction rs with
  | nil => simp at hr
  | cons s t ih =>
    have h1 := List.pairwise_cons.1 ha
    unfold rowOf
    rw [List.find?_cons]
    rcases List.mem_cons.1 hr with e | e
    · subst e; simp
    · have hlt := h1.1 r e
      have hb : (s.at_ == r.at_) = false := by simp; omega
      rw [hb]
      exact ih h1.2 e
theorem rowOf_no {rs : List Row} {t : Nat} (h : ∀ r ∈ rs, r.at_ ≠ t) : rowOf rs t = newRow t := by
  have : rs.find? (fun r => r.at_ == t) = none := by
    rw [List.find?_eq_none]
    intro r hr
    simpa using h r hr
  simp [rowOf, this, newRow]
theorem rowOf_congr {rs ss : List Row} (ha : Asc rs) (hs : Asc ss) {t : Nat} (h : ∀ r : Row, r.at_ = t → (r ∈ rs ↔ r ∈ ss)) : rowOf rs t = rowOf ss t := by
  by_cases hx : ∃ r ∈ rs, r.at_ = t
  · obtain ⟨r, hr, rfl⟩ := hx
    rw [rowOf_mem ha hr, rowOf_mem hs ((h r rfl).1 hr)]
  · have h1 : ∀ r ∈ rs, r.at_ ≠ t := fun r hr e => hx ⟨r, hr, e⟩
    have h2 : ∀ r ∈ ss, r.at_ ≠ t := fun r hr e => hx ⟨r, (h r e).2 hr, e⟩
    rw [rowOf_no h1, rowOf_no h2]
theorem Row.bit_new (t j : Nat) : (newRow t).bit j = false := by simp [Row.bit, newRow_word]
/-- A number is one of a row's just if the row's bit is set. -/
theorem mem_wordNums (b : Int) (x : Nat) (y : Int) : y ∈ wordNums b x ↔ ∃ j : Nat, j < 64 ∧ x.testBit j = true ∧ y = b + (j : Int) := by
  unfold wordNums
  rw [List.mem_map]
  constructor
  · rintro ⟨j, hj, rfl⟩
    obtain ⟨h1, h2⟩ := (mem_bitsL x j).1 hj
    exact ⟨j, h1, h2, rfl⟩
  · rintro ⟨j, h1, h2, rfl⟩
    exact ⟨j, (mem_bitsL x j).2 ⟨h1, h2⟩, rfl⟩
theorem mem_rowNums (r : Row) (y : Int) : y ∈ r.nums ↔ ∃ j : Nat, j < 256 ∧ r.bit j = true ∧ y = r.at_ * 256 + (j : Int) := by
  unfold Row.nums
  rw [List.mem_append, List.mem_append, List.mem_append, mem_wordNums, mem_wordNums, mem_wordNums, mem_wordNums]
  unfold Row.bit
  constructor
  · rintro (((⟨j, hj, hb, rfl⟩ | ⟨j, hj, hb, rfl⟩) | ⟨j, hj, hb, rfl⟩) | ⟨j, hj, hb, rfl⟩)
    · exact ⟨j, by omega, by rw [show j / 64 = 0 by omega, show j % 64 = j by omega]; exact hb, rfl⟩
    · exact ⟨64 + j, by omega, by rw [show (64 + j) / 64 = 1 by omega, show (64 + j) % 64 = j by omega]; exact hb, by omega⟩
    · exact ⟨128 + j, by omega, by rw [show (128 + j) / 64 = 2 by omega, show (128 + j) % 64 = j by omega]; exact hb, by omega⟩
    · exact ⟨192 + j, by omega, by rw [show (192 + j) / 64 = 3 by omega, show (192 + j) % 64 = j by omega]; exact hb, by omega⟩
  · rintro ⟨j, hj, hb, rfl⟩
    have hc : j / 64 = 0 ∨ j / 64 = 1 ∨ j / 64 = 2 ∨ j / 64 = 3 := by omega
    rcases hc with e | e | e | e <;> rw [e] at hb
    · exact .inl (.inl (.inl ⟨j % 64, by omega, hb, by omega⟩))
    · exact .inl (.inl (.inr ⟨j % 64, by omega, hb, by omega⟩))
    · exact .inl (.inr ⟨j % 64, by omega, hb, by omega⟩)
    · exact .inr ⟨j % 64, by omega, hb, by omega⟩
theorem mem_nums {rs : List Row} (h : Ok rs) (y : Int) : y ∈ nums rs ↔ ∃ m : Nat, m < 1048576 ∧ hasN rs m = true ∧ y = (m : Int) := by
  unfold nums
  rw [List.mem_flatMap]
  constructor
  · rintro ⟨r, hr, hy⟩
    obtain ⟨j, hj, hb, rfl⟩ := (mem_rowNums r y).1 hy
    have ha := (h.fits r hr).a
    refine ⟨r.at_ * 256 + j, by omega, ?_, by omega⟩
    unfold hasN
    rw [show (r.at_ * 256 + j) / 256 = r.at_ by omega, show (r.at_ * 256 + j) % 256 = j by omega, rowOf_mem h.asc hr]
    exact hb
  · rintro ⟨m, hm, hb, rfl⟩
    unfold hasN at hb
    by_cases hx : ∃ r ∈ rs, r.at_ = m / 256
    · obtain ⟨r, hr, he⟩ := hx
      rw [← he, rowOf_mem h.asc hr] at hb
      exact ⟨r, hr, (mem_rowNums r m).2 ⟨m % 256, by omega, hb, by omega⟩⟩
    · rw [rowOf_no (fun r hr e => hx ⟨r, hr, e⟩), Row.bit_new] at hb
      cases hb
theorem sd_wordNums (b : Int) (x : Nat) : Sd (wordNums b x) := by
  unfold wordNums Sd
  rw [List.pairwise_map]
  exact (bitsL_sorted x).imp (fun h => by omega)
theorem sd_rowNums (r : Row) : Sd r.nums := by
  have hw : ∀ (b : Int) (x : Nat) (y : Int), y ∈ wordNums b x → b ≤ y ∧ y < b + 64 := by
    intro b x y hy
    obtain ⟨j, hj, _, rfl⟩ := (mem_wordNums b x y).1 hy
    omega
  unfold Row.nums Sd
  refine List.pairwise_append.2 ⟨List.pairwise_append.2 ⟨List.pairwise_append.2 ⟨sd_wordNums _ _, sd_wordNums _ _, ?_⟩, sd_wordNums _ _, ?_⟩, sd_wordNums _ _, ?_⟩
  · intro a ha c hc
    have h1 := hw _ _ _ ha
    have h2 := hw _ _ _ hc
    omega
  · intro a ha c hc
    have h2 := hw _ _ _ hc
    rcases List.mem_append.1 ha with ha | ha <;> (have h1 := hw _ _ _ ha; omega)
  · intro a ha c hc
    have h2 := hw _ _ _ hc
    rcases List.mem_append.1 ha with ha | ha
    · rcases List.mem_append.1 ha with ha | ha <;> (have h1 := hw _ _ _ ha; omega)
    · have h1 := hw _ _ _ ha
      omega
theorem sd_nums {rs : List Row} (ha : Asc rs) : Sd (nums rs) := by
  induction rs with
  | nil => exact List.Pairwise.nil
  | cons r t ih =>
    have h1 := List.pairwise_cons.1 ha
    unfold nums Sd
    rw [List.flatMap_cons]
    refine List.pairwise_append.2 ⟨sd_rowNums r, ih h1.2, fun a hA c hc => ?_⟩
    obtain ⟨j, hj, _, rfl⟩ := (mem_rowNums r a).1 hA
    obtain ⟨s, hs, hc'⟩ := List.mem_flatMap.1 hc
    obtain ⟨i, hi, _, rfl⟩ := (mem_rowNums s c).1 hc'
    have := h1.1 s hs
    omega
end Go.Proofs.YtclofjlonncnlaaDoor
