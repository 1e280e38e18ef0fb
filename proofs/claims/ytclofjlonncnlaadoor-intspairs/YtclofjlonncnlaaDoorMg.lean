/- Rows of two sets laid into one another, from the last one back. -/
import Derived.Test.YtclofjlonncnlaaDoorMin
set_option linter.unusedSimpArgs false
set_option linter.unusedVariables false
namespace Go.Proofs.YtclofjlonncnlaaDoor

/-- Two falling lists of rows, as join takes them: so many steps at most. -/
def mergeD : Nat → List Row → List Row → List Row
  | _, A, [] => A
  | _, [], B => B
  | 0, _ :: _, _ :: _ => []
  | f + 1, r :: A, s :: B => if r.at_ < s.at_ then s :: mergeD f (r :: A) B else if s.at_ < r.at_ then r :: mergeD f A (s :: B) else r.or_ s :: mergeD f A B
theorem mergeD_nil (f : Nat) (A : List Row) : mergeD f A [] = A := by
  unfold mergeD
  rfl
theorem mergeD_nil' (f : Nat) (B : List Row) : mergeD f [] B = B := by
  cases B <;> simp [mergeD]
theorem mergeD_fuel (f : Nat) (A B : List Row) (h : A.length + B.length ≤ f) : mergeD (f + 1) A B = mergeD f A B := by
  induction f generalizing A B with
  | zero =>
    have : A = [] := List.eq_nil_of_length_eq_zero (by omega)
    subst this
    rw [mergeD_nil', mergeD_nil']
  | succ f ih =>
    cases A with
    | nil => rw [mergeD_nil', mergeD_nil']
    | cons r A =>
      cases B with
      | nil => rw [mergeD_nil, mergeD_nil]
      | cons s B =>
        simp only [List.length_cons] at h
        rw [mergeD, mergeD]
        rw [ih (r :: A) B (by simp only [List.length_cons]; omega), ih A (s :: B) (by simp only [List.length_cons]; omega), ih A B (by omega)]
/-- Both sets' rows, rising. -/
def mergeR (A B : List Row) : List Row := (mergeD (A.length + B.length) A.reverse B.reverse).reverse
theorem mergeR_nil (A : List Row) : mergeR A [] = A := by simp [mergeR, mergeD_nil]
theorem mergeR_nil' (B : List Row) : mergeR [] B = B := by simp [mergeR, mergeD_nil']
theorem mergeR_lt (A B : List Row) (r s : Row) (h : r.at_ < s.at_) : mergeR (A ++ [r]) (B ++ [s]) = mergeR (A ++ [r]) B ++ [s] := by
  unfold mergeR
  rw [List.reverse_append, List.reverse_append]
  simp only [List.reverse_cons, List.reverse_nil, List.nil_append, List.singleton_append, List.length_append, List.length_cons, List.length_nil, Nat.zero_add]
  rw [show A.length + 1 + (B.length + 1) = (A.length + 1 + B.length) + 1 by omega, mergeD, if_pos h, List.reverse_cons]
theorem mergeR_gt (A B : List Row) (r s : Row) (h : s.at_ < r.at_) : mergeR (A ++ [r]) (B ++ [s]) = mergeR A (B ++ [s]) ++ [r] := by
  unfold mergeR
  rw [List.reverse_append, List.reverse_append]
  simp only [List.reverse_cons, List.reverse_nil, List.nil_append, List.singleton_append, List.length_append, List.length_cons, List.length_nil, Nat.zero_add]
  rw [show A.length + 1 + (B.length + 1) = (A.length + (B.length + 1)) + 1 by omega, mergeD, if_neg (by omega), if_pos h, List.reverse_cons]
theorem mergeR_eq (A B : List Row) (r s : Row) (h : r.at_ = s.at_) : mergeR (A ++ [r]) (B ++ [s]) = mergeR A B ++ [r.or_ s] := by
  unfold mergeR
  rw [List.reverse_append, List.reverse_append]
  simp only [List.reverse_cons, List.reverse_nil, List.nil_append, List.singleton_append, List.length_append, List.length_cons, List.length_nil, Nat.zero_add]
  rw [show A.length + 1 + (B.length + 1) = (A.length + B.length + 1) + 1 by omega, mergeD, if_neg (by omega), if_neg (by omega), List.reverse_cons, mergeD_fuel _ _ _ (by simp)]

theorem rowOf_at (rs : List Row) (t : Nat) : (rowOf rs t).at_ = t := by
  unfold rowOf
  split
  · rename_i r hr
    simpa using List.find?_some hr
  · rfl
theorem rowOf_snoc {A : List Row} {r : Row} (h : Asc (A ++ [r])) (t : Nat) : rowOf (A ++ [r]) t = if t = r.at_ then r else rowOf A t := by
  obtain ⟨h1, h2, h3⟩ := List.pairwise_append.1 h
  have := rowOf_ins (A := A) (C := []) (s := r) (by rw [List.append_nil]; exact h1) (fun q hq => h3 q hq r (by simp)) (by simp) t
  simpa using this
theorem asc_snoc {A : List Row} {r : Row} (h : Asc (A ++ [r])) : Asc A ∧ ∀ q ∈ A, q.at_ < r.at_ := by
  obtain ⟨h1, _, h3⟩ := List.pairwise_append.1 h
  exact ⟨h1, fun q hq => h3 q hq r (by simp)⟩
theorem snoc_asc {A : List Row} {r : Row} (h : Asc A) (hr : ∀ q ∈ A, q.at_ < r.at_) : Asc (A ++ [r]) :=
  List.pairwise_append.2 ⟨h, by simp, fun q hq c hc => by
    have : c = r := by simpa using hc
    subst this
    exact hr q hq⟩
theorem or_new (t : Nat) (s : Row) (h : s.at_ = t) : (newRow t).or_ s = s := by
  obtain ⟨a, w0, w1, w2, w3⟩ := s
  subst h
  simp [newRow, Row.or_]
theorem or_new' (t : Nat) (s : Row) : s.or_ (newRow t) = s := by
  obtain ⟨a, w0, w1, w2, w3⟩ := s
  simp [newRow, Row.or_]
/-- What the merged rows are. -/
structure Merged (A B F : List Row) : Prop where
  asc : Asc F
  from_ : ∀ r ∈ F, (∃ q ∈ A, q.at_ = r.at_) ∨ ∃ q ∈ B, q.at_ = r.at_
  row : ∀ t, rowOf F t = (rowOf A t).or_ (rowOf B t)
  len : F.length = A.length + lackN A B
theorem hasRow_iff (rs : List Row) (t : Nat) : hasRow rs t = true ↔ ∃ q ∈ rs, q.at_ = t := by simp [hasRow]
theorem lackN_append (A B C : List Row) : lackN A (B ++ C) = lackN A B + lackN A C := by simp [lackN]
theorem lackN_congr {A A' B : List Row} (h : ∀ q ∈ B, hasRow A q.at_ = hasRow A' q.at_) : lackN A B = lackN A' B := by
  unfold lackN
  congr 1
  apply List.filter_congr
  intro q hq
  rw [h q hq]
theorem merged : ∀ (N : Nat) (A B : List Row), A.length + B.length ≤ N → Asc A → Asc B → Merged A B (mergeR A B) := by
  intro N
  induction N with
  | zero =>
    intro A B h _ _
    have e1 : A = [] := List.eq_nil_of_length_eq_zero (by omega)
    have e2 : B = [] := List.eq_nil_of_length_eq_zero (by omega)
    subst e1 e2
    rw [mergeR_nil]
    exact ⟨List.Pairwise.nil, by simp, fun t => by rw [rowOf_no (by simp), or_new']; , rfl⟩
  | succ N ih =>
    intro A B h hA hB
    rcases List.eq_nil_or_concat A with rfl | ⟨A', r, rfl⟩
    · rw [mergeR_nil']
      refine ⟨hB, fun r hr => .inr ⟨r, hr, rfl⟩, fun t => ?_, ?_⟩
      · rw [rowOf_no (rs := []) (by simp), or_new t _ (rowOf_at B t)]
      · have : B.filter (fun r => !hasRow [] r.at_) = B := List.filter_eq_self.2 (fun q _ => by simp [hasRow])
        simp only [lackN, this]
        simp
    · rcases List.eq_nil_or_concat B with rfl | ⟨B', s, rfl⟩
      · rw [mergeR_nil]
        refine ⟨hA, fun r hr => .inl ⟨r, hr, rfl⟩, fun t => ?_, ?_⟩
        · rw [rowOf_no (rs := []) (by simp), or_new']
        · simp [lackN]
      · simp only [List.concat_eq_append, List.length_append, List.length_cons, List.length_nil] at *
        obtain ⟨hA1, hA2⟩ := asc_snoc hA
        obtain ⟨hB1, hB2⟩ := asc_snoc hB
        rcases Nat.lt_trichotomy r.at_ s.at_ with hc | hc | hc
        · rw [mergeR_lt A' B' r s hc]
          have m := ih (A' ++ [r]) B' (by simp; omega) hA hB1
          have hno : ∀ q ∈ A' ++ [r], q.at_ < s.at_ := fun q hq => by
            rcases List.mem_append.1 hq with hq | hq
            · have := hA2 q hq; omega
            · have : q = r := by simpa using hq
              subst this; exact hc
          have hF : Asc (mergeR (A' ++ [r]) B' ++ [s]) := snoc_asc m.asc (fun q hq => by
            rcases m.from_ q hq with ⟨x, hx, e⟩ | ⟨x, hx, e⟩
            · have := hno x hx; omega
            · have := hB2 x hx; omega)
          refine ⟨hF, fun q hq => ?_, fun t => ?_, ?_⟩
          · rcases List.mem_append.1 hq with hq | hq
            · rcases m.from_ q hq with h1 | ⟨x, hx, e⟩
              · exact .inl h1
              · exact .inr ⟨x, by simp [hx], e⟩
            · have : q = s := by simpa using hq
              subst this
              exact .inr ⟨q, by simp, rfl⟩
          · rw [rowOf_snoc hF, rowOf_snoc hB, m.row]
            split
            · rename_i e
              subst e
              rw [rowOf_no (rs := A' ++ [r]) (fun q hq => by have := hno q hq; omega), or_new _ _ rfl]
            · rfl
          · have h1 : hasRow (A' ++ [r]) s.at_ = false := by
              cases hh : hasRow (A' ++ [r]) s.at_
              · rfl
              · obtain ⟨q, hq, e⟩ := (hasRow_iff _ _).1 hh
                have := hno q hq
                omega
            rw [List.length_append, m.len, lackN_append]
            simp only [List.length_append, List.length_cons, List.length_nil, lackN, List.filter_cons, h1, List.filter_nil]
            simp
            omega
        · rw [mergeR_eq A' B' r s hc]
          have m := ih A' B' (by omega) hA1 hB1
          have hF : Asc (mergeR A' B' ++ [r.or_ s]) := snoc_asc m.asc (fun q hq => by
            rcases m.from_ q hq with ⟨x, hx, e⟩ | ⟨x, hx, e⟩
            · have := hA2 x hx
              show q.at_ < r.at_
              omega
            · have := hB2 x hx
              show q.at_ < r.at_
              omega)
          refine ⟨hF, fun q hq => ?_, fun t => ?_, ?_⟩
          · rcases List.mem_append.1 hq with hq | hq
            · rcases m.from_ q hq with ⟨x, hx, e⟩ | ⟨x, hx, e⟩
              · exact .inl ⟨x, by simp [hx], e⟩
              · exact .inr ⟨x, by simp [hx], e⟩
            · have : q = r.or_ s := by simpa using hq
              subst this
              exact .inl ⟨r, by simp, rfl⟩
          · rw [rowOf_snoc hF, rowOf_snoc hA, rowOf_snoc hB, m.row]
            by_cases e : t = r.at_
            · rw [if_pos e, if_pos (show t = (r.or_ s).at_ from e), if_pos (by omega)]
            · rw [if_neg e, if_neg (show ¬ t = (r.or_ s).at_ from e), if_neg (by omega)]
          · have h1 : hasRow (A' ++ [r]) s.at_ = true := (hasRow_iff _ _).2 ⟨r, by simp, hc⟩
            rw [List.length_append, m.len, lackN_append]
            have h2 : lackN (A' ++ [r]) B' = lackN A' B' := lackN_congr (fun q hq => by
              have hq2 := hB2 q hq
              rw [Bool.eq_iff_iff, hasRow_iff, hasRow_iff]
              constructor
              · rintro ⟨x, hx, e⟩
                rcases List.mem_append.1 hx with hx | hx
                · exact ⟨x, hx, e⟩
                · have : x = r := by simpa using hx
                  subst this
                  omega
              · rintro ⟨x, hx, e⟩
                exact ⟨x, by simp [hx], e⟩)
            rw [h2]
            simp only [List.length_append, List.length_cons, List.length_nil, lackN, List.filter_cons, h1, List.filter_nil]
            simp
            omega
        · rw [mergeR_gt A' B' r s hc]
          have m := ih A' (B' ++ [s]) (by simp; omega) hA1 hB
          have hno : ∀ q ∈ B' ++ [s], q.at_ < r.at_ := fun q hq => by
            rcases List.mem_append.1 hq with hq | hq
            · have := hB2 q hq; omega
            · have : q = s := by simpa using hq
              subst this; exact hc
          have hF : Asc (mergeR A' (B' ++ [s]) ++ [r]) := snoc_asc m.asc (fun q hq => by
            rcases m.from_ q hq with ⟨x, hx, e⟩ | ⟨x, hx, e⟩
            · have := hA2 x hx; omega
            · have := hno x hx; omega)
          refine ⟨hF, fun q hq => ?_, fun t => ?_, ?_⟩
          · rcases List.mem_append.1 hq with hq | hq
            · rcases m.from_ q hq with ⟨x, hx, e⟩ | h1
              · exact .inl ⟨x, by simp [hx], e⟩
              · exact .inr h1
            · have : q = r := by simpa using hq
              subst this
              exact .inl ⟨q, by simp, rfl⟩
          · rw [rowOf_snoc hF, rowOf_snoc hA, m.row]
            split
            · rename_i e
              subst e
              rw [rowOf_no (rs := B' ++ [s]) (fun q hq => by have := hno q hq; omega), or_new']
            · rfl
          · have h2 : lackN (A' ++ [r]) (B' ++ [s]) = lackN A' (B' ++ [s]) := lackN_congr (fun q hq => by
              have hq2 := hno q hq
              rw [Bool.eq_iff_iff, hasRow_iff, hasRow_iff]
              constructor
              · rintro ⟨x, hx, e⟩
                rcases List.mem_append.1 hx with hx | hx
                · exact ⟨x, hx, e⟩
                · have : x = r := by simpa using hx
                  subst this
                  omega
              · rintro ⟨x, hx, e⟩
                exact ⟨x, by simp [hx], e⟩)
            rw [List.length_append, m.len, h2]
            simp only [List.length_append, List.length_cons, List.length_nil]
            omega
end Go.Proofs.YtclofjlonncnlaaDoor
