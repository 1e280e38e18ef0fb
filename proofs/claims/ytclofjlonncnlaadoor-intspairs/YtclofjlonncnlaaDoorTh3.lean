/- What merging, taking away and meeting come to, as lists of numbers. -/
import Derived.Test.YtclofjlonncnlaaDoorJoin
set_option linter.unusedSimpArgs false
set_option linter.unusedVariables false
namespace Go.Proofs.YtclofjlonncnlaaDoor

theorem word_or (r s : Row) (i : Nat) : (r.or_ s).word i = r.word i ||| s.word i := by
  unfold Row.word Row.or_
  split <;> rfl
theorem bit_or (r s : Row) (j : Nat) : (r.or_ s).bit j = (r.bit j || s.bit j) := by
  unfold Row.bit
  rw [word_or, Nat.testBit_or]
theorem word_without (r s : Row) (i : Nat) : (r.without s).word i = andN (r.word i) (s.word i) := by
  unfold Row.word Row.without
  split <;> rfl
theorem bit_andN (a b : Nat) (hb : b < 18446744073709551616) (j : Nat) (hj : j < 64) : (andN a b).testBit j = (a.testBit j && !b.testBit j) := by
  unfold andN
  rw [Nat.testBit_and, show 18446744073709551615 - b = 2 ^ 64 - (b + 1) by omega, Nat.testBit_two_pow_sub_succ (by omega)]
  simp [hj]
theorem bit_without (r s : Row) (hs : s.Fits) (j : Nat) : (r.without s).bit j = (r.bit j && !s.bit j) := by
  unfold Row.bit
  rw [word_without, bit_andN _ _ (word_lt hs _) _ (by omega)]
theorem hasN_merge {rs ms : List Row} (h : Ok rs) (h' : Ok ms) (n : Nat) : hasN (mergeR rs ms) n = (hasN rs n || hasN ms n) := by
  have m := merged _ rs ms (Nat.le_refl _) h.asc h'.asc
  unfold hasN
  rw [m.row, bit_or]
theorem count_bit {r : Row} (h : 0 < r.count) : ∃ j, j < 256 ∧ r.bit j = true := by
  rw [← Row.nums_length] at h
  obtain ⟨x, hx⟩ := List.exists_mem_of_length_pos h
  obtain ⟨j, hj, hb, _⟩ := (mem_rowNums r x).1 hx
  exact ⟨j, hj, hb⟩
theorem fits_or {r s : Row} (hr : r.Fits) (hs : s.Fits) : (r.or_ s).Fits :=
  ⟨hr.a, Nat.or_lt_two_pow (n := 64) hr.b0 hs.b0, Nat.or_lt_two_pow (n := 64) hr.b1 hs.b1, Nat.or_lt_two_pow (n := 64) hr.b2 hs.b2, Nat.or_lt_two_pow (n := 64) hr.b3 hs.b3⟩
theorem ok_merge {rs ms : List Row} (h : Ok rs) (h' : Ok ms) : Ok (mergeR rs ms) := by
  have m := merged _ rs ms (Nat.le_refl _) h.asc h'.asc
  have hrow : ∀ r ∈ mergeR rs ms, r = (rowOf rs r.at_).or_ (rowOf ms r.at_) := fun r hr => by rw [← m.row, rowOf_mem m.asc hr]
  have hat : ∀ r ∈ mergeR rs ms, r.at_ < 4096 := fun r hr => by
    rcases m.from_ r hr with ⟨q, hq, e⟩ | ⟨q, hq, e⟩
    · have := (h.fits q hq).a; omega
    · have := (h'.fits q hq).a; omega
  refine ⟨m.asc, fun r hr => ?_, fun r hr => ?_⟩
  · rw [hrow r hr]
    exact fits_or (rowOf_fits h.fits (hat r hr)) (rowOf_fits h'.fits (hat r hr))
  · rcases m.from_ r hr with ⟨q, hq, e⟩ | ⟨q, hq, e⟩
    · obtain ⟨j, hj, hb⟩ := count_bit (h.some_ q hq)
      refine count_pos (j := j) hj ?_
      rw [hrow r hr, bit_or, ← e, rowOf_mem h.asc hq, hb]
      rfl
    · obtain ⟨j, hj, hb⟩ := count_bit (h'.some_ q hq)
      refine count_pos (j := j) hj ?_
      rw [hrow r hr, bit_or, ← e, rowOf_mem h'.asc hq, hb, Bool.or_true]
theorem hasN_minus {rs ss : List Row} (h : Ok rs) (h' : Ok ss) (n : Nat) (hn : n < 1048576) : hasN (minusR rs ss) n = (hasN rs n && !hasN ss n) := by
  have hm := minusR_ok (ss := ss) h
  have hsf := rowOf_fits h'.fits (show n / 256 < 4096 by omega)
  unfold hasN
  by_cases hx : ∃ r ∈ rs, r.at_ = n / 256
  · obtain ⟨r, hr, he⟩ := hx
    rw [← he, rowOf_mem h.asc hr]
    rw [← he] at hsf
    by_cases hc : 0 < (r.without (rowOf ss r.at_)).count
    · have hmem : r.without (rowOf ss r.at_) ∈ minusR rs ss := List.mem_filter.2 ⟨List.mem_map.2 ⟨r, hr, rfl⟩, by simpa using hc⟩
      have e2 : rowOf (minusR rs ss) r.at_ = r.without (rowOf ss r.at_) := rowOf_mem hm.asc hmem
      rw [e2, bit_without _ _ hsf]
    · have hno : rowOf (minusR rs ss) r.at_ = newRow r.at_ := rowOf_no (fun q hq e => by
        obtain ⟨h1, h2⟩ := List.mem_filter.1 hq
        obtain ⟨r', hr', rfl⟩ := List.mem_map.1 h1
        have e3 : r' = r := by
          have a1 := rowOf_mem h.asc hr'
          have a2 := rowOf_mem h.asc hr
          have a3 : r'.at_ = r.at_ := e
          rw [← a1, ← a2, a3]
        subst e3
        exact hc (by simpa using h2))
      rw [hno, Row.bit_new]
      cases hb : (r.bit (n % 256) && !(rowOf ss r.at_).bit (n % 256))
      · rfl
      · exact absurd (count_pos (r := r.without (rowOf ss r.at_)) (j := n % 256) (by omega) (by rw [bit_without _ _ hsf]; exact hb)) hc
  · rw [rowOf_no (rs := rs) (fun r hr e => hx ⟨r, hr, e⟩), Row.bit_new]
    have hno : rowOf (minusR rs ss) (n / 256) = newRow (n / 256) := rowOf_no (fun q hq e => by
      obtain ⟨h1, _⟩ := List.mem_filter.1 hq
      obtain ⟨r', hr', rfl⟩ := List.mem_map.1 h1
      exact hx ⟨r', hr', e⟩)
    rw [hno, Row.bit_new]
    rfl
theorem sd_filter {l : List Int} (h : Sd l) (p : Int → Bool) : Sd (l.filter p) := List.Pairwise.filter p h
theorem mem_minusL (a b : List Int) (x : Int) : x ∈ minusL a b ↔ x ∈ a ∧ x ∉ b := by
  unfold minusL
  rw [List.mem_filter]
  have := hasB_iff b x
  cases hb : hasB b x
  · have hn : x ∉ b := fun hm => by rw [this.2 hm] at hb; cases hb
    simp [hn]
  · have hm : x ∈ b := this.1 hb
    simp [hm]
theorem nums_minus {rs ss : List Row} (h : Ok rs) (h' : Ok ss) : nums (minusR rs ss) = minusL (nums rs) (nums ss) := by
  refine nums_ext (minusR_ok h) (sd_filter (sd_nums h.asc) _) (fun y => ?_)
  rw [mem_minusL, mem_nums h, mem_nums h']
  constructor
  · rintro ⟨⟨m, hm, hb, rfl⟩, hn⟩
    refine ⟨m, hm, ?_, rfl⟩
    rw [hasN_minus h h' m hm, hb]
    cases hs : hasN ss m
    · rfl
    · exact absurd ⟨m, hm, hs, rfl⟩ hn
  · rintro ⟨m, hm, hb, rfl⟩
    rw [hasN_minus h h' m hm] at hb
    simp only [Bool.and_eq_true, Bool.not_eq_true'] at hb
    refine ⟨⟨m, hm, hb.1, rfl⟩, ?_⟩
    rintro ⟨m', _, hb', e⟩
    have : m = m' := by omega
    subst this
    rw [hb'] at hb
    simp at hb
theorem mem_foldl_putL (ns l : List Int) (x : Int) : x ∈ ns.foldl putL l ↔ x ∈ l ∨ (x ∈ ns ∧ okB x = true) := by
  induction ns generalizing l with
  | nil => simp
  | cons n t ih =>
    rw [List.foldl_cons, ih, mem_putL, List.mem_cons]
    constructor
    · rintro ((h | ⟨rfl, h⟩) | ⟨h, h2⟩)
      · exact .inl h
      · exact .inr ⟨.inl rfl, h⟩
      · exact .inr ⟨.inr h, h2⟩
    · rintro (h | ⟨rfl | h, h2⟩)
      · exact .inl (.inl h)
      · exact .inl (.inr ⟨rfl, h2⟩)
      · exact .inr ⟨h, h2⟩
theorem mem_ofL (ns : List Int) (x : Int) : x ∈ ofL ns ↔ x ∈ ns ∧ okB x = true := by
  unfold ofL
  rw [mem_foldl_putL]
  simp
theorem okB_nums {rs : List Row} (h : Ok rs) {x : Int} (hx : x ∈ nums rs) : okB x = true := by
  obtain ⟨m, hm, _, rfl⟩ := (mem_nums h x).1 hx
  simp [okB]; omega
/-- The union of both lists. -/
def unionL (x y : List Int) : List Int := ofL (x ++ y)
theorem nums_merge {rs ss : List Row} (h : Ok rs) (h' : Ok ss) : nums (mergeR rs (minusR ss rs)) = unionL (nums rs) (nums ss) := by
  have hm := minusR_ok (ss := rs) h'
  refine nums_ext (ok_merge h hm) (sd_ofL _) (fun y => ?_)
  unfold unionL
  rw [mem_ofL, List.mem_append, mem_nums h, mem_nums h']
  constructor
  · rintro ⟨⟨m, hm1, hb, rfl⟩ | ⟨m, hm1, hb, rfl⟩, _⟩
    · exact ⟨m, hm1, by rw [hasN_merge h hm, hb]; rfl, rfl⟩
    · refine ⟨m, hm1, ?_, rfl⟩
      rw [hasN_merge h hm, hasN_minus h' h m hm1, hb]
      cases hasN rs m <;> rfl
  · rintro ⟨m, hm1, hb, rfl⟩
    rw [hasN_merge h hm, hasN_minus h' h m hm1] at hb
    refine ⟨?_, by simp [okB]; omega⟩
    simp only [Bool.or_eq_true, Bool.and_eq_true] at hb
    rcases hb with hb | ⟨hb, _⟩
    · exact .inl ⟨m, hm1, hb, rfl⟩
    · exact .inr ⟨m, hm1, hb, rfl⟩
theorem length_filter_not (p : Int → Bool) (l : List Int) : l.length = (l.filter p).length + (l.filter (fun x => !p x)).length := by
  induction l with
  | nil => rfl
  | cons x t ih =>
    cases h : p x
    · simp [List.filter_cons, h]; omega
    · simp [List.filter_cons, h]; omega
theorem length_parts {l a c : List Int} (hl : Sd l) (ha : Sd a) (hc : Sd c) (hd : ∀ x ∈ a, x ∉ c) (hm : ∀ x, x ∈ l ↔ x ∈ a ∨ x ∈ c) : l.length = a.length + c.length := by
  have e1 : l.filter (fun x => hasB a x) = a := sd_ext (sd_filter hl _) ha (fun x => by
    rw [List.mem_filter, hm, hasB_iff]
    constructor
    · exact fun h => h.2
    · exact fun h => ⟨.inl h, h⟩)
  have e2 : l.filter (fun x => !hasB a x) = c := sd_ext (sd_filter hl _) hc (fun x => by
    rw [List.mem_filter, hm]
    have hi := hasB_iff a x
    constructor
    · rintro ⟨h1 | h1, h2⟩
      · rw [hi.2 h1] at h2; simp at h2
      · exact h1
    · intro h1
      refine ⟨.inr h1, ?_⟩
      cases hb : hasB a x
      · rfl
      · exact absurd h1 (hd x (hi.1 hb)))
  have h3 := length_filter_not (fun x => hasB a x) l
  rw [e1, e2] at h3
  exact h3
theorem total_merge {rs ss : List Row} (h : Ok rs) (h' : Ok ss) : total (mergeR rs (minusR ss rs)) = total rs + total (minusR ss rs) := by
  have hm := minusR_ok (ss := rs) h'
  rw [← nums_length, ← nums_length, ← nums_length]
  refine length_parts (sd_nums (ok_merge h hm).asc) (sd_nums h.asc) (sd_nums hm.asc) (fun x hx hx2 => ?_) (fun x => ?_)
  · rw [nums_minus h' h, mem_minusL] at hx2
    exact hx2.2 hx
  · rw [nums_merge h h', nums_minus h' h, mem_minusL]
    unfold unionL
    rw [mem_ofL, List.mem_append]
    constructor
    · rintro ⟨h1 | h1, _⟩
      · exact .inl h1
      · by_cases h2 : x ∈ nums rs
        · exact .inl h2
        · exact .inr ⟨h1, h2⟩
    · rintro (h1 | ⟨h1, _⟩)
      · exact ⟨.inl h1, okB_nums h h1⟩
      · exact ⟨.inr h1, okB_nums h' h1⟩
/-- Rows are the same just if they have the same numbers. -/
theorem hasN_of_nums {rs ss : List Row} (h : Ok rs) (h' : Ok ss) (e : nums rs = nums ss) (n : Nat) (hn : n < 1048576) : hasN rs n = hasN ss n := by
  rw [← hasB_nums h hn, ← hasB_nums h' hn, e]
theorem Row.ext_word {r s : Row} (ha : r.at_ = s.at_) (h0 : r.word 0 = s.word 0) (h1 : r.word 1 = s.word 1) (h2 : r.word 2 = s.word 2) (h3 : r.word 3 = s.word 3) : r = s := by
  obtain ⟨a, w0, w1, w2, w3⟩ := r
  obtain ⟨b, v0, v1, v2, v3⟩ := s
  simp only [Row.word] at *
  simp [ha, h0, h1, h2, h3]
theorem row_ext {r s : Row} (hr : r.Fits) (hs : s.Fits) (ha : r.at_ = s.at_) (hb : ∀ j, j < 256 → r.bit j = s.bit j) : r = s := by
  have hw : ∀ i, i < 4 → r.word i = s.word i := by
    intro i hi
    apply Nat.eq_of_testBit_eq
    intro k
    by_cases hk : k < 64
    · have := hb (i * 64 + k) (by omega)
      unfold Row.bit at this
      rwa [show (i * 64 + k) / 64 = i by omega, show (i * 64 + k) % 64 = k by omega] at this
    · rw [Nat.testBit_lt_two_pow (Nat.lt_of_lt_of_le (word_lt hr i) (Nat.pow_le_pow_right (n := 2) (i := 64) (by omega) (by omega))), Nat.testBit_lt_two_pow (Nat.lt_of_lt_of_le (word_lt hs i) (Nat.pow_le_pow_right (n := 2) (i := 64) (by omega) (by omega)))]
  exact Row.ext_word ha (hw 0 (by omega)) (hw 1 (by omega)) (hw 2 (by omega)) (hw 3 (by omega))
theorem rows_mem {rs ss : List Row} (h : Ok rs) (h' : Ok ss) (e : nums rs = nums ss) {r : Row} (hr : r ∈ rs) : r ∈ ss := by
  have hra := (h.fits r hr).a
  have hbit : ∀ j, j < 256 → r.bit j = (rowOf ss r.at_).bit j := by
    intro j hj
    have := hasN_of_nums h h' e (r.at_ * 256 + j) (by omega)
    unfold hasN at this
    rwa [show (r.at_ * 256 + j) / 256 = r.at_ by omega, show (r.at_ * 256 + j) % 256 = j by omega, rowOf_mem h.asc hr] at this
  by_cases hx : ∃ s ∈ ss, s.at_ = r.at_
  · obtain ⟨s, hs, he⟩ := hx
    have e2 : rowOf ss r.at_ = s := by rw [← he]; exact rowOf_mem h'.asc hs
    have : r = s := row_ext (h.fits r hr) (h'.fits s hs) he.symm (fun j hj => by rw [hbit j hj, e2])
    rw [this]; exact hs
  · obtain ⟨j, hj, hb⟩ := count_bit (h.some_ r hr)
    rw [hbit j hj, rowOf_no (fun s hs he => hx ⟨s, hs, he⟩), Row.bit_new] at hb
    cases hb
theorem asc_ext {rs ss : List Row} (h : Asc rs) (h' : Asc ss) (hm : ∀ r, r ∈ rs ↔ r ∈ ss) : rs = ss := by
  induction rs generalizing ss with
  | nil =>
    cases ss with
    | nil => rfl
    | cons y t => exact absurd ((hm y).2 (by simp)) (by simp)
  | cons x l ih =>
    cases ss with
    | nil => exact absurd ((hm x).1 (by simp)) (by simp)
    | cons y t =>
      have h1 := List.pairwise_cons.1 h
      have h2 := List.pairwise_cons.1 h'
      have e : x = y := by
        rcases List.mem_cons.1 ((hm x).1 (by simp)) with e | e
        · exact e
        · rcases List.mem_cons.1 ((hm y).2 (by simp)) with e' | e'
          · exact e'.symm
          · have a := h2.1 x e
            have b := h1.1 y e'
            omega
      subst e
      congr 1
      refine ih h1.2 h2.2 (fun z => ?_)
      constructor
      · intro hz
        rcases List.mem_cons.1 ((hm z).1 (by simp [hz])) with e | e
        · subst e
          have := h1.1 z hz
          omega
        · exact e
      · intro hz
        rcases List.mem_cons.1 ((hm z).2 (by simp [hz])) with e | e
        · subst e
          have := h2.1 z hz
          omega
        · exact e
theorem rows_eq {rs ss : List Row} (h : Ok rs) (h' : Ok ss) : rs = ss ↔ nums rs = nums ss :=
  ⟨fun e => by rw [e], fun e => asc_ext h.asc h'.asc (fun r => ⟨fun hr => rows_mem h h' e hr, fun hr => rows_mem h' h e.symm hr⟩)⟩

theorem and_bits {a b : Nat} (ha : a < 18446744073709551616) : (a &&& b != 0) = true ↔ ∃ k, k < 64 ∧ a.testBit k = true ∧ b.testBit k = true := by
  rw [bne_iff_ne]
  constructor
  · intro h
    obtain ⟨k, hk⟩ := Nat.exists_testBit_of_ne_zero h
    rw [Nat.testBit_and, Bool.and_eq_true] at hk
    refine ⟨k, ?_, hk.1, hk.2⟩
    rcases Nat.lt_or_ge k 64 with h1 | h1
    · exact h1
    · rw [Nat.testBit_lt_two_pow (Nat.lt_of_lt_of_le ha (Nat.pow_le_pow_right (n := 2) (i := 64) (by omega) h1))] at hk
      simp at hk
  · rintro ⟨k, _, h1, h2⟩ e
    have : (a &&& b).testBit k = true := by rw [Nat.testBit_and, h1, h2]; rfl
    rw [e, Nat.zero_testBit] at this
    cases this
theorem rowMeets_iff {r s : Row} (hr : r.Fits) : r.meets s = true ↔ ∃ j, j < 256 ∧ r.bit j = true ∧ s.bit j = true := by
  unfold Row.meets B4
  simp only [Bool.or_eq_true]
  rw [and_bits hr.b0, and_bits hr.b1, and_bits hr.b2, and_bits hr.b3]
  unfold Row.bit
  constructor
  · rintro (((⟨k, hk, h1, h2⟩ | ⟨k, hk, h1, h2⟩) | ⟨k, hk, h1, h2⟩) | ⟨k, hk, h1, h2⟩)
    · exact ⟨k, by omega, by rw [show k / 64 = 0 by omega, show k % 64 = k by omega]; exact h1, by rw [show k / 64 = 0 by omega, show k % 64 = k by omega]; exact h2⟩
    · exact ⟨64 + k, by omega, by rw [show (64 + k) / 64 = 1 by omega, show (64 + k) % 64 = k by omega]; exact h1, by rw [show (64 + k) / 64 = 1 by omega, show (64 + k) % 64 = k by omega]; exact h2⟩
    · exact ⟨128 + k, by omega, by rw [show (128 + k) / 64 = 2 by omega, show (128 + k) % 64 = k by omega]; exact h1, by rw [show (128 + k) / 64 = 2 by omega, show (128 + k) % 64 = k by omega]; exact h2⟩
    · exact ⟨192 + k, by omega, by rw [show (192 + k) / 64 = 3 by omega, show (192 + k) % 64 = k by omega]; exact h1, by rw [show (192 + k) / 64 = 3 by omega, show (192 + k) % 64 = k by omega]; exact h2⟩
  · rintro ⟨j, hj, h1, h2⟩
    have hc : j / 64 = 0 ∨ j / 64 = 1 ∨ j / 64 = 2 ∨ j / 64 = 3 := by omega
    rcases hc with e | e | e | e <;> rw [e] at h1 h2
    · exact .inl (.inl (.inl ⟨j % 64, by omega, h1, h2⟩))
    · exact .inl (.inl (.inr ⟨j % 64, by omega, h1, h2⟩))
    · exact .inl (.inr ⟨j % 64, by omega, h1, h2⟩)
    · exact .inr ⟨j % 64, by omega, h1, h2⟩
theorem meetsB_iff {rs ss : List Row} (h : Ok rs) (h' : Ok ss) : meetsB rs ss = true ↔ ∃ x, x ∈ nums rs ∧ x ∈ nums ss := by
  unfold meetsB
  rw [List.any_eq_true]
  constructor
  · rintro ⟨r, hr, hm⟩
    obtain ⟨j, hj, h1, h2⟩ := (rowMeets_iff (h.fits r hr)).1 hm
    have hra := (h.fits r hr).a
    refine ⟨((r.at_ * 256 + j : Nat) : Int), (mem_nums h _).2 ⟨_, by omega, ?_, rfl⟩, (mem_nums h' _).2 ⟨_, by omega, ?_, rfl⟩⟩
    · unfold hasN
      rw [show (r.at_ * 256 + j) / 256 = r.at_ by omega, show (r.at_ * 256 + j) % 256 = j by omega, rowOf_mem h.asc hr]
      exact h1
    · unfold hasN
      rw [show (r.at_ * 256 + j) / 256 = r.at_ by omega, show (r.at_ * 256 + j) % 256 = j by omega]
      exact h2
  · rintro ⟨x, hx, hy⟩
    obtain ⟨m, hm, hb, rfl⟩ := (mem_nums h x).1 hx
    obtain ⟨m', _, hb', e⟩ := (mem_nums h' _).1 hy
    have e2 : m = m' := by omega
    subst e2
    unfold hasN at hb hb'
    by_cases hex : ∃ r ∈ rs, r.at_ = m / 256
    · obtain ⟨r, hr, he⟩ := hex
      rw [← he, rowOf_mem h.asc hr] at hb
      rw [← he] at hb'
      exact ⟨r, hr, (rowMeets_iff (h.fits r hr)).2 ⟨m % 256, by omega, hb, hb'⟩⟩
    · rw [rowOf_no (fun r hr e => hex ⟨r, hr, e⟩), Row.bit_new] at hb
      cases hb
theorem minusL_lt (x y : List Int) : (minusL x y).length < x.length ↔ ∃ z, z ∈ x ∧ z ∈ y := by
  have h := length_filter_not (fun z => !hasB y z) x
  have e : (x.filter (fun z => !(!hasB y z))).length > 0 ↔ ∃ z, z ∈ x ∧ z ∈ y := by
    constructor
    · intro hp
      obtain ⟨z, hz⟩ := List.exists_mem_of_length_pos hp
      obtain ⟨h1, h2⟩ := List.mem_filter.1 hz
      exact ⟨z, h1, (hasB_iff y z).1 (by simpa using h2)⟩
    · rintro ⟨z, h1, h2⟩
      exact List.length_pos_of_mem (List.mem_filter.2 ⟨h1, by simpa using (hasB_iff y z).2 h2⟩)
  rw [← e]
  unfold minusL
  omega
theorem meetsB_eq {rs ss : List Row} (h : Ok rs) (h' : Ok ss) : meetsB rs ss = decide ((minusL (nums rs) (nums ss)).length < (nums rs).length) := by
  rw [Bool.eq_iff_iff, meetsB_iff h h', decide_eq_true_eq, minusL_lt]
end Go.Proofs.YtclofjlonncnlaaDoor
