/- Tokens laid one behind the other, with something between, are the same tokens. -/
import Derived.Test.YthdoihemjndmlaaDoorSt
import Derived.Test.YthdoihemjndmlaaDoorLPlaces
set_option linter.unusedSimpArgs false
set_option linter.unusedVariables false
namespace Go.Proofs.YthdoihemjndmlaaDoor
open Go.RowKit

theorem lxs_blank {c : UInt8} (r : List UInt8) (p : Nat × Nat) (h : kN c.toNat = 3) : lxs (c :: r) p = lxs r (adv p c) := by
  have hb : isB c = true := by rw [isB_kN]; simpa using h
  have hh : isH c = false := by rw [isH_kN, h]; rfl
  have hg : gpN (c :: r) = (r.takeWhile isB).length + 1 := by
    simp [gpN, runN, hb, hh]
    omega
  rw [lxs_gap p (by omega), hg, List.drop_succ_cons, List.take_succ_cons]
  have e1 : pss p (c :: r.take (r.takeWhile isB).length) = pss (adv p c) (r.take (r.takeWhile isB).length) := rfl
  rw [e1]
  cases r with
  | nil => rfl
  | cons d r =>
    cases hbd : isB d with
    | false =>
      simp only [List.takeWhile_cons, hbd]
      rfl
    | true =>
      have hhd : isH d = false := by
        rw [isB_kN, decide_eq_true_eq] at hbd
        rw [isH_kN, hbd]
        rfl
      have hg2 : gpN (d :: r) = ((d :: r).takeWhile isB).length := by
        simp [gpN, runN, hbd, hhd, List.takeWhile_cons]
        omega
      rw [lxs_gap (adv p c) (t := d :: r) (by rw [hg2]; simp [List.takeWhile_cons, hbd]), hg2]

/-- What may stand between. -/
def gapsL : List (List UInt8) := [[32], [10], [9, 32, 13], [32, 35, 32, 120, 32, 59, 10]]
theorem gap_skip {g : List UInt8} (hg : g ∈ gapsL) (r : List UInt8) (p : Nat × Nat) : lxs (g ++ r) p = lxs r (pss p g) := by
  simp only [gapsL, List.mem_cons, List.not_mem_nil, or_false] at hg
  rcases hg with rfl | rfl | rfl | rfl
  · exact lxs_blank r p rfl
  · exact lxs_blank r p rfl
  · show lxs (9 :: 32 :: 13 :: r) p = _
    rw [lxs_blank _ _ rfl, lxs_blank _ _ rfl, lxs_blank _ _ rfl]
    rfl
  · show lxs (32 :: 35 :: 32 :: 120 :: 32 :: 59 :: 10 :: r) p = _
    rw [lxs_blank _ _ rfl, lxs_gap _ (show 0 < gpN (35 :: 32 :: 120 :: 32 :: 59 :: 10 :: r) from Nat.lt_of_lt_of_eq (by decide : 0 < 5) rfl)]
    rw [show gpN (35 :: 32 :: 120 :: 32 :: 59 :: 10 :: r) = 5 from rfl]
    show lxs (10 :: r) _ = _
    rw [lxs_blank _ _ rfl]
    rfl
theorem gap_first {g : List UInt8} (hg : g ∈ gapsL) : ∃ d g', g = d :: g' ∧ kN d.toNat = 3 := by
  simp only [gapsL, List.mem_cons, List.not_mem_nil, or_false] at hg
  rcases hg with rfl | rfl | rfl | rfl <;> exact ⟨_, _, rfl, rfl⟩
theorem gap_len {g : List UInt8} (hg : g ∈ gapsL) : g.length ≤ 7 := by
  simp only [gapsL, List.mem_cons, List.not_mem_nil, or_false] at hg
  rcases hg with rfl | rfl | rfl | rfl <;> decide

theorem takeWhile_stop {q : UInt8 → Bool} {d : UInt8} (rest : List UInt8) (hd : q d = false) : ∀ x : List UInt8, (∀ y ∈ x, q y = true) → (x ++ d :: rest).takeWhile q = x
  | [], _ => by simp [List.takeWhile_cons, hd]
  | y :: x, h => by
    rw [List.cons_append, List.takeWhile_cons, if_pos (h y (by simp)), takeWhile_stop rest hd x (fun z hz => h z (by simp [hz]))]

/-- A text that is one token, whole. -/
def One (x : List UInt8) (kd : Nat) : Prop := x ≠ [] ∧ gpN x = 0 ∧ fst3 x = (0, x.length, kd)

theorem gp_kN {c : UInt8} {r : List UInt8} (h : gpN (c :: r) = 0) : kN c.toNat ≠ 3 ∧ kN c.toNat ≠ 4 := by
  constructor
  · intro k
    have hb : isB c = true := by rw [isB_kN]; simpa using k
    simp [gpN, runN, hb] at h
  · intro k
    have hb : isH c = true := by rw [isH_kN]; simpa using k
    simp [gpN, runN, hb] at h

/-- What fst3 tells, by the first octet's kind. -/
theorem fst3_cases {c : UInt8} {r : List UInt8} {k kd : Nat} (hg : gpN (c :: r) = 0) (h : fst3 (c :: r) = (0, k, kd)) :
    (kN c.toNat = 0 ∧ k = 1 + (r.takeWhile isW).length ∧ kd = 0 ∧ k ≤ 32) ∨ (kN c.toNat = 1 ∧ k = 1 + (r.takeWhile isD).length ∧ kd = 1 ∧ k ≤ 3) ∨ (kN c.toNat = 2 ∧ k = 1 ∧ kd = 2) ∨ (kN c.toNat = 5 ∧ r[0]? = some 58 ∧ k = 2 ∧ kd = 2) := by
  obtain ⟨h3, h4⟩ := gp_kN hg
  by_cases k0 : kN c.toNat = 0
  · have hL : isL c = true := by rw [isL_kN]; simpa using k0
    have hp := wd_some r k0
    have hw : wdN (c :: r) = 1 + (r.takeWhile isW).length := by simp [wdN, runN, hL]
    by_cases hb : 32 < wdN (c :: r)
    · simp [fst3, hb] at h
    · simp only [fst3, if_neg hb, if_pos hp] at h
      injection h with _ h
      injection h with h1 h2
      exact .inl ⟨k0, by omega, by omega, by omega⟩
  have hw := wd_none r k0
  by_cases k1 : kN c.toNat = 1
  · have hL : isD c = true := by rw [isD_kN]; simpa using k1
    have hp := nm_some r k1
    have hn : nmN (c :: r) = 1 + (r.takeWhile isD).length := by simp [nmN, runN, hL]
    by_cases hb : 3 < nmN (c :: r)
    · simp [fst3, hw, hb] at h
    · have e : fst3 (c :: r) = (0, nmN (c :: r), 1) := by
        simp only [fst3, hw, if_neg hb, if_pos hp]
        rfl
      rw [e] at h
      injection h with _ h
      injection h with h1 h2
      exact .inr (.inl ⟨k1, by omega, by omega, by omega⟩)
  have hm := nm_none r k1
  have hs := (sgN_cons c r).trans (sgG_kN c _)
  by_cases k2 : kN c.toNat = 2
  · rw [if_pos k2] at hs
    have e : fst3 (c :: r) = (0, 1, 2) := by
      simp only [fst3, hw, hm, hs]
      rfl
    rw [e] at h
    injection h with _ h
    injection h with h1 h2
    exact .inr (.inr (.inl ⟨k2, by omega, by omega⟩))
  rw [if_neg k2] at hs
  by_cases h5 : kN c.toNat = 5 ∧ [58].isPrefixOf r = true
  · rw [if_pos h5] at hs
    have e : fst3 (c :: r) = (0, 2, 2) := by
      simp only [fst3, hw, hm, hs]
      rfl
    rw [e] at h
    injection h with _ h
    injection h with h1 h2
    exact .inr (.inr (.inr ⟨h5.1, (pre58 r).1 h5.2, by omega, by omega⟩))
  · rw [if_neg h5] at hs
    have e : fst3 (c :: r) = (10, 0, 0) := by
      simp only [fst3, hw, hm, hs]
      rfl
    rw [e] at h
    injection h with h _
    omega

theorem fst3_word {c : UInt8} {r : List UInt8} {k : Nat} (k0 : kN c.toNat = 0) (hk : k = 1 + (r.takeWhile isW).length) (h32 : k ≤ 32) : gpN (c :: r) = 0 ∧ fst3 (c :: r) = (0, k, 0) := by
  have hL : isL c = true := by rw [isL_kN]; simpa using k0
  have hw : wdN (c :: r) = k := by simp [wdN, runN, hL, hk]
  refine ⟨gp_none r (by omega) (by omega), ?_⟩
  simp only [fst3, hw, if_neg (show ¬ 32 < k by omega), if_pos (show 0 < k by omega)]
theorem fst3_num {c : UInt8} {r : List UInt8} {k : Nat} (k1 : kN c.toNat = 1) (hk : k = 1 + (r.takeWhile isD).length) (h3 : k ≤ 3) : gpN (c :: r) = 0 ∧ fst3 (c :: r) = (0, k, 1) := by
  have hL : isD c = true := by rw [isD_kN]; simpa using k1
  have hw := wd_none r (show kN c.toNat ≠ 0 by omega)
  have hn : nmN (c :: r) = k := by simp [nmN, runN, hL, hk]
  refine ⟨gp_none r (by omega) (by omega), ?_⟩
  simp only [fst3, hw, hn, if_neg (show ¬ 3 < k by omega), if_pos (show 0 < k by omega)]
  rfl
theorem fst3_sign {c : UInt8} (r : List UInt8) (k2 : kN c.toNat = 2) : gpN (c :: r) = 0 ∧ fst3 (c :: r) = (0, 1, 2) := by
  have hw := wd_none r (show kN c.toNat ≠ 0 by omega)
  have hm := nm_none r (show kN c.toNat ≠ 1 by omega)
  have hs := (sgN_cons c r).trans (sgG_kN c _)
  rw [if_pos k2] at hs
  refine ⟨gp_none r (by omega) (by omega), ?_⟩
  simp only [fst3, hw, hm, hs]
  rfl
theorem fst3_colons {c : UInt8} {r : List UInt8} (k5 : kN c.toNat = 5) (h : r[0]? = some 58) : gpN (c :: r) = 0 ∧ fst3 (c :: r) = (0, 2, 2) := by
  have hw := wd_none r (show kN c.toNat ≠ 0 by omega)
  have hm := nm_none r (show kN c.toNat ≠ 1 by omega)
  have hs := (sgN_cons c r).trans (sgG_kN c _)
  rw [if_neg (by omega), if_pos ⟨k5, (pre58 r).2 h⟩] at hs
  refine ⟨gp_none r (by omega) (by omega), ?_⟩
  simp only [fst3, hw, hm, hs]
  rfl

/-- A token cut out of a text is one by itself. -/
theorem one_take {t : List UInt8} {k kd : Nat} (hne : t ≠ []) (hg : gpN t = 0) (h : fst3 t = (0, k, kd)) : One (t.take k) kd := by
  have hsz := fst3_size t (by rw [h])
  rw [h] at hsz
  simp only at hsz
  cases t with
  | nil => exact absurd rfl hne
  | cons c r =>
    obtain ⟨j, rfl⟩ : ∃ j, k = j + 1 := ⟨k - 1, by omega⟩
    have hl : ((c :: r).take (j + 1)).length = j + 1 := by
      rw [List.length_take]
      omega
    have key : gpN (c :: r.take j) = 0 ∧ fst3 (c :: r.take j) = (0, j + 1, kd) := by
      have htw : ∀ q : UInt8 → Bool, j = (r.takeWhile q).length → (r.take j).takeWhile q = r.take j := fun q hj => by
        have e : r.take j = r.takeWhile q := by
          rw [hj]
          exact (List.prefix_iff_eq_take.1 (List.takeWhile_prefix q)).symm
        rw [e]
        have hall : ∀ y ∈ r.takeWhile q, q y = true := fun y hy => by
          have := List.all_takeWhile (p := q) (l := r)
          exact List.all_eq_true.1 this y hy
        have := (tw_full q (r.takeWhile q)).2 hall
        exact (List.takeWhile_prefix q).eq_of_length this
      rcases fst3_cases hg h with ⟨a, b, rfl, d⟩ | ⟨a, b, rfl, d⟩ | ⟨a, b, rfl⟩ | ⟨a, b, b2, rfl⟩
      · refine fst3_word a ?_ d
        rw [htw isW (by omega), List.length_take]
        simp at hsz
        omega
      · refine fst3_num a ?_ d
        rw [htw isD (by omega), List.length_take]
        simp at hsz
        omega
      · rw [show j + 1 = 1 from b]
        exact fst3_sign _ a
      · rw [b2]
        refine fst3_colons a ?_
        rw [List.getElem?_take_of_lt (by omega)]
        exact b
    exact ⟨by simp, by simpa using key.1, by rw [hl]; simpa using key.2⟩

/-- Behind a token stands a gap's first octet: the token is the same. -/
theorem one_app {x : List UInt8} {kd : Nat} {d : UInt8} (rest : List UInt8) (h : One x kd) (hd : kN d.toNat = 3) : gpN (x ++ d :: rest) = 0 ∧ fst3 (x ++ d :: rest) = (0, x.length, kd) := by
  obtain ⟨hne, hg, hf⟩ := h
  have hdW : isW d = false := by rw [isW_kN, hd]; rfl
  have hdD : isD d = false := by rw [isD_kN, hd]; rfl
  cases x with
  | nil => exact absurd rfl hne
  | cons c r =>
    rw [List.cons_append]
    rcases fst3_cases hg hf with ⟨a, b, rfl, e⟩ | ⟨a, b, rfl, e⟩ | ⟨a, b, rfl⟩ | ⟨a, b, b2, rfl⟩
    · have hall := (tw_full isW r).1 (by simp at b; omega)
      exact fst3_word a (by rw [takeWhile_stop rest hdW r hall]; simp; omega) e
    · have hall := (tw_full isD r).1 (by simp at b; omega)
      exact fst3_num a (by rw [takeWhile_stop rest hdD r hall]; simp; omega) e
    · rw [b]
      exact fst3_sign _ a
    · rw [b2]
      refine fst3_colons a ?_
      cases r with
      | nil => simp at b
      | cons y r => simpa using b

/-- Every token that was told is one by itself. -/
def Ones (ts : List Tok) : Prop := ∀ t ∈ ts, One t.text t.kind
theorem ones_of : ∀ (k : Nat) (T : List UInt8) (n : Nat) (ts : List Tok) (p : Nat × Nat), T.length - n ≤ k → lxa T n = .good ts p → Ones ts := by
  intro k
  induction k with
  | zero =>
    intro T n ts p hk h
    have : T.drop n = [] := List.drop_of_length_le (by omega)
    rw [lxa_end this] at h
    injection h with h1 h2
    subst h1
    intro t ht
    simp at ht
  | succ k ih =>
    intro T n ts p hk h
    by_cases he : T.drop n = []
    · rw [lxa_end he] at h
      injection h with h1 h2
      subst h1
      intro t ht
      simp at ht
    by_cases hg : 0 < gpN (T.drop n)
    · have hgl := gpN_le (T.drop n)
      rw [lxa_gap hg] at h
      exact ih T (n + gpN (T.drop n)) ts p (by omega) h
    by_cases hb : (fst3 (T.drop n)).1 = 0
    · have hsz := fst3_size _ hb
      rw [List.length_drop] at hsz
      rw [lxa_tok he (by omega) hb] at h
      cases hr : lxa T (n + (fst3 (T.drop n)).2.1) with
      | bad x l c => rw [hr] at h; cases h
      | good us q =>
        rw [hr] at h
        injection h with h1 h2
        subst h1
        have ih' := ih T (n + (fst3 (T.drop n)).2.1) us q (by omega) hr
        intro t ht
        rcases List.mem_cons.1 (by simpa using ht) with rfl | ht
        · exact one_take he (by omega) (by rw [← hb])
        · exact ih' t ht
    · rw [lxa_bad he (by omega) hb] at h
      cases h
theorem ones_tok {T : List UInt8} {ts : List Tok} {p : Nat × Nat} (h : tokR T = .good ts p) : Ones ts := by
  unfold tokR at h
  split at h
  · cases h
  · exact ones_of T.length T 0 ts p (by omega) h

/-- The tokens' texts with g ahead of each, and behind the last. -/
def sx (g : List UInt8) : List Tok → List UInt8
  | [] => g
  | t :: ts => g ++ (t.text ++ sx g ts)
def alike (us ts : List Tok) : Prop := us.map (fun t => (t.kind, t.text)) = ts.map (fun t => (t.kind, t.text))
theorem lxs_sx {g : List UInt8} (hg : g ∈ gapsL) : ∀ (ts : List Tok) (p : Nat × Nat), Ones ts → ∃ us q, lxs (sx g ts) p = .good us q ∧ alike us ts
  | [], p, _ => by
    have := gap_skip hg [] p
    rw [List.append_nil, lxs_nil] at this
    exact ⟨[], _, this, rfl⟩
  | t :: ts, p, h => by
    obtain ⟨d, g', hgd, hd⟩ := gap_first hg
    have ho := h t (by simp)
    have hsx : ∃ rest, sx g ts = d :: rest := by
      cases ts with
      | nil => exact ⟨g', hgd⟩
      | cons u us =>
        simp only [sx]
        rw [hgd]
        exact ⟨_, rfl⟩
    obtain ⟨rest, hrest⟩ := hsx
    have h1 := one_app rest ho hd
    rw [← hrest] at h1
    have hne : t.text ++ sx g ts ≠ [] := by
      have := ho.1
      simp [this]
    have h2 := lxs_tok (pss p g) hne h1.1 (by rw [h1.2])
    rw [h1.2] at h2
    simp only [List.take_left, List.drop_left] at h2
    obtain ⟨us, q, h3, h4⟩ := lxs_sx hg ts (pss (pss p g) t.text) (fun u hu => h u (by simp [hu]))
    rw [h3] at h2
    refine ⟨_, q, (gap_skip hg _ p).trans h2, ?_⟩
    simp only [alike, List.map_cons, List.singleton_append]
    rw [show us.map (fun t => (t.kind, t.text)) = ts.map (fun t => (t.kind, t.text)) from h4]

theorem Offs.sum {T : List UInt8} : ∀ (ts : List Tok) (n : Nat), n ≤ T.length → Offs T n ts → n + (ts.map (fun t => t.text.length)).sum ≤ T.length
  | [], n, h, _ => by simpa using h
  | t :: ts, n, h, ho => by
    obtain ⟨m, h1, h2, h3, _, _, h6⟩ := ho
    have := Offs.sum ts (m + t.text.length) h3 h6
    simp only [List.map_cons, List.sum_cons]
    omega
theorem sx_len (g : List UInt8) : ∀ ts : List Tok, (sx g ts).length = g.length * (ts.length + 1) + (ts.map (fun t => t.text.length)).sum
  | [] => by simp [sx]
  | t :: ts => by
    simp only [sx, List.length_append, sx_len g ts, List.length_cons, List.map_cons, List.sum_cons, Nat.mul_add]
    omega
/-- As it is laid, one by one. -/
def lay (g : List UInt8) (ts : List Tok) : List UInt8 := ts.foldl (fun t u => t ++ u.text ++ g) g
theorem lay_sx (g : List UInt8) : ∀ (ts : List Tok) (a : List UInt8), ts.foldl (fun t u => t ++ u.text ++ g) (a ++ g) = a ++ sx g ts
  | [], a => rfl
  | t :: ts, a => by
    rw [List.foldl_cons, lay_sx g ts (a ++ g ++ t.text)]
    simp [sx]
theorem lay_eq (g : List UInt8) (ts : List Tok) : lay g ts = sx g ts := by
  have := lay_sx g ts []
  simpa [lay] using this
theorem lay_snoc (g : List UInt8) (ts : List Tok) (t : Tok) : lay g (ts ++ [t]) = lay g ts ++ t.text ++ g := by
  simp [lay, List.foldl_append]
theorem lay_len (g : List UInt8) (ts : List Tok) (k : Nat) : (lay g (ts.take k)).length ≤ (lay g ts).length := by
  rw [lay_eq, lay_eq, sx_len, sx_len]
  have h1 : (ts.take k).length ≤ ts.length := by rw [List.length_take]; omega
  have h2 : ((ts.take k).map (fun t => t.text.length)).sum ≤ (ts.map (fun t => t.text.length)).sum := by
    conv => rhs; rw [← List.take_append_drop k ts]
    rw [List.map_append, List.sum_append]
    omega
  have h3 := Nat.mul_le_mul_left g.length (show (ts.take k).length + 1 ≤ ts.length + 1 by omega)
  omega
end Go.Proofs.YthdoihemjndmlaaDoor
