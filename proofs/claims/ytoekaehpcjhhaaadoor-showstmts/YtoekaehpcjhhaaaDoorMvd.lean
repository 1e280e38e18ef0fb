/- Statements copied, their places moved. -/
import Derived.Test.YtoekaehpcjhhaaaDoorEql
import Derived.Test.YtoekaehpcjhhaaaDoorRln
set_option linter.unusedSimpArgs false
set_option linter.unusedVariables false
namespace Go.Proofs.YtoekaehpcjhhaaaDoor
open Go.RowKit

/-- A statement's place, one line further (as an int goes round). -/
def bump : St → St
  | .mk d x y z t f ag n bd ot ln cl => .mk d x y z t f ag n bd ot (wrap64 (ln + 1)) cl
theorem bump_rows (D : Nat) (s : St) : rw1 D (bump s) = rw1 D s := by
  obtain ⟨d, x, y, z, t, f, ag, n, bd, ot, ln, cl⟩ := s
  unfold bump
  rw [rw1, rw1]
theorem bumps_rows (D : Nat) : ∀ (l : List St), rwL D (l.map bump) = rwL D l
  | [] => rfl
  | s :: l => by rw [List.map_cons, rwL_cons, rwL_cons, bump_rows, bumps_rows D l]
theorem bump_ft {s : St} (h : FtS s) : FtS (bump s) := by
  obtain ⟨d, x, y, z, t, f, ag, n, bd, ot, ln, cl⟩ := s
  unfold bump
  rw [FtS] at h ⊢
  exact h
theorem bumps_ft : ∀ {l : List St}, FtL l → FtL (l.map bump)
  | [], h => h
  | s :: l, h => by rw [List.map_cons, FtL]; rw [FtL] at h; exact ⟨bump_ft h.1, bumps_ft h.2⟩
theorem bump_ln {s : St} (h : LnS s) : LnS (bump s) := by
  obtain ⟨d, x, y, z, t, f, ag, n, bd, ot, ln, cl⟩ := s
  unfold bump
  rw [LnS] at h ⊢
  exact h
theorem bumps_ln : ∀ {l : List St}, LnL l → LnL (l.map bump)
  | [], h => h
  | s :: l, h => by rw [List.map_cons, LnL]; rw [LnL] at h; exact ⟨bump_ln h.1, bumps_ln h.2⟩

theorem stmt_info : (Tryd.prog.info? 27).map (fun i => (i.size, i.bytes, i.zero.map (·.cells.size))) = some (12, 184, some 12) := by kernel_rfl

/-- Twelve cells to each statement. -/
def Css (B : Nat) (w : World) (l : List St) (css : List (List Value)) : Prop := css.length = l.length ∧ ∀ (j : Nat) (s : St) (cs : List Value), l[j]? = some s → css[j]? = some cs → cs.length = 12 ∧ RdS B w cs s
theorem flat12 : ∀ (css : List (List Value)) (j i : Nat) (cs : List Value) (v : Value), (∀ c ∈ css, c.length = 12) → css[j]? = some cs → cs[i]? = some v → css.flatten[j * 12 + i]? = some v
  | [], j, i, cs, v, _, h, _ => by simp at h
  | c :: css, 0, i, cs, v, hl, h, hv => by
    simp at h
    subst h
    rw [List.flatten_cons, Nat.zero_mul, Nat.zero_add, List.getElem?_append_left (List.getElem?_eq_some_iff.1 hv).1]
    exact hv
  | c :: css, j + 1, i, cs, v, hl, h, hv => by
    have hc := hl c (by simp)
    rw [List.flatten_cons, List.getElem?_append_right (by omega), hc, show (j + 1) * 12 + i - 12 = j * 12 + i by omega]
    exact flat12 css j i cs v (fun d hd => hl d (by simp [hd])) (by simpa using h) hv
theorem flat12_set : ∀ (css : List (List Value)) (j i : Nat) (cs : List Value) (v : Value), (∀ c ∈ css, c.length = 12) → css[j]? = some cs → i < 12 → css.flatten.set (j * 12 + i) v = (css.set j (cs.set i v)).flatten
  | [], j, i, cs, v, _, h, _ => by simp at h
  | c :: css, 0, i, cs, v, hl, h, hi => by
    simp at h
    subst h
    have hc := hl c (by simp)
    rw [List.flatten_cons, Nat.zero_mul, Nat.zero_add, List.set_append_left _ _ (by omega), List.set_cons_zero, List.flatten_cons]
  | c :: css, j + 1, i, cs, v, hl, h, hi => by
    have hc := hl c (by simp)
    rw [List.flatten_cons, List.set_append_right _ _ (by omega), hc, show (j + 1) * 12 + i - 12 = j * 12 + i by omega, flat12_set css j i cs v (fun d hd => hl d (by simp [hd])) (by simpa using h) hi, List.set_cons_succ, List.flatten_cons]
theorem flat12_len : ∀ (css : List (List Value)), (∀ c ∈ css, c.length = 12) → css.flatten.length = css.length * 12
  | [], _ => rfl
  | c :: css, h => by rw [List.flatten_cons, List.length_append, h c (by simp), flat12_len css fun d hd => h d (by simp [hd]), List.length_cons]; omega

theorem RdS.len {B : Nat} {w : World} {cs : List Value} {s : St} (h : RdS B w cs s) : cs.length = 12 := by
  obtain ⟨d, x, y, z, t, f, ag, n, bd, ot, ln, cl⟩ := s
  obtain ⟨A1, c1, A2, c2, A3, c3, rfl, _⟩ := h.cells
  rfl
/-- The cells of a slice of statements. -/
theorem css_of {B : Nat} {w : World} {A : Option Addr} : ∀ (l : List St) (k : Nat), RdL B w A k l → ∃ css : List (List Value), css.length = l.length ∧ (∀ c ∈ css, c.length = 12) ∧ (∀ (j : Nat) (s : St) (cs : List Value), l[j]? = some s → css[j]? = some cs → RdS B w cs s) ∧
    (l ≠ [] → ∃ b off, A = some ⟨b, off, none⟩ ∧ b < w.heap.size ∧ ∀ (i : Nat) (v : Value), css.flatten[i]? = some v → w.cell? ⟨b, off + k * 12 + i, none⟩ = some v)
  | [], k, _ => ⟨[], rfl, by simp, by simp, fun h => absurd rfl h⟩
  | s :: l, k, h => by
    unfold RdL at h
    obtain ⟨⟨b, off, cs, rfl, hb, hlt, hc, hs⟩, hl⟩ := h
    obtain ⟨css, h1, h2, h3, h4⟩ := css_of l (k + 1) hl
    have hlen := hs.len
    refine ⟨cs :: css, by simp [h1], ?_, ?_, fun _ => ⟨b, off, rfl, hlt, fun i v hv => ?_⟩⟩
    · intro c hm
      rcases List.mem_cons.1 hm with rfl | hm
      · exact hlen
      · exact h2 c hm
    · intro j u cs' hu hcs
      cases j with
      | zero => simp at hu hcs; subst hu hcs; exact hs
      | succ j => exact h3 j u cs' (by simpa using hu) (by simpa using hcs)
    · rw [List.flatten_cons] at hv
      by_cases hi : i < 12
      · rw [List.getElem?_append_left (by omega)] at hv
        exact hc i v hv
      · rw [List.getElem?_append_right (by omega), hlen] at hv
        have hne : l ≠ [] := by
          intro e
          subst e
          have : css = [] := List.eq_nil_of_length_eq_zero (by rw [h1]; rfl)
          subst this
          simp at hv
        obtain ⟨b', off', e, _, hc'⟩ := h4 hne
        injection e with e
        injection e with e1 e2
        subst e1 e2
        have := hc' (i - 12) v hv
        rwa [show off + (k + 1) * 12 + (i - 12) = off + k * 12 + i by omega] at this

/-- A slice of the program's own holds the statements l, each read below B. -/
def Mv (B : Nat) (w : World) (v : Value) (l : List St) : Prop := ∃ css : List (List Value), w.ownsRow 0 27 12 v l.length css.flatten ∧ css.length = l.length ∧ (∀ c ∈ css, c.length = 12) ∧ (∀ (j : Nat) (s : St) (cs : List Value), l[j]? = some s → css[j]? = some cs → RdS B w cs s)
theorem Mv.rdl {B : Nat} {w : World} {A : Option Addr} {n c : Nat} {l : List St} (h : Mv B w (.slice A n c) l) (hB : B ≤ w.heap.size) : n = l.length ∧ RdL w.heap.size w A 0 l := by
  obtain ⟨css, ho, h1, h2, h3⟩ := h
  obtain ⟨hn, hc, hr⟩ := Rws.of_owns ho
  refine ⟨hn, ?_⟩
  rcases hr.2 with h0 | ⟨b, off, rfl, hb, hcell⟩
  · have : l = [] := List.eq_nil_of_length_eq_zero h0
    subst this
    unfold RdL
    trivial
  · have key : ∀ (m : List St) (k : Nat), (∀ j s, m[j]? = some s → l[k + j]? = some s) → RdL w.heap.size w (some ⟨b, off, none⟩) k m := by
      intro m
      induction m with
      | nil => intro k _; unfold RdL; trivial
      | cons s m ih =>
        intro k hm
        have hs := hm 0 s rfl
        obtain ⟨cs, hcs⟩ := at_lt (l := css) (k := k) (by rw [h1]; exact (List.getElem?_eq_some_iff.1 hs).1)
        unfold RdL
        refine ⟨⟨b, off, cs, rfl, hb, hb, fun j v hv => ?_, (h3 k s cs hs hcs).mono hB⟩, ih (k + 1) fun j u hu => ?_⟩
        · have := hcell (k * 12 + j) v (flat12 css k j cs v h2 hcs hv)
          rwa [show off + (k * 12 + j) = off + k * 12 + j by omega] at this
        · have := hm (j + 1) u (by simpa using hu)
          rwa [show k + (j + 1) = k + 1 + j by omega] at this
    exact key l 0 fun j s hs => by simpa using hs
theorem Mv.turn' {B : Nat} {w w' : World} {v : Value} {l : List St} (h : Mv B w v l) (t : Turn [] w w') : Mv B w' v l := by
  obtain ⟨css, ho, h1, h2, h3⟩ := h
  exact ⟨css, Turn.owns t ho (by simp), h1, h2, fun j s cs hs hc => (h3 j s cs hs hc).turn t (by simp)⟩
/-- Its k-th statement's line is moved. -/
theorem Mv.put {B : Nat} {w : World} {A : Option Addr} {n c : Nat} {l : List St} (h : Mv B w (.slice A n c) l) (hN : ∀ g off, A = some ⟨g, off, none⟩ → B ≤ g) {k : Nat} {d : Int} {x y z t f : ByteArray} {ag : List ByteArray} {m : Int} {bd ot : List St} {ln cl : Int} (hk : l[k]? = some (.mk d x y z t f ag m bd ot ln cl)) :
    ∃ g, A = some ⟨g, 0, none⟩ ∧ g < w.heap.size ∧ w.cell? ⟨g, k * 12 + 10, none⟩ = some (.int .i64 ln) ∧ w.frozen? ⟨g, k * 12 + 10, none⟩ = false ∧
      ∀ q, Mv B (w.setCell ⟨g, k * 12 + 10, none⟩ (.int .i64 q)) (.slice A n c) (l.set k (.mk d x y z t f ag m bd ot q cl)) ∧ Turn [g] w (w.setCell ⟨g, k * 12 + 10, none⟩ (.int .i64 q)) := by
  obtain ⟨css, ho, h1, h2, h3⟩ := h
  obtain ⟨cs, hcs⟩ := at_lt (l := css) (k := k) (by rw [h1]; exact (List.getElem?_eq_some_iff.1 hk).1)
  have hrd := h3 k _ cs hk hcs
  obtain ⟨A1, c1, A2, c2, A3, c3, rfl, k1, k2, k3, r1, r1B, r2, r3⟩ := hrd.cells
  obtain ⟨g, rfl, hg, hc, hf, hset⟩ := owns_set ho (j := k * 12 + 10) (flat12 css k 10 _ _ h2 hcs rfl)
  refine ⟨g, rfl, hg, hc, hf, fun q => ⟨⟨css.set k [.int .i64 d, .string x, .string y, .string z, .string t, .string f, .slice A1 ag.length c1, .int .i64 m, .slice A2 bd.length c2, .slice A3 ot.length c3, .int .i64 q, .int .i64 cl], ?_, by simp [h1], ?_, ?_⟩, (hset (.int .i64 q)).2⟩⟩
  · have := (hset (.int .i64 q)).1
    rw [flat12_set css k 10 _ _ h2 hcs (by omega)] at this
    rw [List.length_set]
    exact this
  · intro c' hc'
    rcases List.mem_or_eq_of_mem_set hc' with h | h
    · exact h2 c' h
    · rw [h]; rfl
  · intro j s cs' hs hcs'
    have hgB : B ≤ g := hN g 0 rfl
    have tt := (hset (.int .i64 q)).2
    by_cases hj : j = k
    · subst hj
      have hjl : j < l.length := (List.getElem?_eq_some_iff.1 hk).1
      rw [List.getElem?_set_self hjl] at hs
      rw [List.getElem?_set_self (by omega)] at hcs'
      injection hs with hs
      injection hcs' with hcs'
      subst hs hcs'
      have hr' : RdS B w [.int .i64 d, .string x, .string y, .string z, .string t, .string f, .slice A1 ag.length c1, .int .i64 m, .slice A2 bd.length c2, .slice A3 ot.length c3, .int .i64 q, .int .i64 cl] (.mk d x y z t f ag m bd ot q cl) := by
        unfold RdS
        exact ⟨A1, c1, A2, c2, A3, c3, rfl, k1, k2, k3, r1, r1B, r2, r3⟩
      exact hr'.turn tt (by simp; omega)
    · rw [List.getElem?_set_ne (Ne.symm hj)] at hs hcs'
      exact (h3 j s cs' hs hcs').turn tt (by simp; omega)
end Go.Proofs.YtoekaehpcjhhaaaDoor
