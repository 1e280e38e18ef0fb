/- Slices of slices of ints: those that are read, and those of the program's own making. -/
import Derived.Test.YtjgabnphafkgoaaKit
set_option linter.unusedSimpArgs false
set_option linter.unusedVariables false
namespace Go.Proofs.Ytjgabnphafkgoaa
open Go.RowKit

/-- The slice at A reads as the list of lists of ints. -/
def Rws (w : World) (A : Option Addr) (ls : List (List Int)) : Prop :=
  ∀ k l, ls[k]? = some l → ∃ b off A' c, A = some ⟨b, off, none⟩ ∧ b < w.heap.size ∧ w.cell? ⟨b, off + k, none⟩ = some (.slice A' l.length c) ∧ Ints w A' l
theorem Rws.turn' {w w' : World} {A : Option Addr} {ls : List (List Int)} (h : Rws w A ls) (t : Turn [] w w') : Rws w' A ls := fun k l hl => by
  obtain ⟨b, off, A', c, e, hlt, hc, hi⟩ := h k l hl
  exact ⟨b, off, A', c, e, Nat.lt_of_lt_of_le hlt t.size, (t.cell (p := ⟨b, off + k, none⟩) hlt (by simp)).trans hc, hi.below t⟩

/-- The slice v is of the program's own making (from block B on), each of its slices too, all apart, and it holds the lists ls. -/
structure OwnLL (w : World) (B : Nat) (v : Value) (ls : List (List Int)) (xs : List Value) : Prop where
  row : w.ownsRow B 23 1 v xs.length xs
  len : xs.length = ls.length
  each : ∀ (k : Nat) (u : Value) (l : List Int), xs[k]? = some u → ls[k]? = some l → OwnI w B u l
  apart : ∀ (i j : Nat) (u u' : Value) (g : Nat), i ≠ j → xs[i]? = some u → xs[j]? = some u' → u.ownBlock = some g → u'.ownBlock ≠ some g
  outer : ∀ (k : Nat) (u : Value) (g : Nat), xs[k]? = some u → u.ownBlock = some g → v.ownBlock ≠ some g

section
variable {w w' : World} {B : Nat} {v : Value} {ls : List (List Int)} {xs : List Value}

theorem OwnLL.has (h : OwnLL w B v ls xs) {k : Nat} {u : Value} (hu : xs[k]? = some u) : ∃ l, ls[k]? = some l ∧ OwnI w B u l := by
  have hk : k < ls.length := by have := (List.getElem?_eq_some_iff.1 hu).1; have := h.len; omega
  exact ⟨_, List.getElem?_eq_getElem hk, h.each k u _ hu (List.getElem?_eq_getElem hk)⟩
theorem OwnLL.at (h : OwnLL w B v ls xs) {k : Nat} {l : List Int} (hl : ls[k]? = some l) : ∃ u, xs[k]? = some u ∧ OwnI w B u l := by
  have hk : k < xs.length := by have := (List.getElem?_eq_some_iff.1 hl).1; have := h.len; omega
  exact ⟨_, List.getElem?_eq_getElem hk, h.each k _ l (List.getElem?_eq_getElem hk) hl⟩
theorem OwnLL.lt (h : OwnLL w B v ls xs) {k : Nat} {u : Value} {g : Nat} (hu : xs[k]? = some u) (hg : u.ownBlock = some g) : B ≤ g ∧ g < w.heap.size := by
  obtain ⟨l, _, ho⟩ := h.has hu
  exact OwnI.lt ho g hg

theorem OwnLL.turn {F : List Nat} (h : OwnLL w B v ls xs) (t : Turn F w w') (h1 : ∀ g, v.ownBlock = some g → g ∉ F) (h2 : ∀ (k : Nat) (u : Value) (g : Nat), xs[k]? = some u → u.ownBlock = some g → g ∉ F) : OwnLL w' B v ls xs :=
  ⟨Turn.owns t h.row h1, h.len, fun k u l hu hl => (h.each k u l hu hl).turn t (fun g hg => h2 k u g hu hg), h.apart, h.outer⟩
theorem OwnLL.turn' (h : OwnLL w B v ls xs) (t : Turn [] w w') : OwnLL w' B v ls xs := h.turn t (by simp) (by simp)
/-- Blocks below B may turn. -/
theorem OwnLL.off {F : List Nat} (h : OwnLL w B v ls xs) (t : Turn F w w') (hF : ∀ g ∈ F, g < B) : OwnLL w' B v ls xs :=
  h.turn t (fun g hg hm => by have := World.ownsRow.lt h.row g hg; have := hF g hm; omega) (fun k u g hu hg hm => by have := h.lt hu hg; have := hF g hm; omega)

theorem OwnLL.nil (w : World) (B : Nat) : OwnLL w B (.slice none 0 0) [] [] :=
  ⟨World.ownsRow_nil w B 23 1, rfl, fun k u l h => by simp at h, fun i j u u' g _ h => by simp at h, fun k u g h => by simp at h⟩

theorem OwnLL.form (h : OwnLL w B v ls xs) : ∃ A c, v = .slice A ls.length c ∧ Rws w A ls := by
  have hlen := h.len
  rcases h.row.2 with ⟨rfl, hn⟩ | ⟨g, cap, cur, rfl, hb, hg, hnc, _, _, ht⟩
  · have h0 : ls.length = 0 := by omega
    refine ⟨none, 0, by rw [h0], fun k l hl => ?_⟩
    rw [List.eq_nil_of_length_eq_zero h0] at hl
    simp at hl
  · refine ⟨some ⟨g, 0, none⟩, cap, by rw [hlen], fun k l hl => ?_⟩
    obtain ⟨u, hu, ho⟩ := h.at hl
    obtain ⟨A', c, rfl, hi, _⟩ := ho.form
    have hk : k < xs.length := (List.getElem?_eq_some_iff.1 hu).1
    have e := World.ownsRow.cellAt (cap := cap) h.row k (by omega)
    exact ⟨g, 0, A', c, rfl, (Array.getElem?_eq_some_iff.1 hg).1, by rw [Nat.zero_add, e, hu], hi⟩

theorem OwnLL.mono {B' : Nat} (h : OwnLL w B v ls xs) (hB : B' ≤ B) : OwnLL w B' v ls xs :=
  ⟨ownsRow_mono h.row hB, h.len, fun k u l hu hl => (h.each k u l hu hl).mono hB, h.apart, h.outer⟩

theorem row_info : (Try.prog.info? 23).map (fun i => (i.zero, i.size, i.bytes)) = some (some (.slice none 0 0), 1, 24) := by kernel_rfl

theorem getElem?_snoc {α : Type} {l : List α} {x y : α} {k : Nat} (h : (l ++ [x])[k]? = some y) : l[k]? = some y ∨ (k = l.length ∧ y = x) := by
  by_cases hk : k < l.length
  · rw [List.getElem?_append_left hk] at h
    exact .inl h
  · rw [List.getElem?_append_right (by omega)] at h
    have hz : k - l.length = 0 := by
      rcases Nat.eq_zero_or_pos (k - l.length) with h' | h'
      · exact h'
      · rw [List.getElem?_eq_none (by simp; omega)] at h; cases h
    rw [hz] at h
    simp at h
    exact .inr ⟨by omega, h.symm⟩

/-- A slice laid behind the others. -/
theorem OwnLL.snoc {F : List Nat} {v' u : Value} {l : List Int} (h : OwnLL w B v ls xs) (hu : OwnI w B u l) (h1 : ∀ g, u.ownBlock = some g → v.ownBlock ≠ some g) (h2 : ∀ (k : Nat) (u' : Value) (g : Nat), xs[k]? = some u' → u'.ownBlock = some g → u.ownBlock ≠ some g)
    (hr : w'.ownsRow B 23 1 v' (xs.length + 1) (xs ++ [u])) (t : Turn v.ownBlock.toList w w') (hv : v'.ownBlock = v.ownBlock ∨ ∃ g, v'.ownBlock = some g ∧ w.heap.size ≤ g) : OwnLL w' B v' (ls ++ [l]) (xs ++ [u]) := by
  have hnew : ∀ u' : Value, (∃ l', OwnI w B u' l') → (∀ g, u'.ownBlock = some g → v.ownBlock ≠ some g) → ∀ g, u'.ownBlock = some g → v'.ownBlock ≠ some g := by
    intro u' ⟨l', ho⟩ hne g hg
    rcases hv with e | ⟨g', e, hle⟩
    · rw [e]; exact hne g hg
    · rw [e]
      have := OwnI.lt ho g hg
      intro e2
      injection e2 with e2
      omega
  have hstay : ∀ u' : Value, (∀ g, u'.ownBlock = some g → v.ownBlock ≠ some g) → ∀ g, u'.ownBlock = some g → g ∉ v.ownBlock.toList := by
    intro u' hne g hg hm
    exact hne g hg (by simpa using hm)
  refine ⟨by rw [List.length_append]; exact hr, by simp [h.len], ?_, ?_, ?_⟩
  · intro k x y hx hy
    rcases getElem?_snoc hx with hx | ⟨rfl, rfl⟩
    · rw [List.getElem?_append_left (by have := (List.getElem?_eq_some_iff.1 hx).1; have := h.len; omega)] at hy
      exact (h.each k x y hx hy).turn t (hstay x (fun g hg => h.outer k x g hx hg))
    · rw [h.len, List.getElem?_append_right (Nat.le_refl _)] at hy
      simp at hy
      subst hy
      exact hu.turn t (hstay x h1)
  · intro i j x y g hij hx hy hg
    rcases getElem?_snoc hx with hx2 | ⟨rfl, rfl⟩
    · rcases getElem?_snoc hy with hy2 | ⟨rfl, rfl⟩
      · exact h.apart i j x y g hij hx2 hy2 hg
      · exact h2 i x g hx2 hg
    · rcases getElem?_snoc hy with hy | ⟨rfl, rfl⟩
      · exact fun e => h2 j y g hy e hg
      · exact absurd rfl hij
  · intro k x g hx hg
    rcases getElem?_snoc hx with hx | ⟨rfl, rfl⟩
    · obtain ⟨l', _, ho⟩ := h.has hx
      exact hnew x ⟨l', ho⟩ (fun g hg => h.outer k x g hx hg) g hg
    · exact hnew x ⟨l, hu⟩ h1 g hg

/-- append of one slice, laid in a block of its own just ahead, onto a slice of slices of the program's own. -/
theorem wpList_appRow {ops : Array Oper} {rest : List Oper} {o : Oper} {a : Act} {Q : Exit → Act → World → Prop} (hgd : o.guard = none) (s x : Operand)
    (ho : o.op = .call { callee := .builtin .append, args := #[s, x], argTypes := #[22, 22] })
    (W : World) (B : Nat) (v : Value) (ls : List (List Int)) (xs : List Value) (A' : Option Addr) (c' : Nat) (l : List Int) (c : Nat) (hs : a.eval s = v) (hown : OwnLL W B v ls xs) (hu : OwnI W B (.slice A' l.length c') l)
    (h1 : ∀ g, Value.ownBlock (.slice A' l.length c') = some g → v.ownBlock ≠ some g) (h2 : ∀ (k : Nat) (u' : Value) (g : Nat), xs[k]? = some u' → u'.ownBlock = some g → Value.ownBlock (.slice A' l.length c') ≠ some g)
    (hx : a.eval x = .slice (some ⟨W.heap.size, 0, none⟩) 1 c) (hl : ls.length ≤ 1000000) (hB : B ≤ W.heap.size)
    (h : ∀ v' w', OwnLL w' B v' (ls ++ [l]) (xs ++ [.slice A' l.length c']) → Turn v.ownBlock.toList W w' → (v'.ownBlock = v.ownBlock ∨ ∃ g, v'.ownBlock = some g ∧ W.heap.size ≤ g) → wpList Try.prog ops Q rest (a.put o.dst v') w') :
    wpList Try.prog ops Q (o :: rest) a (W.alloc (.cells #[.slice A' l.length c'] 23)) := by
  obtain ⟨i0, hi0, hz0, hz1, hz2⟩ := info_parts row_info
  have hlen := hown.len
  have t0 : Turn [] W (W.alloc (.cells #[.slice A' l.length c'] 23)) := (Turn.refl [] W).alloc _
  refine wpList_append_own_at (W.alloc (.cells #[.slice A' l.length c'] 23)) hgd s x 22 ho B 23 i0 _ 1 24 Try.underlying22 hi0 hz0 hz1 hz2 rfl (by omega) v xs.length xs hs
    (hown.turn' t0).row ⟨W.heap.size, 0, none⟩ 1 c [.slice A' l.length c'] hx rfl ?_ (by simp [Value.oneCell']) (by simp only [maxLen]; omega) (by omega) (by simp; omega) ?_
  · intro j u hj
    match j, hj with
    | 0, hj =>
      simp at hj
      subst hj
      simp [Addr.add]
  · intro v' w' r1 r2 _ r4
    have t1 : Turn v.ownBlock.toList W w' := ((Turn.refl _ W).alloc _).grown r2 (fun k hk => .inl (by simp [hk]))
    have r5 : v'.ownBlock = v.ownBlock ∨ ∃ g, v'.ownBlock = some g ∧ W.heap.size ≤ g := by
      rcases r4 with r4 | r4
      · exact .inl r4
      · exact .inr ⟨_, r4, by simp⟩
    exact h v' w' (hown.snoc (F := []) hu h1 h2 r1 t1 r5) t1 r5

/-- One of the slices put anew. -/
theorem OwnLL.put {g n cap at_ : Nat} {u u2 : Value} {l' : List Int} (h : OwnLL w B (.slice (some ⟨g, 0, none⟩) n cap) ls xs) (hn : n = xs.length) (hu : xs[at_]? = some u) (t : Turn u.ownBlock.toList w w') (ho : OwnI w' B u2 l')
    (hv : u2.ownBlock = u.ownBlock ∨ ∃ g, u2.ownBlock = some g ∧ w.heap.size ≤ g) : OwnLL (w'.setCell ⟨g, at_, none⟩ u2) B (.slice (some ⟨g, 0, none⟩) n cap) (ls.set at_ l') (xs.set at_ u2) := by
  subst hn
  have hob : Value.ownBlock (.slice (some ⟨g, 0, none⟩) xs.length cap) = some g := rfl
  have hgu : ∀ (k : Nat) (x : Value), xs[k]? = some x → x.ownBlock ≠ some g := fun k x hx e => h.outer k x g hx e hob
  have hg : B ≤ g ∧ g < w.heap.size := World.ownsRow.lt h.row g hob
  have hrow : w'.ownsRow B 23 1 (.slice (some ⟨g, 0, none⟩) xs.length cap) xs.length xs := Turn.owns t h.row (fun g' hg' hm => by
    have e : g = g' := by have := hob.symm.trans hg'; injection this
    subst e
    exact hgu at_ u hu (by simpa using hm))
  have hst := World.ownsRow.stored hrow at_ u2
  have hgu2 : u2.ownBlock ≠ some g := by
    rcases hv with e | ⟨g', e, hle⟩
    · rw [e]; exact hgu at_ u hu
    · rw [e]; intro e2; injection e2 with e2; omega
  have hcases : ∀ (k : Nat) (x : Value), (xs.set at_ u2)[k]? = some x → (k = at_ ∧ x = u2) ∨ (k ≠ at_ ∧ xs[k]? = some x) := by
    intro k x hx
    rw [List.getElem?_set] at hx
    by_cases e : at_ = k
    · rw [if_pos e] at hx
      split at hx
      · injection hx with hx; exact .inl ⟨e.symm, hx.symm⟩
      · cases hx
    · rw [if_neg e] at hx
      exact .inr ⟨fun e2 => e e2.symm, hx⟩
  have hsame : ∀ p : Nat, p ≠ g → (w'.setCell ⟨g, at_, none⟩ u2).heap[p]? = w'.heap[p]? := fun p hp => Below.heap_setCell _ _ _ _ hp
  have tset : Turn [g] w' (w'.setCell ⟨g, at_, none⟩ u2) := (Turn.refl _ _).setCell (.inl (by simp)) _
  have keep : ∀ (k : Nat) (x : Value), k ≠ at_ → xs[k]? = some x → ∀ g', x.ownBlock = some g' → u2.ownBlock ≠ some g' := by
    intro k x hk hx g' hg'
    rcases hv with e | ⟨g2, e, hle⟩
    · rw [e]; exact h.apart k at_ x u g' hk hx hu hg'
    · rw [e]; intro e2; injection e2 with e2
      have := h.lt hx hg'
      omega
  refine ⟨by rw [List.length_set]; exact hst.1, by simp [h.len], ?_, ?_, ?_⟩
  · intro k x y hx hy
    rcases hcases k x hx with ⟨rfl, rfl⟩ | ⟨hk, hx⟩
    · rw [List.getElem?_set] at hy
      rw [if_pos rfl] at hy
      split at hy
      · injection hy with hy
        subst hy
        exact ho.turn tset (fun g' hg' hm => hgu2 (by rw [hg']; simpa using hm))
      · cases hy
    · rw [List.getElem?_set, if_neg (fun e => hk e.symm)] at hy
      refine ((h.each k x y hx hy).turn t (fun g' hg' hm => ?_)).turn tset (fun g' hg' hm => hgu k x hx (by rw [hg']; simpa using hm))
      exact h.apart k at_ x u g' hk hx hu hg' (by simpa using hm)
  · intro i j x y g' hij hx hy hg'
    rcases hcases i x hx with ⟨rfl, rfl⟩ | ⟨hi, hx2⟩
    · rcases hcases j y hy with ⟨rfl, rfl⟩ | ⟨hj, hy⟩
      · exact absurd rfl hij
      · exact fun e => keep j y hj hy g' e hg'
    · rcases hcases j y hy with ⟨rfl, rfl⟩ | ⟨hj, hy⟩
      · exact keep i x hi hx2 g' hg'
      · exact h.apart i j x y g' hij hx2 hy hg'
  · intro k x g' hx hg' e
    have e3 : g = g' := by have := hob.symm.trans e; injection this
    subst e3
    rcases hcases k x hx with ⟨rfl, rfl⟩ | ⟨hk, hx⟩
    · exact hgu2 hg'
    · exact hgu k x hx hg'

/-- A row of the program's own lies in no map's block. -/
theorem ownsRow_cells {e : TypeId} {size n : Nat} (h : w.ownsRow B e size v n xs) {g : Nat} (hg : v.ownBlock = some g) : ∃ cs t f, w.heap[g]? = some (.cells cs t f) := by
  rcases h.2 with ⟨rfl, _⟩ | ⟨g', cap, cur, rfl, _, hb, _⟩
  · cases hg
  · injection hg with hg
    subst hg
    exact ⟨_, _, _, hb⟩
theorem OwnI.cells {l : List Int} (h : OwnI w B v l) {g : Nat} (hg : v.ownBlock = some g) : ∃ cs t f, w.heap[g]? = some (.cells cs t f) := ownsRow_cells h hg
theorem OwnLL.offMap {q : Nat} {es : Array MapEntry} {clock : Nat} (h : OwnLL w B v ls xs) (hq : w.heap[q]? = some (.map es clock)) (t : Turn [q] w w') : OwnLL w' B v ls xs := by
  refine h.turn t (fun g hg hm => ?_) (fun k u g hu hg hm => ?_)
  · obtain ⟨cs, t', f, hc⟩ := ownsRow_cells h.row hg
    simp at hm
    subst hm
    rw [hq] at hc
    cases hc
  · obtain ⟨l, _, ho⟩ := h.has hu
    obtain ⟨cs, t', f, hc⟩ := ho.cells hg
    simp at hm
    subst hm
    rw [hq] at hc
    cases hc

theorem OwnLL.shape (h : OwnLL w B v ls xs) {k : Nat} (hk : ls.length = k + 1) : ∃ g c, v = .slice (some ⟨g, 0, none⟩) (k + 1) c := by
  obtain ⟨g, c, e, _⟩ := World.ownsRow.form h.row (by have := h.len; omega)
  exact ⟨g, c, by rw [e, h.len, hk]⟩
theorem OwnI.shape {l : List Int} {k : Nat} (h : OwnI w B v l) (hk : l.length = k + 1) : ∃ g c, v = .slice (some ⟨g, 0, none⟩) (k + 1) c := by
  obtain ⟨g, c, e, _⟩ := World.ownsRow.form h (by omega)
  exact ⟨g, c, by rw [e, hk]⟩

/-- The same two appends, with the new slice's shape written out. -/
theorem wpList_appRowS {ops : Array Oper} {rest : List Oper} {o : Oper} {a : Act} {Q : Exit → Act → World → Prop} (hgd : o.guard = none) (s x : Operand)
    (ho : o.op = .call { callee := .builtin .append, args := #[s, x], argTypes := #[22, 22] })
    (W : World) (B : Nat) (v : Value) (ls : List (List Int)) (xs : List Value) (A' : Option Addr) (n' c' : Nat) (l : List Int) (c : Nat) (hs : a.eval s = v) (hown : OwnLL W B v ls xs) (hn : n' = l.length) (hu : OwnI W B (.slice A' n' c') l)
    (h1 : ∀ g, Value.ownBlock (.slice A' n' c') = some g → v.ownBlock ≠ some g) (h2 : ∀ (k : Nat) (u' : Value) (g : Nat), xs[k]? = some u' → u'.ownBlock = some g → Value.ownBlock (.slice A' n' c') ≠ some g)
    (hx : a.eval x = .slice (some ⟨W.heap.size, 0, none⟩) 1 c) (hl : ls.length ≤ 1000000) (hB : B ≤ W.heap.size) (k : Nat) (hk : ls.length = k)
    (h : ∀ g1 c1 w', OwnLL w' B (.slice (some ⟨g1, 0, none⟩) (k + 1) c1) (ls ++ [l]) (xs ++ [.slice A' n' c']) → Turn v.ownBlock.toList W w' → wpList Try.prog ops Q rest (a.put o.dst (.slice (some ⟨g1, 0, none⟩) (k + 1) c1)) w') :
    wpList Try.prog ops Q (o :: rest) a (W.alloc (.cells #[.slice A' n' c'] 23)) := by
  subst hn
  refine wpList_appRow hgd s x ho W B v ls xs A' c' l c hs hown hu h1 h2 hx hl hB fun v' w' r1 r2 r3 => ?_
  obtain ⟨g1, c1, rfl⟩ := r1.shape (k := k) (by simp [hk])
  exact h g1 c1 w' r1 r2

theorem wpList_app1S {ops : Array Oper} {rest : List Oper} {o : Oper} {a : Act} {Q : Exit → Act → World → Prop} (hgd : o.guard = none) (s x : Operand)
    (ho : o.op = .call { callee := .builtin .append, args := #[s, x], argTypes := #[23, 23] })
    (W : World) (B : Nat) (v : Value) (l : List Int) (y : Int) (c : Nat) (hs : a.eval s = v) (hown : OwnI W B v l) (hx : a.eval x = .slice (some ⟨W.heap.size, 0, none⟩) 1 c)
    (hl : l.length ≤ 1000000) (hB : B ≤ W.heap.size) (k : Nat) (hk : l.length = k)
    (h : ∀ g1 c1 w', OwnI w' B (.slice (some ⟨g1, 0, none⟩) (k + 1) c1) (l ++ [y]) → Turn v.ownBlock.toList W w' → (Value.ownBlock (.slice (some ⟨g1, 0, none⟩) (k + 1) c1) = v.ownBlock ∨ ∃ g, Value.ownBlock (.slice (some ⟨g1, 0, none⟩) (k + 1) c1) = some g ∧ W.heap.size ≤ g) → wpList Try.prog ops Q rest (a.put o.dst (.slice (some ⟨g1, 0, none⟩) (k + 1) c1)) w') :
    wpList Try.prog ops Q (o :: rest) a (W.alloc (.cells #[.int .i64 y] 3)) := by
  refine wpList_app1 hgd s x ho W B v l y c hs hown hx hl hB fun v' w' r1 r2 r3 => ?_
  obtain ⟨g1, c1, rfl⟩ := r1.shape (k := k) (by simp [hk])
  exact h g1 c1 w' r1 r2 r3
end
end Go.Proofs.Ytjgabnphafkgoaa
