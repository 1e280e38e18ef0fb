/- The queue's memory: its members (a map that is a set), its line (a slice that moves along its row). -/
import Derived.Test.YtchccoolnelohaaKit
set_option linter.unusedSimpArgs false
set_option linter.unusedVariables false
namespace Go.Proofs.Ytchccoolnelohaa
open Go.RowKit Go.Maps

theorem law3 : Keyed Try.prog 3 := int_keyed Try.underlying3
theorem zero51 (w : World) : (zeroValue 51).run Try.prog w = .ok (.agg #[]) w := by kernel_rfl
theorem key3 {i : Int} (h : (Lit.int .i64 i).wf = true) : keyOf Try.prog 3 (.int .i64 i) = some (.int .i64 i) := keyOf_int_mk Try.underlying3 h
theorem wf_small {i : Int} (h0 : 0 ≤ i) (h : i < 1048576) : (Lit.int .i64 i).wf = true := WalkArith.wf_i64 (by omega)

def inL (l : List Int) (x : Int) : Bool := l.contains x
theorem inL_nil (x : Int) : inL [] x = false := rfl
theorem inL_snoc (l : List Int) (x y : Int) : inL (l ++ [x]) y = (inL l y || (y == x)) := by
  unfold inL
  rw [List.contains_eq_mem, List.contains_eq_mem, Bool.eq_iff_iff]
  simp
theorem inL_cons (l : List Int) (x y : Int) : inL (x :: l) y = ((y == x) || inL l y) := by
  unfold inL
  rw [List.contains_cons]

/-- Block m is a map whose keys are those of s, each once. -/
def SetF (w : World) (m : Nat) (s : List Int) : Prop :=
  ∃ D : DataW Unit, w.ownsMap Try.prog 3 unitElem m s.length D ∧ Maps.size D = s.length ∧ ∀ i : Int, Maps.has D (.int .i64 i) = inL s i

theorem SetF.lt {w : World} {m : Nat} {s : List Int} (h : SetF w m s) : m < w.heap.size := by
  obtain ⟨D, h, _⟩ := h
  exact h.lt
theorem SetF.turn {F : List Nat} {w w' : World} {m : Nat} {s : List Int} (h : SetF w m s) (t : Turn F w w') (hn : m ∉ F) : SetF w' m s := by
  obtain ⟨D, ⟨es, clock, hb, r⟩, h2⟩ := h
  exact ⟨D, ⟨es, clock, t.heap hb hn, r⟩, h2⟩
theorem SetF.made (w : World) : SetF (w.alloc (.map #[] 0)) w.heap.size [] :=
  ⟨.map [], World.ownsMap_made _ _ _ _, rfl, fun i => rfl⟩
theorem SetF.blk {w : World} {m : Nat} {s : List Int} (h : SetF w m s) : ∃ es clock, w.heap[m]? = some (.map es clock) := by
  obtain ⟨D, ⟨es, clock, hb, r⟩, h2⟩ := h
  exact ⟨es, clock, hb⟩

theorem ownsMap_resize {w : World} {m n : Nat} {D : DataW Unit} (h : w.ownsMap Try.prog 3 unitElem m n D) : w.ownsMap Try.prog 3 unitElem m (Maps.size D) D := by
  obtain ⟨es, clock, hb, F, hs, rfl⟩ := h
  exact ⟨es, clock, hb, F, Nat.le_of_eq (by simp [Maps.size, length_sorted]), rfl⟩

/-- A map value: nil, or a map. -/
def Mb (w : World) (M : Value) (s : List Int) : Prop := (M = .map none ∧ s = []) ∨ ∃ m, M = .map (some m) ∧ SetF w m s

theorem Mb.turn {F : List Nat} {w w' : World} {M : Value} {s : List Int} (h : Mb w M s) (t : Turn F w w') (hn : ∀ m, M = .map (some m) → m ∉ F) : Mb w' M s := by
  rcases h with h | ⟨m, rfl, h⟩
  · exact .inl h
  · exact .inr ⟨m, rfl, h.turn t (hn m rfl)⟩

section
variable {ops : Array Oper} {rest : List Oper} {o : Oper} {a : Act} {Q : Exit → Act → World → Prop}

theorem wpList_lookS (w : World) (hg : o.guard = none) (mo x : Operand) (hop : o.op = Op.lookup 41 mo x true) (M : Value) (s : List Int) (hm : a.eval mo = M) (h : Mb w M s)
    (i : Int) (hx : a.eval x = .int .i64 i) (hi : (Lit.int .i64 i).wf = true) (hK : wpList Try.prog ops Q rest (a.put o.dst (.tuple #[.agg #[], .bool (inL s i)])) w) : wpList Try.prog ops Q (o :: rest) a w := by
  rcases h with ⟨rfl, rfl⟩ | ⟨m, rfl, D, hown, hs, h1⟩
  · refine wpList_plain hg fun K' hK' => ?_
    unfold Oper.wp
    simp [execOp, hop, hm, hx, Maps.look_nil true law3 Try.underlying41 (zero51 w) (key3 hi), Result.andThen]
    exact hK' _ _ hK
  · refine wpList_lookup_own_unit w hg mo x 41 hop 3 51 law3 Try.underlying41 (zero51 w) m _ D hm hown _ _ hx (key3 hi) ?_
    rw [h1 i]
    exact hK

theorem wpList_storeS (w : World) (hg : o.guard = none) (mo x v : Operand) (hop : o.op = Op.mapUpdate 41 mo x v) (m : Nat) (s : List Int) (hm : a.eval mo = .map (some m)) (h : SetF w m s) (hs : s.length ≤ 10000000)
    (i : Int) (hx : a.eval x = .int .i64 i) (hv : a.eval v = .agg #[]) (hi : (Lit.int .i64 i).wf = true) (hn : inL s i = false)
    (hK : ∀ w', SetF w' m (s ++ [i]) → Turn [m] w w' → wpList Try.prog ops Q rest (a.put o.dst undef) w') : wpList Try.prog ops Q (o :: rest) a w := by
  obtain ⟨D, hown, hsz, h1⟩ := h
  refine wpList_mapUpdate_own w hg mo x v 41 hop 3 51 law3 Try.underlying41 _ m _ D hm hown (by unfold maxLen; omega) _ _ _ hx hv (key3 hi) _ [] unitElem_mk fun w' hown' hgrow => ?_
  refine hK w' ⟨D.put (.int .i64 i) (.agg []), ?_, ?_, ?_⟩ ((Turn.refl _ _).grown hgrow (fun k hk => .inl (by cases hk; simp)))
  · have := ownsMap_resize hown'
    rw [Maps.size_put (hown.tidy law3), hsz, h1 i, hn] at this
    simpa using this
  · rw [Maps.size_put (hown.tidy law3), hsz, h1 i, hn]
    simp
  · intro j
    rw [inL_snoc]
    by_cases e : j = i
    · subst e
      rw [Maps.has_put_same hown.isMap (law3.key (key3 hi))]
      simp
    · rw [Maps.has_put_other (fun e2 => e (by injection e2 with _ e2)), h1 j]
      simp [e]

theorem wpList_dropS (w : World) (hg : o.guard = none) (mo x : Operand) (hop : o.op = Op.call { callee := Callee.builtin Builtin.delete, args := #[mo, x], argTypes := #[41, 3] }) (m : Nat) (s : List Int) (hm : a.eval mo = .map (some m))
    (i : Int) (h : SetF w m (i :: s)) (hx : a.eval x = .int .i64 i) (hi : (Lit.int .i64 i).wf = true) (hn : inL s i = false)
    (hK : ∀ w', SetF w' m s → Turn [m] w w' → wpList Try.prog ops Q rest (a.put o.dst (.tuple #[])) w') : wpList Try.prog ops Q (o :: rest) a w := by
  obtain ⟨D, hown, hsz, h1⟩ := h
  refine wpList_delete_own w hg mo x 41 3 hop 51 law3 Try.underlying41 _ m _ D hm hown _ _ hx (key3 hi) fun w' hown' hturn => ?_
  have hsize : Maps.size (D.del (.int .i64 i)) = s.length := by
    have := Maps.size_del (k := .int .i64 i) (hown.tidy law3)
    rw [h1 i, hsz, inL_cons] at this
    simp at this
    omega
  refine hK w' ⟨D.del (.int .i64 i), ?_, hsize, ?_⟩ ((Turn.refl _ _).grown hturn.grown (fun k hk => .inl (by cases hk; simp)))
  · have := ownsMap_resize hown'
    rw [hsize] at this
    exact this
  · intro j
    by_cases e : j = i
    · subst e
      rw [Maps.has_del_same, hn]
    · rw [Maps.has_del_other (fun e2 => e (by injection e2 with _ e2)), h1 j, inL_cons]
      simp [e]
end

/-- The slice v of ints lies in a row of its own, somewhere along it, and holds l. -/
def Ln (w : World) (v : Value) (l : List Int) : Prop :=
  (v = .slice none 0 0 ∧ l = []) ∨ ∃ g off cap cur, v = .slice (some ⟨g, off, none⟩) l.length cap ∧ w.heap[g]? = some (.cells cur 3 (0, 0)) ∧ l.length ≤ cap ∧ cap ≤ maxLen ∧ off + cap ≤ cur.size ∧ ∀ (k : Nat) (y : Int), l[k]? = some y → cur[off + k]? = some (.int .i64 y)

theorem Ln.turn {F : List Nat} {w w' : World} {v : Value} {l : List Int} (h : Ln w v l) (t : Turn F w w') (hn : ∀ g, v.ownBlock = some g → g ∉ F) : Ln w' v l := by
  rcases h with h | ⟨g, off, cap, cur, rfl, hg, r⟩
  · exact .inl h
  · exact .inr ⟨g, off, cap, cur, rfl, t.heap hg (hn g rfl), r⟩
theorem Ln.form {w : World} {v : Value} {l : List Int} (h : Ln w v l) : ∃ A c, v = .slice A l.length c ∧ Ints w A l ∧ l.length ≤ c := by
  rcases h with ⟨rfl, rfl⟩ | ⟨g, off, cap, cur, rfl, hg, hc, hm, hs, hr⟩
  · exact ⟨none, 0, rfl, Ints.nil _ _, Nat.le_refl _⟩
  · refine ⟨_, cap, rfl, fun k y hy => ⟨g, off, rfl, (Array.getElem?_eq_some_iff.1 hg).1, ?_⟩, hc⟩
    rw [cell_of_row w g _ _ _ _ hg]
    exact hr k y hy
theorem Ln.lt {w : World} {v : Value} {l : List Int} (h : Ln w v l) : ∀ g, v.ownBlock = some g → g < w.heap.size ∧ ∃ cur, w.heap[g]? = some (.cells cur 3 (0, 0)) := by
  rcases h with ⟨rfl, rfl⟩ | ⟨g, off, cap, cur, rfl, hg, _⟩
  · intro g hg
    cases hg
  · rintro k ⟨⟩
    exact ⟨(Array.getElem?_eq_some_iff.1 hg).1, cur, hg⟩

/-- Behind 'l[1:]'. -/
def tailV (A : Option Addr) (n c : Nat) : Value := .slice (if c = 1 then A else A.map (·.add 1)) n (c - 1)
theorem Ln.tail {w : World} {A : Option Addr} {c : Nat} {x : Int} {l : List Int} (h : Ln w (.slice A (l.length + 1) c) (x :: l)) : Ln w (tailV A l.length c) l ∧ ∀ g, (tailV A l.length c).ownBlock = some g → (Value.slice A (l.length + 1) c).ownBlock = some g := by
  rcases h with ⟨_, h⟩ | ⟨g, off, cap, cur, e, hg, hc, hm, hs, hr⟩
  · cases h
  · injection e with e1 e2 e3
    subst e1; subst e3
    rw [List.length_cons] at hc
    unfold tailV
    by_cases h1 : c = 1
    · rw [if_pos h1]
      refine ⟨.inr ⟨g, off, c - 1, cur, rfl, hg, by omega, by omega, by omega, ?_⟩, fun g h => h⟩
      intro k y hy
      have hk : k < l.length := (List.getElem?_eq_some_iff.1 hy).1
      omega
    · rw [if_neg h1]
      refine ⟨.inr ⟨g, off + 1, c - 1, cur, by simp [Addr.add_lit], hg, by omega, by omega, by omega, ?_⟩, fun g h => by simpa [Value.ownBlock, Addr.add_lit] using h⟩
      intro k y hy
      have := hr (k + 1) y (by simpa using hy)
      rw [← this]
      congr 1
      omega

theorem run_append_ln (w : World) (ty : TypeId) (v : Value) (l : List Int) (hown : Ln w v l) (ad : Addr) (c : Nat) (y : Int) (hcell : w.cell? (ad.add 0) = some (.int .i64 y)) (hl : l.length ≤ 10000000) :
    ∃ v' w', (Builtin.append_ #[26, 26] ty #[v, .slice (some ad) 1 c]).run Try.prog w = .ok v' w' ∧ Ln w' v' (l ++ [y]) ∧ w.grownBy w' v.ownBlock ∧ (v'.ownBlock = v.ownBlock ∨ v'.ownBlock = some w.heap.size) := by
  obtain ⟨i, hi, hz, hz1, hz2⟩ := info_parts int_info
  have hnews : ∀ j u, ([Value.int .i64 y] : List Value)[j]? = some u → w.cell? (ad.add j) = some u := by
    intro j u hj
    match j, hj with
    | 0, hj => simp at hj; subst hj; exact hcell
  have grown : ∀ (old : Nat), ∀ (row : Option Nat),
      Ln (w.drew.alloc (.cells ((l.map (Value.int .i64)).toArray ++ #[Value.int .i64 y] ++ Builtin.zeroCells (Value.int .i64 0).cells (grownCap w (l.length + 1) old 3 - (l.length + 1))) 3))
        (.slice (some ⟨w.heap.size, 0, none⟩) (l.length + 1) (grownCap w (l.length + 1) old 3)) (l ++ [y]) ∧
      w.grownBy (w.drew.alloc (.cells ((l.map (Value.int .i64)).toArray ++ #[Value.int .i64 y] ++ Builtin.zeroCells (Value.int .i64 0).cells (grownCap w (l.length + 1) old 3 - (l.length + 1))) 3)) row := by
    intro old row
    have hge := grownCap_ge w (l.length + 1) old 3
    have hcm : grownCap w (l.length + 1) old 3 ≤ maxLen := grownCap_le_maxLen w (l.length + 1) old 3 (by unfold maxLen; omega)
    refine ⟨.inr ⟨w.heap.size, 0, _, _, by simp, heap_alloc_new w.drew _, by simp; omega, hcm, ?_, ?_⟩, ⟨rfl, rfl, rfl, by simp, fun k hk _ => Below.heap_alloc w.drew _ _ hk⟩⟩
    · simp only [Array.size_append, List.size_toArray, size_zeroCells, List.length_map, Value.cells, Array.size_singleton]
      simp
      omega
    · intro k z hk
      have hlt : k < l.length + 1 := by
        have := (List.getElem?_eq_some_iff.1 hk).1
        simpa using this
      rw [Nat.zero_add, Array.getElem?_append_left (by simp; omega), ← Array.getElem?_toList]
      have e : ((l.map (Value.int .i64)).toArray ++ #[Value.int .i64 y]).toList = (l ++ [y]).map (Value.int .i64) := by simp
      rw [e, List.getElem?_map, hk]
      rfl
  rcases hown with ⟨rfl, rfl⟩ | ⟨g, off, cap, cur, rfl, hg, hc, hm, hs, hr⟩
  · have hrun := run_append_nil (P := Try.prog) w 26 ty 3 i _ Try.underlying26 hi hz ad 1 c [.int .i64 y] (by rw [hz1]; rfl) hnews (by omega) (by omega) (by rw [hz2]; omega)
    have hgr := grown 0 (Value.ownBlock (.slice none 0 0))
    simp only [List.map_nil, List.length_nil, Nat.zero_add, List.nil_append] at hgr ⊢
    refine ⟨_, _, hrun, ?_, ?_, .inr rfl⟩
    · simpa using hgr.1
    · simpa using hgr.2
  · by_cases hroom : l.length + 1 ≤ cap
    · have hf := run_firstCells_some (P := Try.prog) w i.size 1 ad 1 c [.int .i64 y] (by rw [hz1]; rfl) hnews
      have hst := run_storeCells_at Try.prog g (off + l.length) 3 [.int .i64 y] 0 cur w hg (by simp; omega) (by simp [Value.oneCell'])
      simp only [Nat.add_zero] at hst
      refine ⟨.slice (some ⟨g, off, none⟩) (l.length + 1) cap, w.setRow g (cur.toList.take (off + l.length) ++ [Value.int .i64 y] ++ cur.toList.drop (off + l.length + [Value.int .i64 y].length)).toArray, ?_, .inr ⟨g, off, cap, _, by simp, setRow_heap w g cur _ 3 _ hg, by simpa using hroom, hm, ?_, ?_⟩, ⟨rfl, rfl, rfl, by simp, fun k _ hk => setRow_other w g k _ (fun e => hk (by simp [Value.ownBlock, e]))⟩, .inl rfl⟩
      · rw [hz1] at hf
        simp [Builtin.append_, run_underlying Try.underlying26, sizeOf, typeInfo, hi, Builtin.lenOf, hroom, hf, Addr.add_lit, hz1, hst]
      · simp only [List.size_toArray, List.length_append, List.length_take, List.length_drop, Array.length_toList, List.length_singleton]
        omega
      · intro k z hk
        have hlt : k < l.length + 1 := by
          have := (List.getElem?_eq_some_iff.1 hk).1
          simpa using this
        rw [List.getElem?_toArray]
        by_cases hkl : k < l.length
        · rw [List.getElem?_append_left hkl] at hk
          rw [List.append_assoc, List.getElem?_append_left (by simp; omega), List.getElem?_take_of_lt (by omega), Array.getElem?_toList]
          exact hr k z hk
        · have hk' : k = l.length := by omega
          subst hk'
          simp at hk
          subst hk
          rw [List.append_assoc, List.getElem?_append_right (by simp; omega)]
          simp
          rw [Nat.min_eq_left (by omega)]
          simp
    · have holds : ∀ j u, (l.map (Value.int .i64))[j]? = some u → w.cell? ((⟨g, off, none⟩ : Addr).add j) = some u := by
        intro j u hj
        rw [List.getElem?_map] at hj
        cases hy : l[j]? with
        | none => rw [hy] at hj; cases hj
        | some z =>
          rw [hy] at hj
          injection hj with hj
          subst hj
          rw [Addr.add_lit, cell_of_row w g _ _ _ _ hg]
          exact hr j z hy
      have hrun := run_append_grow (P := Try.prog) w 26 ty 3 i _ Try.underlying26 hi hz ⟨g, off, none⟩ l.length cap (l.map (Value.int .i64)) (by rw [hz1]; simp) holds ad 1 c [.int .i64 y] (by rw [hz1]; rfl) hnews (by omega) (by omega) (growslice_fits (by omega) (by rw [hz2]; omega))
      have hgr := grown cap (Value.ownBlock (.slice (some ⟨g, off, none⟩) l.length cap))
      exact ⟨_, _, hrun, hgr.1, hgr.2, .inr rfl⟩

theorem wpList_appQ {ops : Array Oper} {rest : List Oper} {o : Oper} {a : Act} {Q : Exit → Act → World → Prop} (hgd : o.guard = none) (s x : Operand)
    (ho : o.op = .call { callee := .builtin .append, args := #[s, x], argTypes := #[26, 26] })
    (W : World) (v : Value) (l : List Int) (y : Int) (c : Nat) (hs : a.eval s = v) (hown : Ln W v l) (hx : a.eval x = .slice (some ⟨W.heap.size, 0, none⟩) 1 c) (hl : l.length ≤ 10000000)
    (h : ∀ v' w', Ln w' v' (l ++ [y]) → Turn v.ownBlock.toList W w' → (v'.ownBlock = v.ownBlock ∨ ∃ g, v'.ownBlock = some g ∧ W.heap.size ≤ g ∧ g < w'.heap.size) → wpList Try.prog ops Q rest (a.put o.dst v') w') :
    wpList Try.prog ops Q (o :: rest) a (W.alloc (.cells #[.int .i64 y] 3)) := by
  refine wpList_plain hgd fun K hK => ?_
  obtain ⟨v', w', hr, h2, h3, h5⟩ := run_append_ln (W.alloc (.cells #[.int .i64 y] 3)) o.type v l (hown.turn ((Turn.refl [] W).alloc _) (by simp)) ⟨W.heap.size, 0, none⟩ c y (by simp [Addr.add]) hl
  unfold Oper.wp execOp
  simp only [ho, resolve, invoke, builtin, Sem.run_bind, Sem.run_pure, Result.andThen_ok, List.map_toArray, List.map_cons, List.map_nil, hs, hx, hr]
  refine hK _ _ (h v' w' h2 (((Turn.refl _ W).alloc _).grown h3 (fun k hk => .inl (by simp [hk]))) ?_)
  rcases h5 with h5 | h5
  · exact .inl h5
  · exact .inr ⟨_, h5, by simp, (h2.lt _ h5).1⟩
end Go.Proofs.Ytchccoolnelohaa
