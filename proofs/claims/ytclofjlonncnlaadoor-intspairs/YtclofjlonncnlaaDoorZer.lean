/- append of so many empty rows; a row stored whole. -/
import Derived.Test.YtclofjlonncnlaaDoorMg
set_option linter.unusedSimpArgs false
set_option linter.unusedVariables false
namespace Go.Proofs.YtclofjlonncnlaaDoor
open Go.RowKit

def zRow : Row := ⟨0, 0, 0, 0, 0⟩
theorem zero_cells (k : Nat) : (Builtin.zeroCells (Value.agg #[.int .i64 0, .int .u64 0, .int .u64 0, .int .u64 0, .int .u64 0]).cells k).toList = (List.replicate k zRow).flatMap Row.cells := by
  apply List.ext_getElem?
  intro j
  by_cases hj : j < k * 5
  · have h1 : (List.replicate k zRow)[j / 5]? = some zRow := by
      rw [List.getElem?_replicate, if_pos (by omega)]
    have h2 := flat_get h1 (j % 5) (by omega)
    rw [show j / 5 * 5 + j % 5 = j by omega] at h2
    rw [h2]
    simp only [Builtin.zeroCells, Value.cells]
    have hm : j % 5 < 5 := by omega
    simp only [Array.toList_map, Array.toList_range, List.getElem?_map]
    rw [List.getElem?_range (by simpa using hj)]
    simp only [Option.map_some, List.size_toArray, List.length_cons, List.length_nil]
    generalize j % 5 = q at hm
    match q, hm with
    | 0, _ => rfl
    | 1, _ => rfl
    | 2, _ => rfl
    | 3, _ => rfl
    | 4, _ => rfl
  · rw [List.getElem?_eq_none, List.getElem?_eq_none]
    · rw [flat_length]; simp; omega
    · simp only [Array.length_toList, size_zeroCells, Value.cells]
      simp; omega
theorem append_zeros (W : World) (ty : TypeId) (v : Value) (rs : List Row) (k : Nat) (h : OwnR W 0 v rs) (hl : rs.length + k ≤ 100000) :
    ∃ v' w', (Builtin.append_ #[37, 3] ty #[v, .int .i64 k]).run Tryd.prog W = .ok v' w' ∧ OwnR w' 0 v' (rs ++ List.replicate k zRow) ∧ Turn v.ownBlock.toList W w' ∧ Moved W v v' := by
  obtain ⟨i0, hi0, hz0, hz1, hz2⟩ := info_parts row_info
  have hw : IntKind.i64.wrap (k : Int) = k := by rw [IntKind.wrap_i64]; omega
  have hw0 : IntKind.i64.wrap 0 = 0 := by rw [IntKind.wrap_i64]; omega
  have hneg : ¬ ((k : Int) < 0) := by omega
  have h48 : ¬ (281474976710656 < (k : Int) * ((i0.bytes : Nat) : Int)) := by rw [hz2]; omega
  have hflat : (rs ++ List.replicate k zRow).flatMap Row.cells = rs.flatMap Row.cells ++ (List.replicate k zRow).flatMap Row.cells := flat_append _ _
  have hlen : (rs ++ List.replicate k zRow).length = rs.length + k := by simp
  rcases h.2 with ⟨rfl, hn⟩ | ⟨g, cap, cur, rfl, _, hg, hnc, hcm, hcs, htake⟩
  · have e : rs = [] := List.eq_nil_of_length_eq_zero hn
    subst e
    by_cases hk : k = 0
    · subst hk
      refine ⟨.slice none 0 0, W, ?_, ?_, Turn.refl _ _, Moved.refl _ _⟩
      · simp [Builtin.append_, run_underlying Tryd.underlying37, run_underlying Tryd.underlying3, sizeOf, typeInfo, hi0, asInt, asIntOf, hw0]
      · exact World.ownsRow_nil _ _ _ _
    · have hr := Lib.run_append_nil_zeros (P := Tryd.prog) W 37 3 ty 46 i0 _ .i64 .i64 Tryd.underlying37 Tryd.underlying3 hi0 hz0 k (by omega) (by omega) (by omega) (by rw [hz2]; omega)
      refine ⟨_, _, hr, ?_, ((Turn.refl _ _).drew).alloc _, .inr ⟨W.heap.size, rfl, Nat.le_refl _⟩⟩
      unfold OwnR
      rw [List.nil_append, List.length_replicate]
      refine ⟨by rw [flat_length]; simp, .inr ⟨W.heap.size, _, _, rfl, Nat.zero_le _, heap_alloc_new W.drew _, grownCap_ge _ _ _ _, grownCap_le_maxLen _ _ _ _ (by unfold maxLen; omega), ?_, ?_⟩⟩
      · have := grownCap_ge W k 0 46
        simp only [Array.size_append, size_zeroCells, Value.cells]
        simp
        omega
      · rw [Array.toList_append, zero_cells, List.take_append_of_le_length (by rw [flat_length]; simp), List.take_of_length_le (by rw [flat_length]; simp)]
  · by_cases hroom : rs.length + k ≤ cap
    · have hst := run_storeCells_at Tryd.prog g (rs.length * 5) 46 ((List.replicate k zRow).flatMap Row.cells) 0 cur W hg (by rw [flat_length, List.length_replicate, hcs]; omega) (flat_one _)
      have hz : ((Builtin.zeroCells (Value.agg #[.int .i64 0, .int .u64 0, .int .u64 0, .int .u64 0, .int .u64 0]).cells k).toList) = (List.replicate k zRow).flatMap Row.cells := zero_cells k
      refine ⟨.slice (some ⟨g, 0, none⟩) (rs.length + k) cap, W.setRow g (cur.toList.take (rs.length * 5) ++ (List.replicate k zRow).flatMap Row.cells ++ cur.toList.drop (rs.length * 5 + ((List.replicate k zRow).flatMap Row.cells).length)).toArray, ?_, ?_, turn_setRow (Turn.refl _ _) (.inl (by simp [Value.ownBlock])) _, .inl rfl⟩
      · simp only [Nat.add_zero] at hst
        by_cases hk : k = 0
        · subst hk
          simp at hst
          simp [Builtin.append_, run_underlying Tryd.underlying37, run_underlying Tryd.underlying3, sizeOf, typeInfo, hi0, hz1, asInt, asIntOf, hw0, hroom, hnc, Addr.add_lit, hst]
        · simp [Builtin.append_, run_underlying Tryd.underlying37, run_underlying Tryd.underlying3, sizeOf, typeInfo, zeroValue, hi0, hz0, hz1, asInt, asIntOf, hw, hneg, h48, hroom, hk, hz, Addr.add_lit, hst]
          intro h0
          omega
      · unfold OwnR
        rw [hlen, hflat]
        refine ⟨by rw [List.length_append, flat_length, flat_length, List.length_replicate]; omega, .inr ⟨g, cap, _, rfl, Nat.zero_le _, setRow_heap W g _ _ 46 _ hg, hroom, hcm, ?_, ?_⟩⟩
        · rw [List.size_toArray]
          simp only [List.length_append, List.length_take, List.length_drop, Array.length_toList, flat_length, List.length_replicate, hcs]
          omega
        · rw [List.toList_toArray, htake, List.take_append_of_le_length (by rw [List.length_append, flat_length, flat_length, List.length_replicate]; omega), List.take_of_length_le (by rw [List.length_append, flat_length, flat_length, List.length_replicate]; omega)]
    · have hold : (Builtin.firstCells i0.size rs.length (.slice (some ⟨g, 0, none⟩) rs.length cap)).run Tryd.prog W.drew = .ok (rs.flatMap Row.cells).toArray W.drew := by
        rw [hz1]
        refine run_firstCells_some W.drew 5 rs.length ⟨g, 0, none⟩ rs.length cap _ (by rw [flat_length]) (fun j u hj => ?_)
        rw [Addr.add_lit, Nat.zero_add]
        have hj' : j < rs.length * 5 := by
          have := (List.getElem?_eq_some_iff.1 hj).1
          rwa [flat_length] at this
        exact (World.ownsRow.cellAt (cap := cap) h j hj').trans hj
      have hr := Lib.run_append_grow_zeros W 37 3 ty 46 i0 _ .i64 .i64 Tryd.underlying37 Tryd.underlying3 hi0 hz0 (some ⟨g, 0, none⟩) rs.length cap _ hold k (by omega) (by omega) (by omega) (by omega) (by rw [hz2]; omega) (by rw [hz2]; exact growslice_fits (by omega) (by omega))
      refine ⟨_, _, hr, ?_, ((Turn.refl _ _).drew).alloc _, .inr ⟨W.heap.size, rfl, Nat.le_refl _⟩⟩
      unfold OwnR
      rw [hlen, hflat]
      refine ⟨by rw [List.length_append, flat_length, flat_length, List.length_replicate]; omega, .inr ⟨W.heap.size, _, _, rfl, Nat.zero_le _, heap_alloc_new W.drew _, grownCap_ge _ _ _ _, grownCap_le_maxLen _ _ _ _ (by unfold maxLen; omega), ?_, ?_⟩⟩
      · have := grownCap_ge W (rs.length + k) cap 46
        simp only [Array.size_append, size_zeroCells, Value.cells, List.size_toArray, flat_length]
        simp
        omega
      · rw [Array.toList_append, Array.toList_append, zero_cells, List.toList_toArray, List.take_append_of_le_length (by rw [List.length_append, flat_length, flat_length, List.length_replicate]; omega), List.take_of_length_le (by rw [List.length_append, flat_length, flat_length, List.length_replicate]; omega)]
theorem step_appz {ops : Array Oper} {o : Oper} {a : Act} {K : Act → World → Prop} {Q : Exit → Act → World → Prop} {E : Prop} (hgd : o.guard = none) (s x : Operand)
    (ho : o.op = .call { callee := .builtin .append, args := #[s, x], argTypes := #[37, 3] }) (W : World) (v : Value) (rs : List Row) (k : Nat)
    (hs : a.eval s = v) (hx : a.eval x = .int .i64 k) (hown : OwnR W 0 v rs) (hl : rs.length + k ≤ 100000)
    (h : ∀ v' w', OwnR w' 0 v' (rs ++ List.replicate k zRow) → Turn v.ownBlock.toList W w' → Moved W v v' → K (a.put o.dst v') w') :
    if Region.wanted o (yielded ops a.tmps) = true then Oper.wp Tryd.prog o a W K Q else E := by
  have hw : Region.wanted o (yielded ops a.tmps) = true := by simp [Region.wanted, hgd]
  rw [if_pos hw]
  obtain ⟨v', w', hr, h2, h3, h5⟩ := append_zeros W o.type v rs k hown hl
  unfold Oper.wp execOp
  simp only [ho, resolve, invoke, builtin, Sem.run_bind, Sem.run_pure, Result.andThen_ok, List.map_toArray, List.map_cons, List.map_nil, hs, hx, hr]
  exact h v' w' h2 h3 h5
theorem flat_set5 {rs : List Row} {k : Nat} (h : k < rs.length) (s : Row) :
    ((((((rs.flatMap Row.cells).set (k * 5) (.int .i64 s.at_)).set (k * 5 + 1) (.int .u64 s.w0)).set (k * 5 + 2) (.int .u64 s.w1)).set (k * 5 + 3) (.int .u64 s.w2)).set (k * 5 + 4) (.int .u64 s.w3)) = (rs.set k s).flatMap Row.cells := by
  induction rs generalizing k with
  | nil => simp at h
  | cons r t ih =>
    cases k with
    | zero =>
      rw [List.set_cons_zero, flat_cons, flat_cons]
      rfl
    | succ k =>
      rw [List.set_cons_succ, flat_cons, flat_cons, ← ih (by simpa using h), show (k + 1) * 5 = k * 5 + 5 by omega, show k * 5 + 5 + 1 = (k * 5 + 1) + 5 by omega, show k * 5 + 5 + 2 = (k * 5 + 2) + 5 by omega, show k * 5 + 5 + 3 = (k * 5 + 3) + 5 by omega, show k * 5 + 5 + 4 = (k * 5 + 4) + 5 by omega]
      simp only [List.set_cons_succ]
/-- A row stored whole among the rows. -/
theorem OwnR.put5 {w : World} {g n cap k : Nat} {rs : List Row} (h : OwnR w 0 (.slice (some ⟨g, 0, none⟩) n cap) rs) (hn : n = rs.length) (hk : k < n) (s : Row) :
    OwnR (((((w.setCell ⟨g, k * 5, none⟩ (.int .i64 s.at_)).setCell ⟨g, k * 5 + 1, none⟩ (.int .u64 s.w0)).setCell ⟨g, k * 5 + 2, none⟩ (.int .u64 s.w1)).setCell ⟨g, k * 5 + 3, none⟩ (.int .u64 s.w2)).setCell ⟨g, k * 5 + 4, none⟩ (.int .u64 s.w3)) 0 (.slice (some ⟨g, 0, none⟩) n cap) (rs.set k s) ∧
    Turn [g] w (((((w.setCell ⟨g, k * 5, none⟩ (.int .i64 s.at_)).setCell ⟨g, k * 5 + 1, none⟩ (.int .u64 s.w0)).setCell ⟨g, k * 5 + 2, none⟩ (.int .u64 s.w1)).setCell ⟨g, k * 5 + 3, none⟩ (.int .u64 s.w2)).setCell ⟨g, k * 5 + 4, none⟩ (.int .u64 s.w3)) := by
  subst hn
  obtain ⟨s0, _⟩ := World.ownsRow.stored (cap := cap) h (k * 5) (.int .i64 (s.at_ : Int))
  obtain ⟨s1, _⟩ := World.ownsRow.stored (cap := cap) s0 (k * 5 + 1) (.int .u64 (s.w0 : Int))
  obtain ⟨s2, _⟩ := World.ownsRow.stored (cap := cap) s1 (k * 5 + 2) (.int .u64 (s.w1 : Int))
  obtain ⟨s3, _⟩ := World.ownsRow.stored (cap := cap) s2 (k * 5 + 3) (.int .u64 (s.w2 : Int))
  obtain ⟨s4, _⟩ := World.ownsRow.stored (cap := cap) s3 (k * 5 + 4) (.int .u64 (s.w3 : Int))
  rw [flat_set5 hk s] at s4
  refine ⟨?_, ?_⟩
  · unfold OwnR
    rw [List.length_set]
    exact s4
  · exact (((((Turn.refl [g] w).setCell (.inl (by simp)) _).setCell (.inl (by simp)) _).setCell (.inl (by simp)) _).setCell (.inl (by simp)) _).setCell (.inl (by simp)) _
end Go.Proofs.YtclofjlonncnlaaDoor
