/- slices.Insert of one row. -/
import Derived.Test.YtclofjlonncnlaaDoorMeet
import Derived.Shelf.Spec.SlicesInsertGrow
set_option linter.unusedSimpArgs false
set_option linter.unusedVariables false
namespace Go.Proofs.YtclofjlonncnlaaDoor
open Go.RowKit Go.Lib

theorem row_info : (Tryd.prog.info? 46).map (fun i => (i.zero, i.size, i.bytes)) = some (some (.agg #[.int .i64 0, .int .u64 0, .int .u64 0, .int .u64 0, .int .u64 0]), 5, 40) := by kernel_rfl
theorem Row.cells_one (r : Row) : ∀ u ∈ r.cells, u.oneCell' = true := by
  intro u hu
  simp only [Row.cells, List.mem_cons, List.not_mem_nil, or_false] at hu
  rcases hu with rfl | rfl | rfl | rfl | rfl <;> rfl
theorem flat_one (rs : List Row) : ∀ u ∈ rs.flatMap Row.cells, u.oneCell' = true := by
  intro u hu
  obtain ⟨r, _, h⟩ := List.mem_flatMap.1 hu
  exact r.cells_one u h
theorem flat_append (rs ss : List Row) : (rs ++ ss).flatMap Row.cells = rs.flatMap Row.cells ++ ss.flatMap Row.cells := List.flatMap_append
theorem flat_take (rs : List Row) (k : Nat) : (rs.take k).flatMap Row.cells = (rs.flatMap Row.cells).take (k * 5) := by
  induction rs generalizing k with
  | nil => simp
  | cons r t ih =>
    cases k with
    | zero => simp
    | succ k =>
      rw [List.take_succ_cons, flat_cons, flat_cons, ih, show (k + 1) * 5 = k * 5 + 5 by omega]
      simp only [List.take_succ_cons]
theorem flat_drop (rs : List Row) (k : Nat) : (rs.drop k).flatMap Row.cells = (rs.flatMap Row.cells).drop (k * 5) := by
  induction rs generalizing k with
  | nil => simp
  | cons r t ih =>
    cases k with
    | zero => simp
    | succ k =>
      rw [List.drop_succ_cons, flat_cons, ih, show (k + 1) * 5 = k * 5 + 5 by omega]
      simp only [List.drop_succ_cons]

/-- What Insert answers of one row. -/
def insR (rs : List Row) (i : Nat) (r : Row) : List Row := rs.take i ++ r :: rs.drop i
def InsPost (v : Value) (rs : List Row) (w : World) (e : Ending) (w' : World) : Prop :=
  ∃ v', e = .returned v' ∧ OwnR w' 0 v' rs ∧ Turn v.ownBlock.toList w w' ∧ (v'.ownBlock = v.ownBlock ∨ ∃ g, v'.ownBlock = some g ∧ w.heap.size ≤ g)
theorem block_cells {w : World} {b : Nat} {r : Row} (h : w.heap[b]? = some (.cells r.cells.toArray 46 (0, 0))) : ∀ j u, r.cells[j]? = some u → w.cell? ((⟨b, 0, none⟩ : Addr).add j) = some u := by
  intro j u hj
  rw [Addr.add_lit, Nat.zero_add, cell_of_row w b j _ 46 (0, 0) h]
  simpa using hj
set_option maxHeartbeats 1000000 in
theorem insert_end (v : Value) (rs : List Row) (r : Row) (vb vc : Nat) (w : World) (h : OwnR w 0 v rs) (hl : rs.length ≤ 100000) (hb : w.heap[vb]? = some (.cells r.cells.toArray 46 (0, 0))) :
    Calls Tryd.prog 26 #[v, .int .i64 rs.length, .slice (some ⟨vb, 0, none⟩) 1 vc] w (InsPost v (rs ++ [r]) w) := by
  obtain ⟨A, c, rfl, hrow, hc⟩ := h.form
  have H := Lib.hid h
  have HB := Lib.hid hb
  obtain ⟨i0, hi0, hz0, hz1, hz2⟩ := info_parts row_info
  have hnews := block_cells hb
  have HNw := Lib.hid hnews
  clear h hb hrow hnews
  generalize hn : rs.length = n at *
  have HN := Lib.hid hn
  clear hn
  by_cases hcn : c = n
  all_goals
    go_enter Tryd.func26, Tryd.ntmps26
    go_wp2_with (at_builtin; refine wpList_append_own_at w rfl (.tmp 23) (.tmp 24) 37 rfl 0 46 i0 _ 5 40 Tryd.underlying37 hi0 hz0 hz1 hz2 rfl (by omega) (.slice A n c) n (rs.flatMap Row.cells) rfl (by rw [← HN.out]; have := H.out; rw [← HN.out] at this; exact this) ⟨vb, 0, none⟩ 1 vc r.cells rfl rfl HNw.out r.cells_one (by simp only [maxLen]; omega) (by omega) (Nat.zero_le _) ?_; intro v' w' h1 h2 _ h4)
    go_ret
    refine ⟨v', rfl, ?_, (Turn.refl _ _).grown h2 (fun k hk => .inl (by simp [hk])), ?_⟩
    · unfold OwnR
      rw [List.length_append, flat_append, HN.out]
      simpa [List.flatMap_cons] using h1
    · rcases h4 with h4 | h4
      · exact .inl h4
      · exact .inr ⟨_, h4, Nat.le_refl _⟩
end Go.Proofs.YtclofjlonncnlaaDoor
