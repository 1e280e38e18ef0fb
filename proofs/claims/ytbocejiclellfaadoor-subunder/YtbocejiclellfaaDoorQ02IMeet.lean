import Derived.Test.YtbocejiclellfaaDoorQ01IFind
import Derived.Deep.RegionHeld3
import Derived.Shelf.Spec.SlicesInsertGrow
import Derived.Laws.CopyOwn

/- Stage 1's text Meet: what stage 8 wants of it (printed by conv1.py). -/
set_option linter.unusedSimpArgs false
set_option linter.unusedVariables false
set_option maxRecDepth 100000
namespace Go.Proofs.YtbocejiclellfaaDoor
open Go.RowKit

/-- The five cells of a row that lies in a block of its own. -/
def Box (w : World) (b a w0 w1 w2 w3 : Nat) : Prop := w.cell? ⟨b, 0, none⟩ = some (.int .i64 a) ∧ w.cell? ⟨b, 1, none⟩ = some (.int .u64 w0) ∧ w.cell? ⟨b, 2, none⟩ = some (.int .u64 w1) ∧ w.cell? ⟨b, 3, none⟩ = some (.int .u64 w2) ∧ w.cell? ⟨b, 4, none⟩ = some (.int .u64 w3)
theorem Box.turn {F : List Nat} {w w' : World} {b a w0 w1 w2 w3 : Nat} (h : Box w b a w0 w1 w2 w3) (t : Turn F w w') (hb : b ∉ F) : Box w' b a w0 w1 w2 w3 := by
  have hl : b < w.heap.size := World.block_lt_of_cell? w ⟨b, 0, none⟩ h.1
  have k := fun o => t.cell (p := ⟨b, o, none⟩) hl hb
  exact ⟨(k 0).trans h.1, (k 1).trans h.2.1, (k 2).trans h.2.2.1, (k 3).trans h.2.2.2.1, (k 4).trans h.2.2.2.2⟩
end Go.Proofs.YtbocejiclellfaaDoor

/- Stage 1's text Ins: what stage 8 wants of it (printed by conv1.py). -/
set_option linter.unusedSimpArgs false
set_option linter.unusedVariables false
set_option maxRecDepth 100000
namespace Go.Proofs.YtbocejiclellfaaDoor
open Go.RowKit Go.Lib

theorem row_info : (Tryd.prog.info? 135).map (fun i => (i.zero, i.size, i.bytes)) = some (some (.agg #[.int .i64 0, .int .u64 0, .int .u64 0, .int .u64 0, .int .u64 0]), 5, 40) := by kernel_rfl
theorem Row.cells_one (r : Row) : ∀ u ∈ r.cells, u.oneCell' = true := by
  intro u hu
  simp only [Row.cells, List.mem_cons, List.not_mem_nil, or_false] at hu
  rcases hu with rfl | rfl | rfl | rfl | rfl <;> rfl
theorem flat_one (rs : List Row) : ∀ u ∈ rs.flatMap Row.cells, u.oneCell' = true := by
  intro u hu
  obtain ⟨r, _, h⟩ := List.mem_flatMap.1 hu
  exact r.cells_one u h
theorem flat_append (rs ss : List Row) : (rs ++ ss).flatMap Row.cells = rs.flatMap Row.cells ++ ss.flatMap Row.cells := List.flatMap_append
theorem flat_take (rs : List Row) (k : Nat) : (rs.take k).flatMap Row.cells = (rs.flatMap Row.cells).take (k * 5) := by
  induction rs generalizing k with
  | nil => simp
  | cons r t ih =>
    cases k with
    | zero => simp
    | succ k =>
      rw [List.take_succ_cons, flat_cons, flat_cons, ih, show (k + 1) * 5 = k * 5 + 5 by omega]
      simp only [List.take_succ_cons]
theorem flat_drop (rs : List Row) (k : Nat) : (rs.drop k).flatMap Row.cells = (rs.flatMap Row.cells).drop (k * 5) := by
  induction rs generalizing k with
  | nil => simp
  | cons r t ih =>
    cases k with
    | zero => simp
    | succ k =>
      rw [List.drop_succ_cons, flat_cons, ih, show (k + 1) * 5 = k * 5 + 5 by omega]
      simp only [List.drop_succ_cons]
/-- What Insert answers of one row. -/
def insR (rs : List Row) (i : Nat) (r : Row) : List Row := rs.take i ++ r :: rs.drop i
def InsPost (v : Value) (rs : List Row) (w : World) (e : Ending) (w' : World) : Prop :=
  ∃ v', e = .returned v' ∧ OwnR w' 0 v' rs ∧ Turn v.ownBlock.toList w w' ∧ (v'.ownBlock = v.ownBlock ∨ ∃ g, v'.ownBlock = some g ∧ w.heap.size ≤ g)
theorem block_cells {w : World} {b : Nat} {r : Row} (h : w.heap[b]? = some (.cells r.cells.toArray 135 (0, 0))) : ∀ j u, r.cells[j]? = some u → w.cell? ((⟨b, 0, none⟩ : Addr).add j) = some u := by
  intro j u hj
  rw [Addr.add_lit, Nat.zero_add, cell_of_row w b j _ 135 (0, 0) h]
  simpa using hj
set_option maxHeartbeats 1000000 in
theorem insert_end (v : Value) (rs : List Row) (r : Row) (vb vc : Nat) (w : World) (h : OwnR w 0 v rs) (hl : rs.length ≤ 100000) (hb : w.heap[vb]? = some (.cells r.cells.toArray 135 (0, 0))) :
    Calls Tryd.prog 83 #[v, .int .i64 rs.length, .slice (some ⟨vb, 0, none⟩) 1 vc] w (InsPost v (rs ++ [r]) w) := by
  obtain ⟨A, c, rfl, hrow, hc⟩ := h.form
  have H := Lib.hid h
  have HB := Lib.hid hb
  obtain ⟨i0, hi0, hz0, hz1, hz2⟩ := info_parts row_info
  have hnews := block_cells hb
  have HNw := Lib.hid hnews
  clear h hb hrow hnews
  generalize hn : rs.length = n at *
  have HN := Lib.hid hn
  clear hn
  by_cases hcn : c = n
  all_goals
    go_enter Tryd.func83, Tryd.ntmps83
    go_wp2_with (at_builtin; refine wpList_append_own_at w rfl (.tmp 23) (.tmp 24) 127 rfl 0 135 i0 _ 5 40 Tryd.underlying127 hi0 hz0 hz1 hz2 rfl (by omega) (.slice A n c) n (rs.flatMap Row.cells) rfl (by rw [← HN.out]; have := H.out; rw [← HN.out] at this; exact this) ⟨vb, 0, none⟩ 1 vc r.cells rfl rfl HNw.out r.cells_one (by simp only [maxLen]; omega) (by omega) (Nat.zero_le _) ?_; intro v' w' h1 h2 _ h4)
    go_ret
    refine ⟨v', rfl, ?_, (Turn.refl _ _).grown h2 (fun k hk => .inl (by simp [hk])), ?_⟩
    · unfold OwnR
      rw [List.length_append, flat_append, HN.out]
      simpa [List.flatMap_cons] using h1
    · rcases h4 with h4 | h4
      · exact .inl h4
      · exact .inr ⟨_, h4, Nat.le_refl _⟩
end Go.Proofs.YtbocejiclellfaaDoor

/- Stage 1's text Ins2: what stage 8 wants of it (printed by conv1.py). -/
set_option linter.unusedSimpArgs false
set_option linter.unusedVariables false
set_option maxRecDepth 100000
namespace Go.Proofs.YtbocejiclellfaaDoor
open Go.RowKit Go.Lib

/-- copy between slices of rows: the block behind it. -/
theorem run_copy5 (w : World) (ty : TypeId) (g o dLen dCap : Nat) (a : Addr) (sLen sCap k : Nat) (cur : List Value) (cs : List Value)
    (hg : w.heap[g]? = some (.cells cur.toArray 135 (0, 0))) (hk : k = Nat.min sLen dLen) (hn : cs.length = k * 5)
    (hsrc : ∀ j v, cs[j]? = some v → w.cell? (a.add j) = some v) (hfit : o + cs.length ≤ cur.length) (h1 : ∀ v ∈ cs, v.oneCell' = true) :
    (Builtin.copy_ #[127, 127] ty #[.slice (some ⟨g, o, none⟩) dLen dCap, .slice (some a) sLen sCap]).run Tryd.prog w = .ok (goInt k) (w.setRow g (splice cur o cs).toArray) := by
  have hl := run_loadCells_list (P := Tryd.prog) w a cs hsrc
  have hst := run_storeCells_at Tryd.prog g o 135 cs 0 cur.toArray w hg (by simpa using hfit) h1
  obtain ⟨i0, hi0, hz0, hz1, hz2⟩ := info_parts row_info
  simp [Builtin.copy_, run_underlying Tryd.underlying127, Builtin.lenOf, Builtin.firstCells, sizeOf, typeInfo, hi0, hz1, ← hk, ← hn, hl, hst, splice]
set_option maxHeartbeats 1000000 in
theorem insert_grow (g n c i vb vc : Nat) (rs : List Row) (r : Row) (w : World) (h : OwnR w 0 (.slice (some ⟨g, 0, none⟩) n c) rs) (hn : n = rs.length) (hl : n ≤ 100000) (hi : i < n) (hnc : n ≤ c) (hroom : c < n + 1)
    (hb : w.heap[vb]? = some (.cells r.cells.toArray 135 (0, 0))) :
    Calls Tryd.prog 83 #[.slice (some ⟨g, 0, none⟩) n c, .int .i64 i, .slice (some ⟨vb, 0, none⟩) 1 vc] w (InsPost (.slice (some ⟨g, 0, none⟩) n c) (insR rs i r) w) := by
  have hcn : c = n := by omega
  subst hcn
  have H := Lib.hid h
  have HB := Lib.hid hb
  have HN := Lib.hid hn
  obtain ⟨i0, hi0, hz0, hz1, hz2⟩ := info_parts row_info
  have hnews := block_cells hb
  have HNw := Lib.hid hnews
  clear h hb hnews hn hroom hnc
  have hz1' : ((i : Int) == (c : Int)) = false := by simp; omega
  have hci : ¬ (c = i) := by omega
  have hold : (Builtin.firstCells i0.size i (.slice (some ⟨g, 0, none⟩) i c)).run Tryd.prog w.drew = .ok ((rs.take i).flatMap Row.cells).toArray w.drew := by
    rw [hz1]
    refine run_firstCells_some w.drew 5 i ⟨g, 0, none⟩ i c _ (by rw [flat_length, List.length_take]; have := HN.out; omega) (fun j v hj => ?_)
    rw [Addr.add_lit, Nat.zero_add]
    rw [flat_take, List.getElem?_take] at hj
    split at hj
    · have hh := H.out
      have e := HN.out
      subst e
      exact (World.ownsRow.cellAt (cap := rs.length) hh j (by omega)).trans hj
    · cases hj
  obtain ⟨G, hG⟩ : ∃ G, G = grownCap w (c + 1) c 135 := ⟨_, rfl⟩
  obtain ⟨ROW, hROW⟩ : ∃ ROW : Array Value, ROW = ((rs.take i).flatMap Row.cells).toArray ++ Builtin.zeroCells (Value.agg #[.int .i64 0, .int .u64 0, .int .u64 0, .int .u64 0, .int .u64 0]).cells (c + 1 - i) ++ Builtin.zeroCells (Value.agg #[.int .i64 0, .int .u64 0, .int .u64 0, .int .u64 0, .int .u64 0]).cells (G - (c + 1)) := ⟨_, rfl⟩
  obtain ⟨W1, hW1⟩ : ∃ W1, W1 = w.drew.alloc (.cells ROW 135) := ⟨_, rfl⟩
  have hrz : ∀ ty, (Builtin.append_ #[127, 3] ty #[.slice (some ⟨g, 0, none⟩) i c, .int .i64 ((c : Int) + 1 - (i : Int))]).run Tryd.prog w = .ok (.slice (some ⟨w.heap.size, 0, none⟩) (c + 1) G) W1 := fun ty => by
    have h := Lib.run_append_grow_zeros w 127 3 ty 135 i0 _ .i64 .i64 Tryd.underlying127 Tryd.underlying3 hi0 hz0 (some ⟨g, 0, none⟩) i c _ hold (c + 1 - i) (by omega) (by omega) (by omega) (by omega) (by rw [hz2]; omega) (by rw [hz2, show i + (c + 1 - i) = c + 1 by omega]; exact growslice_fits (by omega) (by omega))
    rw [show i + (c + 1 - i) = c + 1 by omega] at h
    rw [show (c : Int) + 1 - (i : Int) = ((c + 1 - i : Nat) : Int) by omega, hW1, hROW, hG]
    exact h
  have hGc : c + 1 ≤ G := by rw [hG]; exact grownCap_ge w _ _ _
  have hGm : G ≤ 9223372036854775807 := by
    have := grownCap_le_maxLen w (c + 1) c 135 (by unfold maxLen; omega)
    rw [← hG] at this
    unfold maxLen at this
    omega
  have hfl : ((rs.take i).flatMap Row.cells).length = i * 5 := by rw [flat_length, List.length_take]; have := HN.out; omega
  have hRs : ROW.toList.length = G * 5 := by
    rw [hROW]
    simp only [Array.toList_append, List.length_append, hfl, Array.length_toList, size_zeroCells, Value.cells]
    simp
    omega
  have hRt : ROW.toList.take (i * 5) = (rs.take i).flatMap Row.cells := by
    rw [hROW]
    simp only [Array.toList_append, List.append_assoc]
    rw [List.take_append_of_le_length (by simp [hfl]), List.take_of_length_le (by simp [hfl])]
  have hblk : W1.heap[w.heap.size]? = some (.cells ROW.toList.toArray 135 (0, 0)) := by
    rw [hW1]
    exact heap_alloc_new w.drew _
  have hT1 : Turn [] w W1 := by rw [hW1]; exact ((Turn.refl [] w).drew).alloc _
  have hgl : g < w.heap.size := (H.out.lt g rfl).2
  have hvl : vb < w.heap.size := (Array.getElem?_eq_some_iff.1 HB.out).1
  obtain ⟨W2, hW2⟩ : ∃ W2, W2 = W1.setRow w.heap.size (splice ROW.toList (i * 5) r.cells).toArray := ⟨_, rfl⟩
  have hcpA : ∀ ty dc, (Builtin.copy_ #[127, 127] ty #[.slice (some ⟨w.heap.size, i * 5, none⟩) (c + 1 - i) dc, .slice (some ⟨vb, 0, none⟩) 1 vc]).run Tryd.prog W1 = .ok (goInt 1) W2 := fun ty dc => by
    rw [hW2]
    refine run_copy5 W1 ty w.heap.size (i * 5) (c + 1 - i) dc ⟨vb, 0, none⟩ 1 vc 1 ROW.toList r.cells hblk (by simp only [Nat.min_def]; split <;> omega) rfl (fun j u hj => ?_) (by rw [hRs]; simp [Row.cells]; omega) r.cells_one
    have hc := HNw.out j u hj
    rw [Addr.add_lit, Nat.zero_add] at hc ⊢
    exact (hT1.cell (p := ⟨vb, j, none⟩) hvl (by simp)).trans hc
  have hT2 : Turn [] w W2 := by
    rw [hW2]
    exact hT1.trans (G := [w.heap.size]) ⟨rfl, rfl, rfl, by simp [World.setRow], fun k hk hn => setRow_other W1 w.heap.size k _ (by simpa using hn)⟩ (fun g hg => .inr (by simp at hg; omega))
  have hcur2 : (splice ROW.toList (i * 5) r.cells).length = G * 5 := by rw [length_splice _ _ _ (by rw [hRs]; simp [Row.cells]; omega), hRs]
  have hblk2 : W2.heap[w.heap.size]? = some (.cells (splice ROW.toList (i * 5) r.cells).toArray 135 (0, 0)) := by
    rw [hW2]
    exact setRow_heap W1 w.heap.size _ _ 135 _ hblk
  obtain ⟨W3, hW3⟩ : ∃ W3, W3 = W2.drew.setRow w.heap.size (splice (splice ROW.toList (i * 5) r.cells) ((i + 1) * 5) ((rs.drop i).flatMap Row.cells)).toArray := ⟨_, rfl⟩
  have hdl : ((rs.drop i).flatMap Row.cells).length = (c - i) * 5 := by rw [flat_length, List.length_drop]; have := HN.out; omega
  have hcpB : ∀ ty dc sc, (Builtin.copy_ #[127, 127] ty #[.slice (some ⟨w.heap.size, (i + 1) * 5, none⟩) (c - i) dc, .slice (some ⟨g, i * 5, none⟩) (c - i) sc]).run Tryd.prog W2.drew = .ok (goInt (c - i : Nat)) W3 := fun ty dc sc => by
    rw [hW3]
    refine run_copy5 W2.drew ty w.heap.size ((i + 1) * 5) (c - i) dc ⟨g, i * 5, none⟩ (c - i) sc (c - i) _ _ hblk2 (by simp only [Nat.min_def]; split <;> omega) hdl (fun j u hj => ?_) (by rw [hcur2, hdl]; omega) (flat_one _)
    rw [flat_drop, List.getElem?_drop] at hj
    rw [Addr.add_lit]
    have hj' : i * 5 + j < c * 5 := by
      have h1 := (List.getElem?_eq_some_iff.1 hj).1
      rw [flat_length] at h1
      have := HN.out
      omega
    have hh := H.out
    have e := HN.out
    have hcl : w.cell? ⟨g, i * 5 + j, none⟩ = some u := by
      subst e
      exact (World.ownsRow.cellAt (cap := rs.length) hh (i * 5 + j) hj').trans hj
    exact (hT2.cell (p := ⟨g, i * 5 + j, none⟩) hgl (by simp)).trans hcl
  have HW3 := Lib.hid hW3
  have HT2 := Lib.hid hT2
  have Hcur2 := Lib.hid hcur2
  have Hblk2 := Lib.hid hblk2
  have Hdl := Lib.hid hdl
  clear hW3 hT2 hcur2 hblk2 hdl
  have HG := Lib.hid hG
  have HROW := Lib.hid hROW
  have HW1 := Lib.hid hW1
  have HW2 := Lib.hid hW2
  have HRt := Lib.hid hRt
  have HRs := Lib.hid hRs
  have Hblk := Lib.hid hblk
  have HT1 := Lib.hid hT1
  have Hrz := Lib.hid hrz
  have HcpA := Lib.hid hcpA
  have hGi : ¬ (G = i) := by omega
  have hGi1 : ¬ (G = i + 1) := by omega
  have hz2' : decide ((c : Int) < (c : Int) + 1) = true := by simp; omega
  clear hG hROW hW1 hW2 hRt hRs hblk hT1 hrz hfl hold
  go_enter Tryd.func83, Tryd.ntmps83
  go_wp2_with (first
    | (at_builtin; go_loud (refine Lib.wpList_append_run _ rfl (.tmp 34) (.tmp 39) 127 3 rfl _ _ rfl rfl _ _ (Hrz.out _) ?_)))
  have hw1 : IntKind.i64.wrap ((i : Int) + 1) = (i : Int) + 1 := by rw [IntKind.wrap_i64]; omega
  have hb1 : (0 : Int) ≤ (i : Int) + 1 := by omega
  have htn : ((i : Int) + 1).toNat = i + 1 := by omega
  have hb3 : (i : Int) ≤ (c : Int) := by omega
  have hb4 : (i : Int) + 1 ≤ (c : Int) + 1 := by omega
  go_region
  go_wp2
  go_ret
  have hW3 := HW3.out
  have hb := setRow_heap W2.drew w.heap.size _ (splice (splice ROW.toList (i * 5) r.cells) ((i + 1) * 5) ((rs.drop i).flatMap Row.cells)).toArray 135 _ Hblk2.out
  rw [← hW3] at hb
  have hT3 : Turn [] w W3 := by
    rw [hW3]
    exact (HT2.out.drew).trans (G := [w.heap.size]) ⟨rfl, rfl, rfl, by simp [World.setRow], fun k hk hn => setRow_other W2.drew w.heap.size k _ (by simpa using hn)⟩ (fun g hg => .inr (by simp at hg; omega))
  refine ⟨_, rfl, ?_, hT3.more (by simp), .inr ⟨w.heap.size, rfl, Nat.le_refl _⟩⟩
  have hlen : (insR rs i r).length = c + 1 := by
    have := HN.out
    simp only [insR, List.length_append, List.length_take, List.length_cons, List.length_drop]
    omega
  unfold OwnR
  rw [hlen]
  refine ⟨by rw [flat_length, hlen], .inr ⟨w.heap.size, G, _, rfl, Nat.zero_le _, hb, hGc, ?_, ?_, ?_⟩⟩
  · unfold maxLen; omega
  · rw [List.size_toArray, length_splice _ _ _ (by rw [Hcur2.out, Hdl.out]; omega), Hcur2.out]
  · have e1 : (splice ROW.toList (i * 5) r.cells).take ((i + 1) * 5) = (rs.take i).flatMap Row.cells ++ r.cells := by
      unfold splice
      have h5 : ((rs.take i).flatMap Row.cells ++ r.cells).length = (i + 1) * 5 := by
        rw [List.length_append, flat_length, List.length_take]
        have := HN.out
        simp [Row.cells]
        omega
      rw [HRt.out, ← List.append_assoc, List.take_append_of_le_length (by omega), List.take_of_length_le (by omega)]
    rw [List.toList_toArray]
    have e2 : splice (splice ROW.toList (i * 5) r.cells) ((i + 1) * 5) ((rs.drop i).flatMap Row.cells) = (insR rs i r).flatMap Row.cells ++ (splice ROW.toList (i * 5) r.cells).drop ((i + 1) * 5 + ((rs.drop i).flatMap Row.cells).length) := by
      rw [splice, e1, insR, flat_append, List.flatMap_cons]
      simp only [List.append_assoc]
    rw [e2, List.take_append_of_le_length (by rw [flat_length, hlen]; omega), List.take_of_length_le (by rw [flat_length, hlen]; omega)]
end Go.Proofs.YtbocejiclellfaaDoor

/- Stage 1's text Ins3: what stage 8 wants of it (printed by conv1.py). -/
set_option linter.unusedSimpArgs false
set_option linter.unusedVariables false
set_option maxRecDepth 100000
namespace Go.Proofs.YtbocejiclellfaaDoor
open Go.RowKit Go.Lib

theorem turn_setRow {F : List Nat} {w0 w : World} {g : Nat} (h : Turn F w0 w) (hg : g ∈ F ∨ w0.heap.size ≤ g) (cs : Array Value) : Turn F w0 (w.setRow g cs) :=
  h.trans (G := [g]) ⟨rfl, rfl, rfl, by simp [World.setRow], fun k hk hn => setRow_other w g k _ (by simpa using hn)⟩ (fun g' hg' => by
    have : g' = g := by simpa using hg'
    subst this
    exact hg)
set_option maxHeartbeats 1000000 in
theorem insert_room (g n c i vb vc : Nat) (rs : List Row) (r : Row) (w : World) (h : OwnR w 0 (.slice (some ⟨g, 0, none⟩) n c) rs) (hn : n = rs.length) (hl : n ≤ 100000) (hi : i < n) (hroom : n + 1 ≤ c)
    (hb : w.heap[vb]? = some (.cells r.cells.toArray 135 (0, 0))) (hvg : vb ≠ g) :
    Calls Tryd.prog 83 #[.slice (some ⟨g, 0, none⟩) n c, .int .i64 i, .slice (some ⟨vb, 0, none⟩) 1 vc] w (InsPost (.slice (some ⟨g, 0, none⟩) n c) (insR rs i r) w) := by
  subst hn
  generalize hn : rs.length = n at *
  obtain ⟨cur, hg, hcm, hcs, htake⟩ : ∃ cur : Array Value, w.heap[g]? = some (.cells cur 135 (0, 0)) ∧ c ≤ maxLen ∧ cur.size = c * 5 ∧ cur.toList.take (n * 5) = rs.flatMap Row.cells := by
    have h' := h
    unfold OwnR at h'
    rw [hn] at h'
    rcases h'.2 with ⟨h1, _⟩ | ⟨g', cap', cur, h1, _, hg, _, hcm, hcs, ht⟩
    · cases h1
    · simp only [Value.slice.injEq, Option.some.injEq, Addr.mk.injEq, and_true, true_and] at h1
      obtain ⟨rfl, rfl⟩ := h1
      exact ⟨cur, hg, hcm, hcs, ht⟩
  have HB := Lib.hid hb
  have HN := Lib.hid hn
  have hnews := block_cells hb
  have hc63 : c ≤ 9223372036854775807 := by unfold maxLen at hcm; omega
  have hcl : cur.toList.length = c * 5 := by simpa using hcs
  have hg' : w.heap[g]? = some (.cells cur.toList.toArray 135 (0, 0)) := by simpa using hg
  have hov : ∀ lb cb, (callFunc 92 #[.slice (some ⟨vb, 0, none⟩) 1 vc, .slice (some ⟨g, (i + 1) * 5, none⟩) lb cb]).run Tryd.prog w = .ok (.value (.bool false)) w := fun lb cb => by
    rw [run_callFunc_extern Tryd.func92 (by kernel_rfl) (by kernel_rfl) (by kernel_rfl) (e := Extern.SlicesOverlaps.overlaps #[127, 127] #[4]) (by kernel_rfl),
      Lib.run_overlaps_apart w 127 4 135 Tryd.underlying127 5 Tryd.sizeOf135 ⟨vb, 0, none⟩ ⟨g, (i + 1) * 5, none⟩ 1 vc lb cb hvg 135 135 5 (c * 5) (by simp [World.shape?, hb, Row.cells]) (by simp [World.shape?, hg, hcs]) (by omega)
        (frozen_of_row w vb 0 _ 135 hb) (frozen_of_row w vb 5 _ 135 hb)]
    rfl
  have hdl : ((rs.drop i).flatMap Row.cells).length = (n - i) * 5 := by rw [flat_length, List.length_drop, hn]
  obtain ⟨W1, hW1⟩ : ∃ W1, W1 = w.drew.setRow g (splice cur.toList ((i + 1) * 5) ((rs.drop i).flatMap Row.cells)).toArray := ⟨_, rfl⟩
  have hcp1 : ∀ ty dc sc, (Builtin.copy_ #[127, 127] ty #[.slice (some ⟨g, (i + 1) * 5, none⟩) (n - i) dc, .slice (some ⟨g, i * 5, none⟩) (n + 1 - i) sc]).run Tryd.prog w.drew = .ok (goInt (n - i : Nat)) W1 := fun ty dc sc => by
    rw [hW1]
    refine run_copy5 w.drew ty g ((i + 1) * 5) (n - i) dc ⟨g, i * 5, none⟩ (n + 1 - i) sc (n - i) _ _ hg' (by simp only [Nat.min_def]; split <;> omega) hdl (fun j u hj => ?_) (by rw [hcl, hdl]; omega) (flat_one _)
    rw [flat_drop, List.getElem?_drop] at hj
    rw [Addr.add_lit]
    have hj' : i * 5 + j < n * 5 := by
      have h1 := (List.getElem?_eq_some_iff.1 hj).1
      rw [flat_length] at h1
      omega
    refine (cell_of_row w g (i * 5 + j) cur 135 (0, 0) hg).trans ?_
    rw [← htake, List.getElem?_take, if_pos hj'] at hj
    simpa using hj
  have hT1 : Turn [g] w W1 := by rw [hW1]; exact turn_setRow ((Turn.refl [g] w).drew) (.inl (by simp)) _
  have hblk1 : W1.heap[g]? = some (.cells (splice cur.toList ((i + 1) * 5) ((rs.drop i).flatMap Row.cells)).toArray 135 (0, 0)) := by
    rw [hW1]
    exact setRow_heap w.drew g _ _ 135 _ hg'
  have hcl1 : (splice cur.toList ((i + 1) * 5) ((rs.drop i).flatMap Row.cells)).length = c * 5 := by rw [length_splice _ _ _ (by rw [hcl, hdl]; omega), hcl]
  have hvl : vb < w.heap.size := (Array.getElem?_eq_some_iff.1 hb).1
  obtain ⟨W2, hW2⟩ : ∃ W2, W2 = W1.setRow g (splice (splice cur.toList ((i + 1) * 5) ((rs.drop i).flatMap Row.cells)) (i * 5) r.cells).toArray := ⟨_, rfl⟩
  have hcp2 : ∀ ty dc, (Builtin.copy_ #[127, 127] ty #[.slice (some ⟨g, i * 5, none⟩) (n + 1 - i) dc, .slice (some ⟨vb, 0, none⟩) 1 vc]).run Tryd.prog W1 = .ok (goInt 1) W2 := fun ty dc => by
    rw [hW2]
    refine run_copy5 W1 ty g (i * 5) (n + 1 - i) dc ⟨vb, 0, none⟩ 1 vc 1 _ r.cells hblk1 (by simp only [Nat.min_def]; split <;> omega) rfl (fun j u hj => ?_) (by rw [hcl1]; simp [Row.cells]; omega) r.cells_one
    have hc := hnews j u hj
    rw [Addr.add_lit, Nat.zero_add] at hc ⊢
    exact (hT1.cell (p := ⟨vb, j, none⟩) hvl (by simpa using hvg)).trans hc
  have hT2 : Turn [g] w W2 := by rw [hW2]; exact turn_setRow hT1 (.inl (by simp)) _
  have hblk2 : W2.heap[g]? = some (.cells (splice (splice cur.toList ((i + 1) * 5) ((rs.drop i).flatMap Row.cells)) (i * 5) r.cells).toArray 135 (0, 0)) := by
    rw [hW2]
    exact setRow_heap W1 g _ _ 135 _ hblk1
  have hcl2 : (splice (splice cur.toList ((i + 1) * 5) ((rs.drop i).flatMap Row.cells)) (i * 5) r.cells).length = c * 5 := by rw [length_splice _ _ _ (by rw [hcl1]; simp [Row.cells]; omega), hcl1]
  have hlen : (insR rs i r).length = n + 1 := by
    simp only [insR, List.length_append, List.length_take, List.length_cons, List.length_drop, hn]
    omega
  have hfin : OwnR W2 0 (.slice (some ⟨g, 0, none⟩) (n + 1) c) (insR rs i r) := by
    unfold OwnR
    rw [hlen]
    refine ⟨by rw [flat_length, hlen], .inr ⟨g, c, _, rfl, Nat.zero_le _, hblk2, hroom, hcm, by rw [List.size_toArray, hcl2], ?_⟩⟩
    have ht1 : (splice cur.toList ((i + 1) * 5) ((rs.drop i).flatMap Row.cells)).take (i * 5) = (rs.take i).flatMap Row.cells := by
      unfold splice
      rw [List.take_append_of_le_length (by rw [List.length_take, hcl]; omega), List.take_take, Nat.min_eq_left (by omega), flat_take, ← htake, List.take_take, Nat.min_eq_left (by omega)]
    have ht2 : (splice cur.toList ((i + 1) * 5) ((rs.drop i).flatMap Row.cells)).drop (i * 5 + r.cells.length) = (rs.drop i).flatMap Row.cells ++ cur.toList.drop ((i + 1) * 5 + ((rs.drop i).flatMap Row.cells).length) := by
      unfold splice
      have h5 : r.cells.length = 5 := rfl
      rw [h5, show i * 5 + 5 = (cur.toList.take ((i + 1) * 5)).length by rw [List.length_take, hcl]; omega, List.drop_left]
    rw [List.toList_toArray]
    have e2 : splice (splice cur.toList ((i + 1) * 5) ((rs.drop i).flatMap Row.cells)) (i * 5) r.cells = (insR rs i r).flatMap Row.cells ++ cur.toList.drop ((i + 1) * 5 + ((rs.drop i).flatMap Row.cells).length) := by
      rw [splice, ht1, ht2, insR, flat_append, List.flatMap_cons]
      simp only [List.append_assoc]
    rw [e2, List.take_append_of_le_length (by rw [flat_length, hlen]; omega), List.take_of_length_le (by rw [flat_length, hlen]; omega)]
  have HFin := Lib.hid hfin
  have HT2 := Lib.hid hT2
  have hz1' : ((i : Int) == (n : Int)) = false := by simp; omega
  have hci : ¬ (c = i) := by omega
  have hci1 : ¬ (c = i + 1) := by omega
  have hz2' : decide ((c : Int) < (n : Int) + 1) = false := by simp; omega
  have hw1 : IntKind.i64.wrap ((i : Int) + 1) = (i : Int) + 1 := by rw [IntKind.wrap_i64]; omega
  have hb1 : (0 : Int) ≤ (i : Int) + 1 := by omega
  have htn : ((i : Int) + 1).toNat = i + 1 := by omega
  have hb3 : (i : Int) ≤ (n : Int) + 1 := by omega
  have hb4 : (i : Int) + 1 ≤ (n : Int) + 1 := by omega
  clear h hg hcm hcs htake hb hn hnews hcl hg' hdl hW1 hT1 hblk1 hcl1 hW2 hT2 hblk2 hcl2 hlen hfin
  go_enter Tryd.func83, Tryd.ntmps83
  go_wp2_with (simp only [hov])
  go_region
  go_wp2
  go_ret
  exact ⟨_, rfl, HFin.out, HT2.out, .inl rfl⟩
theorem insert_any (v : Value) (rs : List Row) (i : Nat) (r : Row) (vb vc : Nat) (w : World) (h : OwnR w 0 v rs) (hl : rs.length ≤ 100000) (hi : i ≤ rs.length) (hb : w.heap[vb]? = some (.cells r.cells.toArray 135 (0, 0))) (hv : v.ownBlock ≠ some vb) :
    Calls Tryd.prog 83 #[v, .int .i64 i, .slice (some ⟨vb, 0, none⟩) 1 vc] w (InsPost v (insR rs i r) w) := by
  by_cases e : i = rs.length
  · subst e
    have := insert_end v rs r vb vc w h hl hb
    simpa [insR] using this
  · have h2 := h.2
    rcases h2 with ⟨_, h0⟩ | ⟨g, cap, cur, rfl, _, _, hnc, _⟩
    · omega
    · by_cases hroom : rs.length + 1 ≤ cap
      · exact insert_room g _ cap i vb vc rs r w h rfl hl (by omega) hroom hb (fun e => hv (by rw [e]; rfl))
      · exact insert_grow g _ cap i vb vc rs r w h rfl hl (by omega) hnc (by omega) hb
end Go.Proofs.YtbocejiclellfaaDoor

/- Stage 1's text Add: what stage 8 wants of it (printed by conv1.py). -/
set_option linter.unusedSimpArgs false
set_option linter.unusedVariables false
set_option maxRecDepth 100000
namespace Go.Proofs.YtbocejiclellfaaDoor
open Go.RowKit

def Row.setWord (r : Row) (i x : Nat) : Row := match i with
  | 0 => { r with w0 := x }
  | 1 => { r with w1 := x }
  | 2 => { r with w2 := x }
  | _ => { r with w3 := x }
theorem flat_set1 {rs : List Row} {k : Nat} {r : Row} (h : rs[k]? = some r) (i x : Nat) (hi : i < 4) : (rs.flatMap Row.cells).set (k * 5 + 1 + i) (.int .u64 x) = (rs.set k (r.setWord i x)).flatMap Row.cells := by
  induction rs generalizing k with
  | nil => simp at h
  | cons s t ih =>
    cases k with
    | zero =>
      simp at h
      subst h
      rw [List.set_cons_zero, flat_cons, flat_cons]
      match i, hi with
      | 0, _ => rfl
      | 1, _ => rfl
      | 2, _ => rfl
      | 3, _ => rfl
    | succ k =>
      rw [List.set_cons_succ, flat_cons, flat_cons, ← ih (by simpa using h), show (k + 1) * 5 + 1 + i = (k * 5 + 1 + i) + 5 by omega]
      simp only [List.set_cons_succ]
theorem OwnR.word {w : World} {B g n cap : Nat} {rs : List Row} (h : OwnR w B (.slice (some ⟨g, 0, none⟩) n cap) rs) (hn : n = rs.length) {k : Nat} {r : Row} (hr : rs[k]? = some r) (i : Nat) (hi : i < 4) : w.cell? ⟨g, k * 5 + 1 + i, none⟩ = some (.int .u64 (r.word i)) := by
  obtain ⟨c0, c1, c2, c3, c4⟩ := h.cells hn hr
  match i, hi with
  | 0, _ => exact c1
  | 1, _ => exact c2
  | 2, _ => exact c3
  | 3, _ => exact c4
set_option maxHeartbeats 400000 in
theorem add_out (b : Nat) (n : Int) (w : World) (h : okB n = false) : Calls Tryd.prog 75 #[.pointer (some ⟨b, 0, none⟩), .int .i64 n] w fun e w' => e = .returned (.bool false) ∧ w = w' := by
  have H := Lib.hid h
  clear h
  go_enter Tryd.func75, Tryd.ntmps75
  go_wp2_with (go_at_call 80; refine (mayHold_any n _).mono ?_; rw [H.out]; rintro e w' ⟨rfl, rfl⟩)
  go_ret
  exact ⟨rfl, rfl⟩
set_option maxHeartbeats 400000 in
theorem add_has (b : Nat) (v : Value) (rs : List Row) (n : Nat) (w : World) (h : SetAt w b v rs) (hn : n < 1048576) (hh : hasN rs n = true) : Calls Tryd.prog 75 #[.pointer (some ⟨b, 0, none⟩), .int .i64 n] w fun e w' => e = .returned (.bool false) ∧ Turn [] w w' := by
  have hok : okB n = true := by simp [okB]; omega
  have HOk := Lib.hid hok
  have H := Lib.hid h
  have HH := Lib.hid hh
  clear h hok hh
  go_enter Tryd.func75, Tryd.ntmps75
  go_wp2_with (first
    | (go_at_call 80; refine (mayHold_any n _).mono ?_; rw [HOk.out]; rintro e w' ⟨rfl, rfl⟩)
    | (go_at_call 81; refine (has_in _ v rs n _ (.inr ⟨b, rfl, H.out⟩) hn).mono ?_; rw [HH.out]; rintro e w' ⟨rfl, ht⟩))
  go_ret
  exact ⟨rfl, ht⟩
/-- What has turned when a bit was laid into the row of its place, which was there, and counted. -/
def AddPost (b : Nat) (v : Value) (rs : List Row) (t i x : Nat) (w : World) (e : Ending) (w' : World) : Prop :=
  e = .returned (.bool true) ∧ ∃ k r v', Cut rs t k ∧ rs[k]? = some r ∧ r.at_ = t ∧ w'.heap[b]? = some (.cells #[v', .int .i64 ((total rs : Int) + 1)] 129 (0, 0)) ∧
    OwnR w' 0 v' (rs.set k (r.setWord i (r.word i ||| x))) ∧ Turn (b :: v.ownBlock.toList) w w' ∧ v' = v
theorem find_div (p v : Value) (rs : List Row) (n : Nat) (hn : n < 1048576) (W : World) (h : SetV W p v rs) : Calls Tryd.prog 82 #[p, .int .i64 ((n : Int) / 256)] W (FoundPost rs (n / 256) W) := by
  have := find_any p v rs (n / 256) W h (by omega)
  rwa [show (((n / 256 : Nat)) : Int) = (n : Int) / 256 by omega] at this
theorem word_lt {r : Row} (h : r.Fits) (i : Nat) : r.word i < 18446744073709551616 := by
  unfold Row.word
  split
  · exact h.b0
  · exact h.b1
  · exact h.b2
  · exact h.b3
/-- A bit laid into row k, and counted: what lies there then. -/
theorem add_tail (b g m c k i y : Nat) (tt : Int) (rs : List Row) (r : Row) (W : World) (hblk : W.heap[b]? = some (.cells #[.slice (some ⟨g, 0, none⟩) m c, .int .i64 tt] 129 (0, 0))) (hrow : OwnR W 0 (.slice (some ⟨g, 0, none⟩) m c) rs) (hm : m = rs.length) (hr : rs[k]? = some r) (hi : i < 4) (hgb : g ≠ b) :
    (((W.setCell ⟨g, k * 5 + 1 + i, none⟩ (.int .u64 y)).setCell ⟨b, 1, none⟩ (.int .i64 (tt + 1))).heap[b]? = some (.cells #[.slice (some ⟨g, 0, none⟩) m c, .int .i64 (tt + 1)] 129 (0, 0))) ∧
    OwnR ((W.setCell ⟨g, k * 5 + 1 + i, none⟩ (.int .u64 y)).setCell ⟨b, 1, none⟩ (.int .i64 (tt + 1))) 0 (.slice (some ⟨g, 0, none⟩) m c) (rs.set k (r.setWord i y)) ∧
    Turn [b, g] W ((W.setCell ⟨g, k * 5 + 1 + i, none⟩ (.int .u64 y)).setCell ⟨b, 1, none⟩ (.int .i64 (tt + 1))) := by
  subst hm
  obtain ⟨s1, t1⟩ := World.ownsRow.stored (cap := c) hrow (k * 5 + 1 + i) (.int .u64 (y : Int))
  rw [flat_set1 hr i y hi] at s1
  have hb1 : (W.setCell ⟨g, k * 5 + 1 + i, none⟩ (.int .u64 y)).heap[b]? = some (.cells #[.slice (some ⟨g, 0, none⟩) rs.length c, .int .i64 tt] 129 (0, 0)) :=
    (Below.heap_setCell W ⟨g, k * 5 + 1 + i, none⟩ _ b (fun e => hgb e.symm)).trans hblk
  refine ⟨heap_setCell_same _ b 1 _ 129 _ hb1, ?_, ?_⟩
  · have : OwnR (W.setCell ⟨g, k * 5 + 1 + i, none⟩ (.int .u64 y)) 0 (.slice (some ⟨g, 0, none⟩) rs.length c) (rs.set k (r.setWord i y)) := by
      unfold OwnR
      rw [List.length_set]
      exact s1
    exact this.turn ((Turn.refl [b] _).setCell (.inl (by simp)) _) (fun g' hg' => by
      simp [Value.ownBlock] at hg'
      subst hg'
      simpa using hgb)
  · exact ((Turn.refl [b, g] W).setCell (.inl (by simp)) _).setCell (.inl (by simp)) _
def BitAt (n i x : Nat) : Prop := ∀ W : World, Calls Tryd.prog 84 #[.int .i64 n] W fun e w' => e = .returned (.tuple #[.int .i64 i, .int .u64 x]) ∧ ∃ q, w' = W.drewN q
set_option maxHeartbeats 2000000 in
theorem add_found (b g m c : Nat) (rs : List Row) (n i x : Nat) (w : World) (h : SetAt w b (.slice (some ⟨g, 0, none⟩) m c) rs) (hn : n < 1048576) (hh : hasN rs n = false) (hm : m = rs.length)
    (hr : hasRow rs (n / 256) = true) (hi : i < 4) (hx : x < 18446744073709551616) (hbit : BitAt n i x) :
    Calls Tryd.prog 75 #[.pointer (some ⟨b, 0, none⟩), .int .i64 n] w (AddPost b (.slice (some ⟨g, 0, none⟩) m c) rs (n / 256) i x w) := by
  have hok : okB n = true := by simp [okB]; omega
  have HOk := Lib.hid hok
  have H := Lib.hid h
  have HH := Lib.hid hh
  have HM := Lib.hid hm
  have HR := Lib.hid hr
  have hml : m ≤ 4096 := by have := h.ok.len; omega
  clear h hok hh hm hr
  go_enter Tryd.func75, Tryd.ntmps75
  go_wp2_with (first
    | (go_at_call 80; refine (mayHold_any n _).mono ?_; rw [HOk.out]; rintro e w' ⟨rfl, rfl⟩)
    | (go_at_call 81; refine (has_in _ _ rs n _ (.inr ⟨b, rfl, H.out⟩) hn).mono ?_; rw [HH.out]; rintro e w1 ⟨rfl, ht1⟩; have HT1 := Lib.hid ht1; clear ht1)
    | fail)
  go_wp2_with fail
  refine (find_div _ _ rs n hn _ (.inr ⟨b, rfl, H.out.turn' HT1.out⟩)).mono ?_
  rintro e w2 ⟨k, hk, rfl, ht2⟩
  have HT2 := Lib.hid (HT1.out.trans' ht2)
  have hhit : hit rs (n / 256) k = true := (hit_eq hk H.out.ok.asc).trans HR.out
  obtain ⟨r, hrk, hra⟩ := hit_true hhit
  have hrow : OwnR w2 0 (.slice (some ⟨g, 0, none⟩) m c) rs := H.out.rows.turn' HT2.out
  have hword := hrow.word HM.out hrk i hi
  have hfro := hrow.frozen HM.out (k * 5 + 1 + i)
  have hset := H.out.turn' HT2.out
  have hc0 : w2.cell? ⟨b, 0, none⟩ = some (.slice (some ⟨g, 0, none⟩) m c) := cell_of_row w2 b 0 _ 129 (0, 0) hset.blk
  have hc1 : w2.cell? ⟨b, 1, none⟩ = some (.int .i64 (total rs)) := cell_of_row w2 b 1 _ 129 (0, 0) hset.blk
  have hf1 : w2.frozen? ⟨b, 1, none⟩ = false := frozen_of_row w2 b 1 _ 129 hset.blk
  have hgb : g ≠ b := fun e => hset.ne (by rw [e]; rfl)
  have hkm : k < m := by have := (List.getElem?_eq_some_iff.1 hrk).1; have := HM.out; omega
  have htot := H.out.ok.total
  have hor : bits BinOp.or IntKind.u64 ((r.word i : Nat) : Int) (x : Int) = ((r.word i ||| x : Nat) : Int) := u64_or_nat _ _ (word_lt (H.out.ok.fits r (List.mem_of_getElem? hrk)) i) hx
  generalize hwv : r.word i = wv at *
  generalize hy : wv ||| x = y at *
  have HK := Lib.hid hk
  have HRk := Lib.hid hrk
  have HRa := Lib.hid hra
  have HRow := Lib.hid hrow
  have HSet := Lib.hid hset
  have HHit := Lib.hid hhit
  have HWv := Lib.hid hwv
  have HY := Lib.hid hy
  generalize htt : total rs = tt at *
  have HTt := Lib.hid htt
  have hbit' := hbit
  have HBit := Lib.hid hbit
  rw [hhit]
  clear hk hrk hra hrow hset hhit hwv hy ht2 htt hbit hbit'
  go_wp2_with (go_at_call 84; refine (HBit.out _).mono ?_; rintro e w' ⟨rfl, q, rfl⟩)
  have hki : (k : Int) < (m : Int) := by omega
  have hii : (i : Int) < 4 := by omega
  go_region
  go_wp2
  go_ret
  obtain ⟨e1, e2, e3⟩ := add_tail b g m c k i y tt rs r (w2.drewN (q + 1)) (by have := HSet.out.blk; rw [HTt.out] at this; exact this) HRow.out HM.out HRk.out hi hgb
  refine ⟨rfl, k, r, _, HK.out, HRk.out, HRa.out, by rw [HTt.out]; exact e1, by rw [HWv.out, HY.out]; exact e2, ?_, rfl⟩
  exact ((HT2.out.drewN _).more (G := [b, g]) (by simp)).trans e3 (by simp)
end Go.Proofs.YtbocejiclellfaaDoor

/- Stage 1's text Add2: what stage 8 wants of it (printed by conv1.py). -/
set_option linter.unusedSimpArgs false
set_option linter.unusedVariables false
set_option maxRecDepth 100000
namespace Go.Proofs.YtbocejiclellfaaDoor
open Go.RowKit

def newRow (t : Nat) : Row := ⟨t, 0, 0, 0, 0⟩
theorem insR_at (rs : List Row) (k : Nat) (r : Row) (h : k ≤ rs.length) : (insR rs k r)[k]? = some r := by
  unfold insR
  rw [List.getElem?_append_right (by rw [List.length_take]; omega), List.length_take, Nat.min_eq_left h]
  simp
theorem insR_length (rs : List Row) (k : Nat) (r : Row) (h : k ≤ rs.length) : (insR rs k r).length = rs.length + 1 := by
  simp only [insR, List.length_append, List.length_take, List.length_cons, List.length_drop]
  omega
theorem newRow_word (t i : Nat) : (newRow t).word i = 0 := by
  unfold newRow Row.word
  split <;> rfl
/-- What has turned when a new row was laid, its bit set, and counted. -/
def AddPost2 (b : Nat) (v : Value) (rs : List Row) (t i x : Nat) (w : World) (e : Ending) (w' : World) : Prop :=
  e = .returned (.bool true) ∧ ∃ k v', Cut rs t k ∧ w'.heap[b]? = some (.cells #[v', .int .i64 ((total rs : Int) + 1)] 129 (0, 0)) ∧
    OwnR w' 0 v' ((insR rs k (newRow t)).set k ((newRow t).setWord i x)) ∧ Turn (b :: v.ownBlock.toList) w w' ∧ (v'.ownBlock = v.ownBlock ∨ ∃ g, v'.ownBlock = some g ∧ w.heap.size ≤ g)
set_option maxHeartbeats 2000000 in
theorem add_new (b : Nat) (A : Option Addr) (m c : Nat) (rs : List Row) (n i x : Nat) (w : World) (h : SetAt w b (.slice A m c) rs) (hn : n < 1048576) (hh : hasN rs n = false) (hm : m = rs.length)
    (hr : hasRow rs (n / 256) = false) (hi : i < 4) (hx : x < 18446744073709551616) (hbit : BitAt n i x) :
    Calls Tryd.prog 75 #[.pointer (some ⟨b, 0, none⟩), .int .i64 n] w (AddPost2 b (.slice A m c) rs (n / 256) i x w) := by
  have hok : okB n = true := by simp [okB]; omega
  have HOk := Lib.hid hok
  have H := Lib.hid h
  have HH := Lib.hid hh
  have HM := Lib.hid hm
  have HR := Lib.hid hr
  have hml : m ≤ 4096 := by have := h.ok.len; omega
  clear h hok hh hm hr
  go_enter Tryd.func75, Tryd.ntmps75
  go_wp2_with (first
    | (go_at_call 80; refine (mayHold_any n _).mono ?_; rw [HOk.out]; rintro e w' ⟨rfl, rfl⟩)
    | (go_at_call 81; refine (has_in _ _ rs n _ (.inr ⟨b, rfl, H.out⟩) hn).mono ?_; rw [HH.out]; rintro e w1 ⟨rfl, ht1⟩; have HT1 := Lib.hid ht1; clear ht1)
    | fail)
  go_wp2_with fail
  refine (find_div _ _ rs n hn _ (.inr ⟨b, rfl, H.out.turn' HT1.out⟩)).mono ?_
  rintro e w2 ⟨k, hk, rfl, ht2⟩
  have HT2 := Lib.hid (HT1.out.trans' ht2)
  have hhit : hit rs (n / 256) k = false := (hit_eq hk H.out.ok.asc).trans HR.out
  have hset := H.out.turn' HT2.out
  have hc0 : w2.cell? ⟨b, 0, none⟩ = some (.slice A m c) := cell_of_row w2 b 0 _ 129 (0, 0) hset.blk
  have hkl := hk.le
  have HK := Lib.hid hk
  have HSet := Lib.hid hset
  have htot := H.out.ok.total
  rw [hhit]
  have HHit := Lib.hid hhit
  have HBit := Lib.hid hbit
  clear hk hset hhit ht2 hbit
  go_wp2_with fail
  refine (insert_any (.slice A m c) rs k (newRow (n / 256)) w2.heap.size 1 _ (HSet.out.rows.turn' ((Turn.refl _ _).alloc _)) (by have := HM.out; omega) hkl ?_ ?_).mono ?_
  · refine (heap_alloc_new w2 _).trans ?_
    simp [newRow, Row.cells]
  · intro e
    have := (HSet.out.rows.lt _ e).2
    omega
  rintro e w3 ⟨v3, rfl, hown3, ht3, hat3⟩
  obtain ⟨A3, c3, hv3, _, hc3⟩ := hown3.form
  have hl3 := insR_length rs k (newRow (n / 256)) hkl
  have hat := insR_at rs k (newRow (n / 256)) hkl
  obtain ⟨g3, hg3⟩ : ∃ g3, v3 = .slice (some ⟨g3, 0, none⟩) (m + 1) c3 := by
    rcases hown3.2 with ⟨_, h0⟩ | ⟨g, cap, cur, h1, _⟩
    · omega
    · have := HM.out
      rw [h1] at hv3
      injection hv3 with e1 e2 e3
      exact ⟨g, by rw [h1, e3, hl3, this]⟩
  have hT3 : Turn (Value.slice A m c).ownBlock.toList w w3 := (HT2.out.more (by simp)).trans (((Turn.refl (Value.slice A m c).ownBlock.toList w2).alloc _).trans ht3 (fun g hg => .inl hg)) (fun g hg => .inl hg)
  have hb3 : w3.heap[b]? = some (.cells #[.slice A m c, .int .i64 (total rs)] 129 (0, 0)) := by
    refine ht3.heap ?_ (fun hg => HSet.out.ne (by simpa using hg))
    exact (Below.heap_alloc w2 _ b HSet.out.lt).trans HSet.out.blk
  have hgb : g3 ≠ b := by
    rintro rfl
    rcases hown3.2 with ⟨_, h0⟩ | ⟨g, cap, cur, h1, _, hg, _⟩
    · omega
    · rw [hg3] at h1
      injection h1 with e1
      injection e1 with e1
      injection e1 with e1
      subst e1
      rw [hb3] at hg
      simp at hg
  subst hg3
  have d0 : w3.cell? ⟨b, 0, none⟩ = some (.slice A m c) := cell_of_row w3 b 0 _ 129 (0, 0) hb3
  have d1 : w3.cell? ⟨b, 1, none⟩ = some (.int .i64 (total rs)) := cell_of_row w3 b 1 _ 129 (0, 0) hb3
  have f0 : w3.frozen? ⟨b, 0, none⟩ = false := frozen_of_row w3 b 0 _ 129 hb3
  have f1 : w3.frozen? ⟨b, 1, none⟩ = false := frozen_of_row w3 b 1 _ 129 hb3
  have hlen3 : m + 1 = (insR rs k (newRow (n / 256))).length := by have := HM.out; omega
  have hword := hown3.word hlen3 hat i hi
  rw [newRow_word] at hword
  have hfro := hown3.frozen hlen3 (k * 5 + 1 + i)
  have hor : bits BinOp.or IntKind.u64 ((0 : Nat) : Int) (x : Int) = ((x : Nat) : Int) := by rw [u64_or_nat _ _ (by omega) hx]; simp
  have hor' : bits BinOp.or IntKind.u64 0 (x : Int) = ((x : Nat) : Int) := hor
  have HOwn3 := Lib.hid hown3
  have HT3 := Lib.hid hT3
  have HB3 := Lib.hid hb3
  have HAt := Lib.hid hat
  have HAt3 := Lib.hid hat3
  have HL3 := Lib.hid hlen3
  have hsz3 : w2.heap.size ≤ w3.heap.size := by have := ht3.size; simp at this; omega
  generalize htt : total rs = tt at *
  have HTt := Lib.hid htt
  have hkm : k < m + 1 := by have := HM.out; omega
  have hki : (k : Int) < (m : Int) + 1 := by omega
  have hii : (i : Int) < 4 := by omega
  clear hown3 hT3 hb3 hat hat3 hlen3 ht3 hl3 hv3 htt
  go_wp2_with (go_at_call 84; refine (HBit.out _).mono ?_; rintro e w' ⟨rfl, q, rfl⟩)
  go_region
  go_wp2
  go_ret
  have hbb : (((w3.setCell ⟨b, 0, none⟩ (.slice (some ⟨g3, 0, none⟩) (m + 1) c3)).drewN (q + 1))).heap[b]? = some (.cells #[.slice (some ⟨g3, 0, none⟩) (m + 1) c3, .int .i64 tt] 129 (0, 0)) := heap_setCell_same w3 b 0 _ 129 _ HB3.out
  have hoo : OwnR ((w3.setCell ⟨b, 0, none⟩ (.slice (some ⟨g3, 0, none⟩) (m + 1) c3)).drewN (q + 1)) 0 (.slice (some ⟨g3, 0, none⟩) (m + 1) c3) (insR rs k (newRow (n / 256))) :=
    HOwn3.out.turn (((Turn.refl [b] _).setCell (.inl (by simp)) _).drewN _) (fun g' hg' => by
      simp [Value.ownBlock] at hg'
      subst hg'
      simpa using hgb)
  obtain ⟨e1, e2, e3⟩ := add_tail b g3 (m + 1) c3 k i x tt (insR rs k (newRow (n / 256))) (newRow (n / 256)) _ hbb hoo HL3.out HAt.out hi hgb
  refine ⟨rfl, k, _, HK.out, by rw [HTt.out]; exact e1, e2, ?_, ?_⟩
  · refine Turn.trans (((HT3.out.more (G := b :: (Value.slice A m c).ownBlock.toList) (fun g hg => .inl (List.mem_cons_of_mem _ hg))).setCell (p := ⟨b, 0, none⟩) (.inl (by simp)) _).drewN _) e3 ?_
    intro g hg
    rcases List.mem_cons.1 hg with hg | hg
    · exact .inl (by simp [hg])
    · have : g = g3 := by simpa using hg
      subst this
      rcases HAt3.out with e | ⟨g', e, hge⟩
      · exact .inl (List.mem_cons_of_mem _ (by rw [← e]; simp [Value.ownBlock]))
      · simp [Value.ownBlock] at e
        subst e
        have := HT2.out.size
        simp at hge
        exact .inr (by omega)
  · rcases HAt3.out with e | ⟨g', e, hge⟩
    · exact .inl e
    · have := HT2.out.size
      simp at hge
      exact .inr ⟨g', e, by omega⟩
end Go.Proofs.YtbocejiclellfaaDoor

/- Stage 1's text Th: what stage 8 wants of it (printed by conv1.py). -/
set_option linter.unusedSimpArgs false
set_option linter.unusedVariables false
set_option maxRecDepth 100000
namespace Go.Proofs.YtbocejiclellfaaDoor
open Go.RowKit

/-- Rising, each once. -/
def Sd (l : List Int) : Prop := l.Pairwise (· < ·)
theorem sd_ext {l t : List Int} (hl : Sd l) (ht : Sd t) (h : ∀ x, x ∈ l ↔ x ∈ t) : l = t := by
  induction l generalizing t with
  | nil =>
    cases t with
    | nil => rfl
    | cons y t => exact absurd ((h y).2 (by simp)) (by simp)
  | cons x l ih =>
    cases t with
    | nil => exact absurd ((h x).1 (by simp)) (by simp)
    | cons y t =>
      have h1 := List.pairwise_cons.1 hl
      have h2 := List.pairwise_cons.1 ht
      have e : x = y := by
        rcases List.mem_cons.1 ((h x).1 (by simp)) with e | e
        · exact e
        · rcases List.mem_cons.1 ((h y).2 (by simp)) with e' | e'
          · exact e'.symm
          · have a := h2.1 x e
            have b := h1.1 y e'
            omega
      subst e
      congr 1
      refine ih h1.2 h2.2 (fun z => ?_)
      constructor
      · intro hz
        rcases List.mem_cons.1 ((h z).1 (by simp [hz])) with e | e
        · subst e
          have := h1.1 z hz
          omega
        · exact e
      · intro hz
        rcases List.mem_cons.1 ((h z).2 (by simp [hz])) with e | e
        · subst e
          have := h2.1 z hz
          omega
        · exact e
theorem hasB_iff (l : List Int) (x : Int) : hasB l x = true ↔ x ∈ l := by simp [hasB]
theorem mem_putL (l : List Int) (n x : Int) : x ∈ putL l n ↔ x ∈ l ∨ (x = n ∧ okB n = true) := by
  unfold putL
  have h := List.takeWhile_append_dropWhile (p := fun y => decide (y < n)) (l := l)
  split
  · rename_i hc
    simp only [Bool.and_eq_true] at hc
    rw [List.mem_append, List.mem_cons]
    constructor
    · rintro (h1 | h1 | h1)
      · exact .inl (by rw [← h]; exact List.mem_append_left _ h1)
      · exact .inr ⟨h1, hc.1⟩
      · exact .inl (by rw [← h]; exact List.mem_append_right _ h1)
    · rintro (h1 | ⟨h1, _⟩)
      · rw [← h] at h1
        rcases List.mem_append.1 h1 with h2 | h2
        · exact .inl h2
        · exact .inr (.inr h2)
      · exact .inr (.inl h1)
  · rename_i hc
    constructor
    · exact .inl
    · rintro (h1 | ⟨rfl, h2⟩)
      · exact h1
      · simp only [h2, Bool.true_and, Bool.not_eq_true', Bool.not_eq_false] at hc
        exact (hasB_iff l x).1 hc
theorem of_takeWhile {p : Int → Bool} {l : List Int} {y : Int} (h : y ∈ l.takeWhile p) : p y = true := by
  induction l with
  | nil => simp at h
  | cons x t ih =>
    rw [List.takeWhile_cons] at h
    split at h
    · rcases List.mem_cons.1 h with e | e
      · subst e; assumption
      · exact ih e
    · simp at h
theorem sd_putL {l : List Int} (hl : Sd l) (n : Int) : Sd (putL l n) := by
  unfold putL
  split
  · rename_i hc
    simp only [Bool.and_eq_true, Bool.not_eq_true'] at hc
    have hn : n ∉ l := fun hm => by
      have := (hasB_iff l n).2 hm
      rw [this] at hc
      simp at hc
    have h := List.takeWhile_append_dropWhile (p := fun y => decide (y < n)) (l := l)
    have hp : Sd (l.takeWhile (fun y => decide (y < n)) ++ l.dropWhile (fun y => decide (y < n))) := by rw [h]; exact hl
    obtain ⟨p1, p2, p3⟩ := List.pairwise_append.1 hp
    have hlo : ∀ y ∈ l.takeWhile (fun y => decide (y < n)), y < n := fun y hy => by simpa using of_takeWhile hy
    have hhi : ∀ y ∈ l.dropWhile (fun y => decide (y < n)), n < y := by
      intro y hy
      have hym : y ∈ l := by rw [← h]; exact List.mem_append_right _ hy
      cases hd : l.dropWhile (fun y => decide (y < n)) with
      | nil => rw [hd] at hy; simp at hy
      | cons z t =>
        have hz : ¬ z < n := by
          have := List.head_dropWhile_not (fun y => decide (y < n)) (by rw [hd]; simp)
          simp [hd] at this
          omega
        have hzm : z ∈ l := by rw [← h, hd]; simp
        have hzn : z ≠ n := fun e => hn (e ▸ hzm)
        rw [hd] at hy p2
        rcases List.mem_cons.1 hy with e | e
        · omega
        · have := (List.pairwise_cons.1 p2).1 y e
          omega
    refine List.pairwise_append.2 ⟨p1, List.pairwise_cons.2 ⟨hhi, p2⟩, fun a ha c hc => ?_⟩
    rcases List.mem_cons.1 hc with e | e
    · subst e; exact hlo a ha
    · have h1 := hlo a ha
      have h2 := hhi c e
      omega
  · exact hl
theorem length_putL {l : List Int} {n : Int} : (putL l n).length = l.length + if okB n && !hasB l n then 1 else 0 := by
  unfold putL
  split
  · have h := congrArg List.length (List.takeWhile_append_dropWhile (p := fun y => decide (y < n)) (l := l))
    simp only [List.length_append, List.length_cons] at h ⊢
    omega
  · rfl

/- rows -/
theorem rowOf_mem {rs : List Row} (ha : Asc rs) {r : Row} (hr : r ∈ rs) : rowOf rs r.at_ = r := by
  induction rs with
  | nil => simp at hr
  | cons s t ih =>
    have h1 := List.pairwise_cons.1 ha
    unfold rowOf
    rw [List.find?_cons]
    rcases List.mem_cons.1 hr with e | e
    · subst e; simp
    · have hlt := h1.1 r e
      have hb : (s.at_ == r.at_) = false := by simp; omega
      rw [hb]
      exact ih h1.2 e
theorem rowOf_no {rs : List Row} {t : Nat} (h : ∀ r ∈ rs, r.at_ ≠ t) : rowOf rs t = newRow t := by
  have : rs.find? (fun r => r.at_ == t) = none := by
    rw [List.find?_eq_none]
    intro r hr
    simpa using h r hr
  simp [rowOf, this, newRow]
theorem rowOf_congr {rs ss : List Row} (ha : Asc rs) (hs : Asc ss) {t : Nat} (h : ∀ r : Row, r.at_ = t → (r ∈ rs ↔ r ∈ ss)) : rowOf rs t = rowOf ss t := by
  by_cases hx : ∃ r ∈ rs, r.at_ = t
  · obtain ⟨r, hr, rfl⟩ := hx
    rw [rowOf_mem ha hr, rowOf_mem hs ((h r rfl).1 hr)]
  · have h1 : ∀ r ∈ rs, r.at_ ≠ t := fun r hr e => hx ⟨r, hr, e⟩
    have h2 : ∀ r ∈ ss, r.at_ ≠ t := fun r hr e => hx ⟨r, (h r e).2 hr, e⟩
    rw [rowOf_no h1, rowOf_no h2]
theorem Row.bit_new (t j : Nat) : (newRow t).bit j = false := by simp [Row.bit, newRow_word]
/-- A number is one of a row's just if the row's bit is set. -/
theorem mem_wordNums (b : Int) (x : Nat) (y : Int) : y ∈ wordNums b x ↔ ∃ j : Nat, j < 64 ∧ x.testBit j = true ∧ y = b + (j : Int) := by
  unfold wordNums
  rw [List.mem_map]
  constructor
  · rintro ⟨j, hj, rfl⟩
    obtain ⟨h1, h2⟩ := (mem_bitsL x j).1 hj
    exact ⟨j, h1, h2, rfl⟩
  · rintro ⟨j, h1, h2, rfl⟩
    exact ⟨j, (mem_bitsL x j).2 ⟨h1, h2⟩, rfl⟩
theorem mem_rowNums (r : Row) (y : Int) : y ∈ r.nums ↔ ∃ j : Nat, j < 256 ∧ r.bit j = true ∧ y = r.at_ * 256 + (j : Int) := by
  unfold Row.nums
  rw [List.mem_append, List.mem_append, List.mem_append, mem_wordNums, mem_wordNums, mem_wordNums, mem_wordNums]
  unfold Row.bit
  constructor
  · rintro (((⟨j, hj, hb, rfl⟩ | ⟨j, hj, hb, rfl⟩) | ⟨j, hj, hb, rfl⟩) | ⟨j, hj, hb, rfl⟩)
    · exact ⟨j, by omega, by rw [show j / 64 = 0 by omega, show j % 64 = j by omega]; exact hb, rfl⟩
    · exact ⟨64 + j, by omega, by rw [show (64 + j) / 64 = 1 by omega, show (64 + j) % 64 = j by omega]; exact hb, by omega⟩
    · exact ⟨128 + j, by omega, by rw [show (128 + j) / 64 = 2 by omega, show (128 + j) % 64 = j by omega]; exact hb, by omega⟩
    · exact ⟨192 + j, by omega, by rw [show (192 + j) / 64 = 3 by omega, show (192 + j) % 64 = j by omega]; exact hb, by omega⟩
  · rintro ⟨j, hj, hb, rfl⟩
    have hc : j / 64 = 0 ∨ j / 64 = 1 ∨ j / 64 = 2 ∨ j / 64 = 3 := by omega
    rcases hc with e | e | e | e <;> rw [e] at hb
    · exact .inl (.inl (.inl ⟨j % 64, by omega, hb, by omega⟩))
    · exact .inl (.inl (.inr ⟨j % 64, by omega, hb, by omega⟩))
    · exact .inl (.inr ⟨j % 64, by omega, hb, by omega⟩)
    · exact .inr ⟨j % 64, by omega, hb, by omega⟩
theorem mem_nums {rs : List Row} (h : Ok rs) (y : Int) : y ∈ nums rs ↔ ∃ m : Nat, m < 1048576 ∧ hasN rs m = true ∧ y = (m : Int) := by
  unfold nums
  rw [List.mem_flatMap]
  constructor
  · rintro ⟨r, hr, hy⟩
    obtain ⟨j, hj, hb, rfl⟩ := (mem_rowNums r y).1 hy
    have ha := (h.fits r hr).a
    refine ⟨r.at_ * 256 + j, by omega, ?_, by omega⟩
    unfold hasN
    rw [show (r.at_ * 256 + j) / 256 = r.at_ by omega, show (r.at_ * 256 + j) % 256 = j by omega, rowOf_mem h.asc hr]
    exact hb
  · rintro ⟨m, hm, hb, rfl⟩
    unfold hasN at hb
    by_cases hx : ∃ r ∈ rs, r.at_ = m / 256
    · obtain ⟨r, hr, he⟩ := hx
      rw [← he, rowOf_mem h.asc hr] at hb
      exact ⟨r, hr, (mem_rowNums r m).2 ⟨m % 256, by omega, hb, by omega⟩⟩
    · rw [rowOf_no (fun r hr e => hx ⟨r, hr, e⟩), Row.bit_new] at hb
      cases hb
theorem sd_wordNums (b : Int) (x : Nat) : Sd (wordNums b x) := by
  unfold wordNums Sd
  rw [List.pairwise_map]
  exact (bitsL_sorted x).imp (fun h => by omega)
theorem sd_rowNums (r : Row) : Sd r.nums := by
  have hw : ∀ (b : Int) (x : Nat) (y : Int), y ∈ wordNums b x → b ≤ y ∧ y < b + 64 := by
    intro b x y hy
    obtain ⟨j, hj, _, rfl⟩ := (mem_wordNums b x y).1 hy
    omega
  unfold Row.nums Sd
  refine List.pairwise_append.2 ⟨List.pairwise_append.2 ⟨List.pairwise_append.2 ⟨sd_wordNums _ _, sd_wordNums _ _, ?_⟩, sd_wordNums _ _, ?_⟩, sd_wordNums _ _, ?_⟩
  · intro a ha c hc
    have h1 := hw _ _ _ ha
    have h2 := hw _ _ _ hc
    omega
  · intro a ha c hc
    have h2 := hw _ _ _ hc
    rcases List.mem_append.1 ha with ha | ha <;> (have h1 := hw _ _ _ ha; omega)
  · intro a ha c hc
    have h2 := hw _ _ _ hc
    rcases List.mem_append.1 ha with ha | ha
    · rcases List.mem_append.1 ha with ha | ha <;> (have h1 := hw _ _ _ ha; omega)
    · have h1 := hw _ _ _ ha
      omega
theorem sd_nums {rs : List Row} (ha : Asc rs) : Sd (nums rs) := by
  induction rs with
  | nil => exact List.Pairwise.nil
  | cons r t ih =>
    have h1 := List.pairwise_cons.1 ha
    unfold nums Sd
    rw [List.flatMap_cons]
    refine List.pairwise_append.2 ⟨sd_rowNums r, ih h1.2, fun a hA c hc => ?_⟩
    obtain ⟨j, hj, _, rfl⟩ := (mem_rowNums r a).1 hA
    obtain ⟨s, hs, hc'⟩ := List.mem_flatMap.1 hc
    obtain ⟨i, hi, _, rfl⟩ := (mem_rowNums s c).1 hc'
    have := h1.1 s hs
    omega
end Go.Proofs.YtbocejiclellfaaDoor
