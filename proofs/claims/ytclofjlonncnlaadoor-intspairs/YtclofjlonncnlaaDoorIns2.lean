/- slices.Insert of one row, with rows behind it: a new array. -/
import Derived.Test.YtclofjlonncnlaaDoorIns
import Derived.Laws.CopyOwn
set_option linter.unusedSimpArgs false
set_option linter.unusedVariables false
namespace Go.Proofs.YtclofjlonncnlaaDoor
open Go.RowKit Go.Lib

/-- copy between slices of rows: the block behind it. -/
theorem run_copy5 (w : World) (ty : TypeId) (g o dLen dCap : Nat) (a : Addr) (sLen sCap k : Nat) (cur : List Value) (cs : List Value)
    (hg : w.heap[g]? = some (.cells cur.toArray 46 (0, 0))) (hk : k = Nat.min sLen dLen) (hn : cs.length = k * 5)
    (hsrc : ∀ j v, cs[j]? = some v → w.cell? (a.add j) = some v) (hfit : o + cs.length ≤ cur.length) (h1 : ∀ v ∈ cs, v.oneCell' = true) :
    (Builtin.copy_ #[37, 37] ty #[.slice (some ⟨g, o, none⟩) dLen dCap, .slice (some a) sLen sCap]).run Tryd.prog w = .ok (goInt k) (w.setRow g (splice cur o cs).toArray) := by
  have hl := run_loadCells_list (P := Tryd.prog) w a cs hsrc
  have hst := run_storeCells_at Tryd.prog g o 46 cs 0 cur.toArray w hg (by simpa using hfit) h1
  obtain ⟨i0, hi0, hz0, hz1, hz2⟩ := info_parts row_info
  simp [Builtin.copy_, run_underlying Tryd.underlying37, Builtin.lenOf, Builtin.firstCells, sizeOf, typeInfo, hi0, hz1, ← hk, ← hn, hl, hst, splice]

set_option maxHeartbeats 1000000 in
theorem insert_grow (g n c i vb vc : Nat) (rs : List Row) (r : Row) (w : World) (h : OwnR w 0 (.slice (some ⟨g, 0, none⟩) n c) rs) (hn : n = rs.length) (hl : n ≤ 100000) (hi : i < n) (hnc : n ≤ c) (hroom : c < n + 1)
    (hb : w.heap[vb]? = some (.cells r.cells.toArray 46 (0, 0))) :
    Calls Tryd.prog 26 #[.slice (some ⟨g, 0, none⟩) n c, .int .i64 i, .slice (some ⟨vb, 0, none⟩) 1 vc] w (InsPost (.slice (some ⟨g, 0, none⟩) n c) (insR rs i r) w) := by
  have hcn : c = n := by omega
  subst hcn
  have H := Lib.hid h
  have HB := Lib.hid hb
  have HN := Lib.hid hn
  obtain ⟨i0, hi0, hz0, hz1, hz2⟩ := info_parts row_info
  have hnews := block_cells hb
  have HNw := Lib.hid hnews
  clear h hb hnews hn hroom hnc
  have hz1' : ((i : Int) == (c : Int)) = false := by simp; omega
  have hci : ¬ (c = i) := by omega
  have hold : (Builtin.firstCells i0.size i (.slice (some ⟨g, 0, none⟩) i c)).run Tryd.prog w.drew = .ok ((rs.take i).flatMap Row.cells).toArray w.drew := by
    rw [hz1]
    refine run_firstCells_some w.drew 5 i ⟨g, 0, none⟩ i c _ (by rw [flat_length, List.length_take]; have := HN.out; omega) (fun j v hj => ?_)
    rw [Addr.add_lit, Nat.zero_add]
    rw [flat_take, List.getElem?_take] at hj
    split at hj
    · have hh := H.out
      have e := HN.out
      subst e
      exact (World.ownsRow.cellAt (cap := rs.length) hh j (by omega)).trans hj
    · cases hj
  obtain ⟨G, hG⟩ : ∃ G, G = grownCap w (c + 1) c 46 := ⟨_, rfl⟩
  obtain ⟨ROW, hROW⟩ : ∃ ROW : Array Value, ROW = ((rs.take i).flatMap Row.cells).toArray ++ Builtin.zeroCells (Value.agg #[.int .i64 0, .int .u64 0, .int .u64 0, .int .u64 0, .int .u64 0]).cells (c + 1 - i) ++ Builtin.zeroCells (Value.agg #[.int .i64 0, .int .u64 0, .int .u64 0, .int .u64 0, .int .u64 0]).cells (G - (c + 1)) := ⟨_, rfl⟩
  obtain ⟨W1, hW1⟩ : ∃ W1, W1 = w.drew.alloc (.cells ROW 46) := ⟨_, rfl⟩
  have hrz : ∀ ty, (Builtin.append_ #[37, 3] ty #[.slice (some ⟨g, 0, none⟩) i c, .int .i64 ((c : Int) + 1 - (i : Int))]).run Tryd.prog w = .ok (.slice (some ⟨w.heap.size, 0, none⟩) (c + 1) G) W1 := fun ty => by
    have h := Lib.run_append_grow_zeros w 37 3 ty 46 i0 _ .i64 .i64 Tryd.underlying37 Tryd.underlying3 hi0 hz0 (some ⟨g, 0, none⟩) i c _ hold (c + 1 - i) (by omega) (by omega) (by omega) (by omega) (by rw [hz2]; omega) (by rw [hz2, show i + (c + 1 - i) = c + 1 by omega]; exact growslice_fits (by omega) (by omega))
    rw [show i + (c + 1 - i) = c + 1 by omega] at h
    rw [show (c : Int) + 1 - (i : Int) = ((c + 1 - i : Nat) : Int) by omega, hW1, hROW, hG]
    exact h
  have hGc : c + 1 ≤ G := by rw [hG]; exact grownCap_ge w _ _ _
  have hGm : G ≤ 9223372036854775807 := by
    have := grownCap_le_maxLen w (c + 1) c 46 (by unfold maxLen; omega)
    rw [← hG] at this
    unfold maxLen at this
    omega
  have hfl : ((rs.take i).flatMap Row.cells).length = i * 5 := by rw [flat_length, List.length_take]; have := HN.out; omega
  have hRs : ROW.toList.length = G * 5 := by
    rw [hROW]
    simp only [Array.toList_append, List.length_append, hfl, Array.length_toList, size_zeroCells, Value.cells]
    simp
    omega
  have hRt : ROW.toList.take (i * 5) = (rs.take i).flatMap Row.cells := by
    rw [hROW]
    simp only [Array.toList_append, List.append_assoc]
    rw [List.take_append_of_le_length (by simp [hfl]), List.take_of_length_le (by simp [hfl])]
  have hblk : W1.heap[w.heap.size]? = some (.cells ROW.toList.toArray 46 (0, 0)) := by
    rw [hW1]
    exact heap_alloc_new w.drew _
  have hT1 : Turn [] w W1 := by rw [hW1]; exact ((Turn.refl [] w).drew).alloc _
  have hgl : g < w.heap.size := (H.out.lt g rfl).2
  have hvl : vb < w.heap.size := (Array.getElem?_eq_some_iff.1 HB.out).1
  obtain ⟨W2, hW2⟩ : ∃ W2, W2 = W1.setRow w.heap.size (splice ROW.toList (i * 5) r.cells).toArray := ⟨_, rfl⟩
  have hcpA : ∀ ty dc, (Builtin.copy_ #[37, 37] ty #[.slice (some ⟨w.heap.size, i * 5, none⟩) (c + 1 - i) dc, .slice (some ⟨vb, 0, none⟩) 1 vc]).run Tryd.prog W1 = .ok (goInt 1) W2 := fun ty dc => by
    rw [hW2]
    refine run_copy5 W1 ty w.heap.size (i * 5) (c + 1 - i) dc ⟨vb, 0, none⟩ 1 vc 1 ROW.toList r.cells hblk (by simp only [Nat.min_def]; split <;> omega) rfl (fun j u hj => ?_) (by rw [hRs]; simp [Row.cells]; omega) r.cells_one
    have hc := HNw.out j u hj
    rw [Addr.add_lit, Nat.zero_add] at hc ⊢
    exact (hT1.cell (p := ⟨vb, j, none⟩) hvl (by simp)).trans hc
  have hT2 : Turn [] w W2 := by
    rw [hW2]
    exact hT1.trans (G := [w.heap.size]) ⟨rfl, rfl, rfl, by simp [World.setRow], fun k hk hn => setRow_other W1 w.heap.size k _ (by simpa using hn)⟩ (fun g hg => .inr (by simp at hg; omega))
  have hcur2 : (splice ROW.toList (i * 5) r.cells).length = G * 5 := by rw [length_splice _ _ _ (by rw [hRs]; simp [Row.cells]; omega), hRs]
  have hblk2 : W2.heap[w.heap.size]? = some (.cells (splice ROW.toList (i * 5) r.cells).toArray 46 (0, 0)) := by
    rw [hW2]
    exact setRow_heap W1 w.heap.size _ _ 46 _ hblk
  obtain ⟨W3, hW3⟩ : ∃ W3, W3 = W2.drew.setRow w.heap.size (splice (splice ROW.toList (i * 5) r.cells) ((i + 1) * 5) ((rs.drop i).flatMap Row.cells)).toArray := ⟨_, rfl⟩
  have hdl : ((rs.drop i).flatMap Row.cells).length = (c - i) * 5 := by rw [flat_length, List.length_drop]; have := HN.out; omega
  have hcpB : ∀ ty dc sc, (Builtin.copy_ #[37, 37] ty #[.slice (some ⟨w.heap.size, (i + 1) * 5, none⟩) (c - i) dc, .slice (some ⟨g, i * 5, none⟩) (c - i) sc]).run Tryd.prog W2.drew = .ok (goInt (c - i : Nat)) W3 := fun ty dc sc => by
    rw [hW3]
    refine run_copy5 W2.drew ty w.heap.size ((i + 1) * 5) (c - i) dc ⟨g, i * 5, none⟩ (c - i) sc (c - i) _ _ hblk2 (by simp only [Nat.min_def]; split <;> omega) hdl (fun j u hj => ?_) (by rw [hcur2, hdl]; omega) (flat_one _)
    rw [flat_drop, List.getElem?_drop] at hj
    rw [Addr.add_lit]
    have hj' : i * 5 + j < c * 5 := by
      have h1 := (List.getElem?_eq_some_iff.1 hj).1
      rw [flat_length] at h1
      have := HN.out
      omega
    have hh := H.out
    have e := HN.out
    have hcl : w.cell? ⟨g, i * 5 + j, none⟩ = some u := by
      subst e
      exact (World.ownsRow.cellAt (cap := rs.length) hh (i * 5 + j) hj').trans hj
    exact (hT2.cell (p := ⟨g, i * 5 + j, none⟩) hgl (by simp)).trans hcl
  have HW3 := Lib.hid hW3
  have HT2 := Lib.hid hT2
  have Hcur2 := Lib.hid hcur2
  have Hblk2 := Lib.hid hblk2
  have Hdl := Lib.hid hdl
  clear hW3 hT2 hcur2 hblk2 hdl
  have HG := Lib.hid hG
  have HROW := Lib.hid hROW
  have HW1 := Lib.hid hW1
  have HW2 := Lib.hid hW2
  have HRt := Lib.hid hRt
  have HRs := Lib.hid hRs
  have Hblk := Lib.hid hblk
  have HT1 := Lib.hid hT1
  have Hrz := Lib.hid hrz
  have HcpA := Lib.hid hcpA
  have hGi : ¬ (G = i) := by omega
  have hGi1 : ¬ (G = i + 1) := by omega
  have hz2' : decide ((c : Int) < (c : Int) + 1) = true := by simp; omega
  clear hG hROW hW1 hW2 hRt hRs hblk hT1 hrz hfl hold
  go_enter Tryd.func26, Tryd.ntmps26
  go_wp2_with (first
    | (at_builtin; go_loud (refine Lib.wpList_append_run _ rfl (.tmp 34) (.tmp 39) 37 3 rfl _ _ rfl rfl _ _ (Hrz.out _) ?_)))
  have hw1 : IntKind.i64.wrap ((i : Int) + 1) = (i : Int) + 1 := by rw [IntKind.wrap_i64]; omega
  have hb1 : (0 : Int) ≤ (i : Int) + 1 := by omega
  have htn : ((i : Int) + 1).toNat = i + 1 := by omega
  have hb3 : (i : Int) ≤ (c : Int) := by omega
  have hb4 : (i : Int) + 1 ≤ (c : Int) + 1 := by omega
  go_region
  go_wp2
  go_ret
  have hW3 := HW3.out
  have hb := setRow_heap W2.drew w.heap.size _ (splice (splice ROW.toList (i * 5) r.cells) ((i + 1) * 5) ((rs.drop i).flatMap Row.cells)).toArray 46 _ Hblk2.out
  rw [← hW3] at hb
  have hT3 : Turn [] w W3 := by
    rw [hW3]
    exact (HT2.out.drew).trans (G := [w.heap.size]) ⟨rfl, rfl, rfl, by simp [World.setRow], fun k hk hn => setRow_other W2.drew w.heap.size k _ (by simpa using hn)⟩ (fun g hg => .inr (by simp at hg; omega))
  refine ⟨_, rfl, ?_, hT3.more (by simp), .inr ⟨w.heap.size, rfl, Nat.le_refl _⟩⟩
  have hlen : (insR rs i r).length = c + 1 := by
    have := HN.out
    simp only [insR, List.length_append, List.length_take, List.length_cons, List.length_drop]
    omega
  unfold OwnR
  rw [hlen]
  refine ⟨by rw [flat_length, hlen], .inr ⟨w.heap.size, G, _, rfl, Nat.zero_le _, hb, hGc, ?_, ?_, ?_⟩⟩
  · unfold maxLen; omega
  · rw [List.size_toArray, length_splice _ _ _ (by rw [Hcur2.out, Hdl.out]; omega), Hcur2.out]
  · have e1 : (splice ROW.toList (i * 5) r.cells).take ((i + 1) * 5) = (rs.take i).flatMap Row.cells ++ r.cells := by
      unfold splice
      have h5 : ((rs.take i).flatMap Row.cells ++ r.cells).length = (i + 1) * 5 := by
        rw [List.length_append, flat_length, List.length_take]
        have := HN.out
        simp [Row.cells]
        omega
      rw [HRt.out, ← List.append_assoc, List.take_append_of_le_length (by omega), List.take_of_length_le (by omega)]
    rw [List.toList_toArray]
    have e2 : splice (splice ROW.toList (i * 5) r.cells) ((i + 1) * 5) ((rs.drop i).flatMap Row.cells) = (insR rs i r).flatMap Row.cells ++ (splice ROW.toList (i * 5) r.cells).drop ((i + 1) * 5 + ((rs.drop i).flatMap Row.cells).length) := by
      rw [splice, e1, insR, flat_append, List.flatMap_cons]
      simp only [List.append_assoc]
    rw [e2, List.take_append_of_le_length (by rw [flat_length, hlen]; omega), List.take_of_length_le (by rw [flat_length, hlen]; omega)]
end Go.Proofs.YtclofjlonncnlaaDoor
