/- slices.Insert of one row, with rows behind it: in place. And all ways together. -/
import Derived.Test.YtclofjlonncnlaaDoorIns2
set_option linter.unusedSimpArgs false
set_option linter.unusedVariables false
namespace Go.Proofs.YtclofjlonncnlaaDoor
open Go.RowKit Go.Lib

theorem turn_setRow {F : List Nat} {w0 w : World} {g : Nat} (h : Turn F w0 w) (hg : g ∈ F ∨ w0.heap.size ≤ g) (cs : Array Value) : Turn F w0 (w.setRow g cs) :=
  h.trans (G := [g]) ⟨rfl, rfl, rfl, by simp [World.setRow], fun k hk hn => setRow_other w g k _ (by simpa using hn)⟩ (fun g' hg' => by
    have : g' = g := by simpa using hg'
    subst this
    exact hg)
set_option maxHeartbeats 1000000 in
theorem insert_room (g n c i vb vc : Nat) (rs : List Row) (r : Row) (w : World) (h : OwnR w 0 (.slice (some ⟨g, 0, none⟩) n c) rs) (hn : n = rs.length) (hl : n ≤ 100000) (hi : i < n) (hroom : n + 1 ≤ c)
    (hb : w.heap[vb]? = some (.cells r.cells.toArray 46 (0, 0))) (hvg : vb ≠ g) :
    Calls Tryd.prog 26 #[.slice (some ⟨g, 0, none⟩) n c, .int .i64 i, .slice (some ⟨vb, 0, none⟩) 1 vc] w (InsPost (.slice (some ⟨g, 0, none⟩) n c) (insR rs i r) w) := by
  subst hn
  generalize hn : rs.length = n at *
  obtain ⟨cur, hg, hcm, hcs, htake⟩ : ∃ cur : Array Value, w.heap[g]? = some (.cells cur 46 (0, 0)) ∧ c ≤ maxLen ∧ cur.size = c * 5 ∧ cur.toList.take (n * 5) = rs.flatMap Row.cells := by
    have h' := h
    unfold OwnR at h'
    rw [hn] at h'
    rcases h'.2 with ⟨h1, _⟩ | ⟨g', cap', cur, h1, _, hg, _, hcm, hcs, ht⟩
    · cases h1
    · simp only [Value.slice.injEq, Option.some.injEq, Addr.mk.injEq, and_true, true_and] at h1
      obtain ⟨rfl, rfl⟩ := h1
      exact ⟨cur, hg, hcm, hcs, ht⟩
  have HB := Lib.hid hb
  have HN := Lib.hid hn
  have hnews := block_cells hb
  have hc63 : c ≤ 9223372036854775807 := by unfold maxLen at hcm; omega
  have hcl : cur.toList.length = c * 5 := by simpa using hcs
  have hg' : w.heap[g]? = some (.cells cur.toList.toArray 46 (0, 0)) := by simpa using hg
  have hov : ∀ lb cb, (callFunc 38 #[.slice (some ⟨vb, 0, none⟩) 1 vc, .slice (some ⟨g, (i + 1) * 5, none⟩) lb cb]).run Tryd.prog w = .ok (.value (.bool false)) w := fun lb cb => by
    rw [run_callFunc_extern Tryd.func38 (by kernel_rfl) (by kernel_rfl) (by kernel_rfl) (e := Extern.SlicesOverlaps.overlaps #[37, 37] #[4]) (by kernel_rfl),
      Lib.run_overlaps_apart w 37 4 46 Tryd.underlying37 5 Tryd.sizeOf46 ⟨vb, 0, none⟩ ⟨g, (i + 1) * 5, none⟩ 1 vc lb cb hvg 46 46 5 (c * 5) (by simp [World.shape?, hb, Row.cells]) (by simp [World.shape?, hg, hcs]) (by omega)
        (frozen_of_row w vb 0 _ 46 hb) (frozen_of_row w vb 5 _ 46 hb)]
    rfl
  have hdl : ((rs.drop i).flatMap Row.cells).length = (n - i) * 5 := by rw [flat_length, List.length_drop, hn]
  obtain ⟨W1, hW1⟩ : ∃ W1, W1 = w.drew.setRow g (splice cur.toList ((i + 1) * 5) ((rs.drop i).flatMap Row.cells)).toArray := ⟨_, rfl⟩
  have hcp1 : ∀ ty dc sc, (Builtin.copy_ #[37, 37] ty #[.slice (some ⟨g, (i + 1) * 5, none⟩) (n - i) dc, .slice (some ⟨g, i * 5, none⟩) (n + 1 - i) sc]).run Tryd.prog w.drew = .ok (goInt (n - i : Nat)) W1 := fun ty dc sc => by
    rw [hW1]
    refine run_copy5 w.drew ty g ((i + 1) * 5) (n - i) dc ⟨g, i * 5, none⟩ (n + 1 - i) sc (n - i) _ _ hg' (by simp only [Nat.min_def]; split <;> omega) hdl (fun j u hj => ?_) (by rw [hcl, hdl]; omega) (flat_one _)
    rw [flat_drop, List.getElem?_drop] at hj
    rw [Addr.add_lit]
    have hj' : i * 5 + j < n * 5 := by
      have h1 := (List.getElem?_eq_some_iff.1 hj).1
      rw [flat_length] at h1
      omega
    refine (cell_of_row w g (i * 5 + j) cur 46 (0, 0) hg).trans ?_
    rw [← htake, List.getElem?_take, if_pos hj'] at hj
    simpa using hj
  have hT1 : Turn [g] w W1 := by rw [hW1]; exact turn_setRow ((Turn.refl [g] w).drew) (.inl (by simp)) _
  have hblk1 : W1.heap[g]? = some (.cells (splice cur.toList ((i + 1) * 5) ((rs.drop i).flatMap Row.cells)).toArray 46 (0, 0)) := by
    rw [hW1]
    exact setRow_heap w.drew g _ _ 46 _ hg'
  have hcl1 : (splice cur.toList ((i + 1) * 5) ((rs.drop i).flatMap Row.cells)).length = c * 5 := by rw [length_splice _ _ _ (by rw [hcl, hdl]; omega), hcl]
  have hvl : vb < w.heap.size := (Array.getElem?_eq_some_iff.1 hb).1
  obtain ⟨W2, hW2⟩ : ∃ W2, W2 = W1.setRow g (splice (splice cur.toList ((i + 1) * 5) ((rs.drop i).flatMap Row.cells)) (i * 5) r.cells).toArray := ⟨_, rfl⟩
  have hcp2 : ∀ ty dc, (Builtin.copy_ #[37, 37] ty #[.slice (some ⟨g, i * 5, none⟩) (n + 1 - i) dc, .slice (some ⟨vb, 0, none⟩) 1 vc]).run Tryd.prog W1 = .ok (goInt 1) W2 := fun ty dc => by
    rw [hW2]
    refine run_copy5 W1 ty g (i * 5) (n + 1 - i) dc ⟨vb, 0, none⟩ 1 vc 1 _ r.cells hblk1 (by simp only [Nat.min_def]; split <;> omega) rfl (fun j u hj => ?_) (by rw [hcl1]; simp [Row.cells]; omega) r.cells_one
    have hc := hnews j u hj
    rw [Addr.add_lit, Nat.zero_add] at hc ⊢
    exact (hT1.cell (p := ⟨vb, j, none⟩) hvl (by simpa using hvg)).trans hc
  have hT2 : Turn [g] w W2 := by rw [hW2]; exact turn_setRow hT1 (.inl (by simp)) _
  have hblk2 : W2.heap[g]? = some (.cells (splice (splice cur.toList ((i + 1) * 5) ((rs.drop i).flatMap Row.cells)) (i * 5) r.cells).toArray 46 (0, 0)) := by
    rw [hW2]
    exact setRow_heap W1 g _ _ 46 _ hblk1
  have hcl2 : (splice (splice cur.toList ((i + 1) * 5) ((rs.drop i).flatMap Row.cells)) (i * 5) r.cells).length = c * 5 := by rw [length_splice _ _ _ (by rw [hcl1]; simp [Row.cells]; omega), hcl1]
  have hlen : (insR rs i r).length = n + 1 := by
    simp only [insR, List.length_append, List.length_take, List.length_cons, List.length_drop, hn]
    omega
  have hfin : OwnR W2 0 (.slice (some ⟨g, 0, none⟩) (n + 1) c) (insR rs i r) := by
    unfold OwnR
    rw [hlen]
    refine ⟨by rw [flat_length, hlen], .inr ⟨g, c, _, rfl, Nat.zero_le _, hblk2, hroom, hcm, by rw [List.size_toArray, hcl2], ?_⟩⟩
    have ht1 : (splice cur.toList ((i + 1) * 5) ((rs.drop i).flatMap Row.cells)).take (i * 5) = (rs.take i).flatMap Row.cells := by
      unfold splice
      rw [List.take_append_of_le_length (by rw [List.length_take, hcl]; omega), List.take_take, Nat.min_eq_left (by omega), flat_take, ← htake, List.take_take, Nat.min_eq_left (by omega)]
    have ht2 : (splice cur.toList ((i + 1) * 5) ((rs.drop i).flatMap Row.cells)).drop (i * 5 + r.cells.length) = (rs.drop i).flatMap Row.cells ++ cur.toList.drop ((i + 1) * 5 + ((rs.drop i).flatMap Row.cells).length) := by
      unfold splice
      have h5 : r.cells.length = 5 := rfl
      rw [h5, show i * 5 + 5 = (cur.toList.take ((i + 1) * 5)).length by rw [List.length_take, hcl]; omega, List.drop_left]
    rw [List.toList_toArray]
    have e2 : splice (splice cur.toList ((i + 1) * 5) ((rs.drop i).flatMap Row.cells)) (i * 5) r.cells = (insR rs i r).flatMap Row.cells ++ cur.toList.drop ((i + 1) * 5 + ((rs.drop i).flatMap Row.cells).length) := by
      rw [splice, ht1, ht2, insR, flat_append, List.flatMap_cons]
      simp only [List.append_assoc]
    rw [e2, List.take_append_of_le_length (by rw [flat_length, hlen]; omega), List.take_of_length_le (by rw [flat_length, hlen]; omega)]
  have HFin := Lib.hid hfin
  have HT2 := Lib.hid hT2
  have hz1' : ((i : Int) == (n : Int)) = false := by simp; omega
  have hci : ¬ (c = i) := by omega
  have hci1 : ¬ (c = i + 1) := by omega
  have hz2' : decide ((c : Int) < (n : Int) + 1) = false := by simp; omega
  have hw1 : IntKind.i64.wrap ((i : Int) + 1) = (i : Int) + 1 := by rw [IntKind.wrap_i64]; omega
  have hb1 : (0 : Int) ≤ (i : Int) + 1 := by omega
  have htn : ((i : Int) + 1).toNat = i + 1 := by omega
  have hb3 : (i : Int) ≤ (n : Int) + 1 := by omega
  have hb4 : (i : Int) + 1 ≤ (n : Int) + 1 := by omega
  clear h hg hcm hcs htake hb hn hnews hcl hg' hdl hW1 hT1 hblk1 hcl1 hW2 hT2 hblk2 hcl2 hlen hfin
  go_enter Tryd.func26, Tryd.ntmps26
  go_wp2_with (simp only [hov])
  go_region
  go_wp2
  go_ret
  exact ⟨_, rfl, HFin.out, HT2.out, .inl rfl⟩
theorem insert_any (v : Value) (rs : List Row) (i : Nat) (r : Row) (vb vc : Nat) (w : World) (h : OwnR w 0 v rs) (hl : rs.length ≤ 100000) (hi : i ≤ rs.length) (hb : w.heap[vb]? = some (.cells r.cells.toArray 46 (0, 0))) (hv : v.ownBlock ≠ some vb) :
    Calls Tryd.prog 26 #[v, .int .i64 i, .slice (some ⟨vb, 0, none⟩) 1 vc] w (InsPost v (insR rs i r) w) := by
  by_cases e : i = rs.length
  · subst e
    have := insert_end v rs r vb vc w h hl hb
    simpa [insR] using this
  · have h2 := h.2
    rcases h2 with ⟨_, h0⟩ | ⟨g, cap, cur, rfl, _, _, hnc, _⟩
    · omega
    · by_cases hroom : rs.length + 1 ≤ cap
      · exact insert_room g _ cap i vb vc rs r w h rfl hl (by omega) hroom hb (fun e => hv (by rw [e]; rfl))
      · exact insert_grow g _ cap i vb vc rs r w h rfl hl (by omega) hnc (by omega) hb
end Go.Proofs.YtclofjlonncnlaaDoor
