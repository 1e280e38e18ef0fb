/- The reference's Line: what is further in is taken off again. -/
import Derived.Test.YtoekaehpcjhhaaaDoorSmb
set_option linter.unusedSimpArgs false
set_option linter.unusedVariables false
namespace Go.Proofs.YtoekaehpcjhhaaaDoor
open Go.RowKit

/-- A cell of a slice of the program's own is written. -/
theorem owns_set {w : World} {e size m n c : Nat} {A : Option Addr} {xs : List Value} (h : w.ownsRow 0 e size (.slice A n c) m xs) {j : Nat} {u0 : Value} (hj : xs[j]? = some u0) :
    ∃ g, A = some ⟨g, 0, none⟩ ∧ g < w.heap.size ∧ w.cell? ⟨g, j, none⟩ = some u0 ∧ w.frozen? ⟨g, j, none⟩ = false ∧
      ∀ u, (w.setCell ⟨g, j, none⟩ u).ownsRow 0 e size (.slice A n c) m (xs.set j u) ∧ Turn [g] w (w.setCell ⟨g, j, none⟩ u) := by
  have hjl := (List.getElem?_eq_some_iff.1 hj).1
  have hlen := h.1
  rcases h.2 with ⟨hv, rfl⟩ | ⟨g, cap, cur, hv, hb, hg, hnc, hcm, hcs, ht⟩
  · rw [hlen] at hjl; simp at hjl
  · injection hv with h1 h2 h3
    subst h1 h2 h3
    have hc0 : w.cell? ⟨g, j, none⟩ = some u0 := by
      rw [World.ownsRow.cellAt h j (by omega)]
      exact hj
    refine ⟨g, rfl, (Array.getElem?_eq_some_iff.1 hg).1, hc0, frozen_of_row w g j _ _ hg, fun u => ⟨⟨by rw [List.length_set]; exact hlen, .inr ⟨g, c, cur.setIfInBounds j u, rfl, hb, ?_, hnc, hcm, by rw [Array.size_setIfInBounds]; exact hcs, ?_⟩⟩, (Turn.refl [g] w).setCell (.inl (by simp)) _⟩⟩
    · simp only [World.setCell, Array.getElem?_modify, hg]
      rfl
    · rw [Array.toList_setIfInBounds, List.take_set, ht]

theorem OwnS.put {w : World} {n c : Nat} {A : Option Addr} {L : List ByteArray} (h : OwnS w (.slice A n c) L) {j : Nat} {x : ByteArray} (hj : L[j]? = some x) :
    ∃ g, A = some ⟨g, 0, none⟩ ∧ g < w.heap.size ∧ w.cell? ⟨g, j, none⟩ = some (.string x) ∧ w.frozen? ⟨g, j, none⟩ = false ∧
      ∀ y, OwnS (w.setCell ⟨g, j, none⟩ (.string y)) (.slice A n c) (L.set j y) ∧ Turn [g] w (w.setCell ⟨g, j, none⟩ (.string y)) := by
  obtain ⟨g, rfl, hg, hc, hf, hs⟩ := owns_set h (j := j) (u0 := .string x) (by simp [hj])
  refine ⟨g, rfl, hg, hc, hf, fun y => ⟨?_, (hs (.string y)).2⟩⟩
  have := (hs (.string y)).1
  rw [← List.map_set] at this
  unfold OwnS
  rw [List.length_set]
  exact this

theorem ext2 (s : ByteArray) (h : 2 < s.size) : bs (s.extract 0 2) = (bs s).take 2 := by unfold bs; exact Lib.extract_from_zero s 2
theorem ln_succ (j : Nat) (X : ByteArray) : bs (ln (j + 1, X)) = 32 :: 32 :: bs (ln (j, X)) := by
  unfold ln
  rw [bs_mk, bs_mk, show 2 * ((j + 1, X) : Row).1 = 2 * j + 1 + 1 by simp; omega, List.replicate_succ, List.replicate_succ]
  rfl
theorem Gd.two {X : ByteArray} (h : Gd X) (h2 : 2 < X.size) : bs (X.extract 0 2) ≠ [32, 32] := by
  rw [ext2 X h2]
  obtain ⟨⟨a, r, e, hr⟩, _⟩ := h
  rw [e]
  intro h'
  cases r with
  | nil => simp at h'
  | cons b r =>
    simp at h'
    obtain ⟨c, r', e2, hc⟩ := hr h'.1
    injection e2 with e3 _
    exact hc (by rw [← e3]; exact h'.2)
theorem Gd.pos {X : ByteArray} (h : Gd X) : 0 < X.size := by
  obtain ⟨⟨a, r, e, hr⟩, _⟩ := h
  rw [size_bs, e]
  simp
theorem ln_size (j : Nat) (X : ByteArray) : (ln (j, X)).size = 2 * j + X.size := by
  unfold ln
  rw [size_bs, bs_mk, List.length_append, List.length_replicate, ← size_bs]
theorem ln_cut (j : Nat) (X : ByteArray) : (ln (j + 1, X)).extract 2 (ln (j + 1, X)).size = ln (j, X) := by
  apply bs_inj
  have : bs ((ln (j + 1, X)).extract 2 (ln (j + 1, X)).size) = (bs (ln (j + 1, X))).drop 2 := by unfold bs; exact Lib.extract_to_end _ _
  rw [this, ln_succ]
  rfl
theorem ln_head (j : Nat) (X : ByteArray) (h : 0 < X.size) : ((ln (j + 1, X)).extract 0 2) = ⟨#[32, 32]⟩ := by
  apply bs_inj
  rw [ext2 _ (by rw [ln_size]; omega), ln_succ]
  rfl

/-- How long a text lies there. -/
def lenAt (w : World) (g k : Nat) : Nat := match w.cell? ⟨g, k, none⟩ with
  | some (.string s) => s.size
  | _ => 0
theorem lenAt_of {w : World} {g k : Nat} {s : ByteArray} (h : w.cell? ⟨g, k, none⟩ = some (.string s)) : lenAt w g k = s.size := by unfold lenAt; rw [h]

/-- The list while the k-th row is j further in. -/
def mid (R : List Row) (k j : Nat) (X : ByteArray) : List ByteArray := (R.take k).map (·.2) ++ ln (j, X) :: (R.drop (k + 1)).map ln
theorem mid_at (R : List Row) (k j : Nat) (X : ByteArray) (hk : k < R.length) : (mid R k j X)[k]? = some (ln (j, X)) := by
  unfold mid
  rw [List.getElem?_append_right (by simp; omega)]
  simp [Nat.min_eq_left (Nat.le_of_lt hk)]
theorem mid_set (R : List Row) (k j i : Nat) (X : ByteArray) (hk : k < R.length) : (mid R k j X).set k (ln (i, X)) = mid R k i X := by
  unfold mid
  rw [List.set_append_right _ _ (by simp; omega)]
  simp [Nat.min_eq_left (Nat.le_of_lt hk)]
theorem mid_start {R : List Row} {k j : Nat} {X : ByteArray} (h : R[k]? = some (j, X)) : (R.take k).map (·.2) ++ (R.drop k).map ln = mid R k j X := by
  obtain ⟨hk, e⟩ := List.getElem?_eq_some_iff.1 h
  unfold mid
  rw [List.drop_eq_getElem_cons hk, e]
  rfl
theorem mid_end {R : List Row} {k j : Nat} {X : ByteArray} (h : R[k]? = some (j, X)) : mid R k 0 X = (R.take (k + 1)).map (·.2) ++ (R.drop (k + 1)).map ln := by
  unfold mid
  rw [take_snoc h, List.map_append, ln_zero, List.append_assoc]
  rfl
theorem mid_len (R : List Row) (k j : Nat) (X : ByteArray) (hk : k < R.length) : (mid R k j X).length = R.length := by
  unfold mid
  simp
  omega

set_option maxHeartbeats 8000000 in
set_option maxRecDepth 100000 in
theorem rline_any (s : St) (cs : List Value) (B : Nat) (w : World) (hr : RdS B w cs s) (hB : B ≤ w.heap.size) (hS : RSaidS s) (hg : ∀ r ∈ rw1 0 s, Gd r.2) (hz : (rw1 0 s).length ≤ 10000000) (hj : (jn ((rw1 0 s).map (·.2)) ⟨#[32]⟩).size ≤ 140737488355328)
    (hy : ∀ r ∈ rw1 0 s, r.2.size ≤ 1200000 ∧ r.1 ≤ 10000000) :
    Calls Tryd.prog 9 #[.agg cs.toArray] w fun e w' => e = .returned (.string (jn ((rw1 0 s).map (·.2)) ⟨#[32]⟩)) ∧ Turn [] w w' := by
  have hRS := hr
  obtain ⟨R, hRR⟩ : ∃ R, rw1 0 s = R := ⟨_, rfl⟩
  unfold RSaidS at hS
  rw [hRR] at hg hz hj hy hS ⊢
  obtain ⟨d, x, y, z, t, f, ag, nn, bd, ot, lin, cl⟩ := s
  obtain ⟨A1, c1, A2, c2, A3, c3, rfl, -, -, -, -⟩ := hr.cells
  have tA := bx w #[.int .i64 d, .string x, .string y, .string z, .string t, .string f, .slice A1 ag.length c1, .int .i64 nn, .slice A2 bd.length c2, .slice A3 ot.length c3, .int .i64 lin, .int .i64 cl] 27
  obtain ⟨W, hW⟩ : ∃ W, w.alloc (.cells #[.int .i64 d, .string x, .string y, .string z, .string t, .string f, .slice A1 ag.length c1, .int .i64 nn, .slice A2 bd.length c2, .slice A3 ot.length c3, .int .i64 lin, .int .i64 cl] 27) = W := ⟨_, rfl⟩
  rw [hW] at tA
  have HC := Lib.hid (hS _ B W (hRS.turn tA (by simp)) (by have := tA.size; omega) (by omega))
  have HT := Lib.hid tA
  have HW := Lib.hid hW
  have HGD := Lib.hid hg
  have HZ := Lib.hid (And.intro hj hy)
  obtain ⟨n, hn⟩ : ∃ n, R.length = n := ⟨_, rfl⟩
  have HN := Lib.hid hn
  rw [hn] at HC hz
  clear tA hW hr hRS hB hS hg hj hy hRR hn
  go_enter Tryd.func9, Tryd.ntmps9
  go_wp2_with fail
  rw [HW.out]
  refine HC.out.mono ?_
  rintro e w1 ⟨A', c', rfl, hb⟩
  have HB := Lib.hid hb
  clear hb HC
  go_wp2_with fail
  go_loopw [4] (fun i wr => ∃ k : Nat, k ≤ n ∧ i = .int .i64 (k : Int) ∧ Hid (Bld W wr (.slice A' n c') ((R.take k).map (·.2) ++ (R.drop k).map ln))) (fun i _ => n - (intOf i).toNat)
  case atStart => exact ⟨0, Nat.zero_le _, rfl, Lib.hid (by simpa using HB.out)⟩
  case round =>
    obtain ⟨k, hk, rfl, HWk⟩ := hrel
    by_cases hlt : k < n
    · obtain ⟨r, hrk⟩ := at_lt (l := R) (k := k) (by rw [HN.out]; exact hlt)
      obtain ⟨D, X⟩ := r
      have hgX := HGD.out _ (List.mem_of_getElem? hrk)
      have hyX := HZ.out.2 _ (List.mem_of_getElem? hrk)
      simp only at hgX hyX
      have hkR : k < R.length := by rw [HN.out]; exact hlt
      have HM0 : Hid (Bld W wr (.slice A' n c') (mid R k D X)) := Lib.hid (by have := HWk.out; rwa [mid_start hrk] at this)
      have HRK := Lib.hid hrk
      have HKR := Lib.hid hkR
      have HGX := Lib.hid hgX
      obtain ⟨g, hA', _⟩ := OwnS.put HM0.out.1 (mid_at R k D X hkR)
      subst hA'
      have hgW : Hid (W.heap.size ≤ g) := Lib.hid (HM0.out.2.1 g rfl)
      obtain ⟨w0, hw0⟩ : ∃ q, q = wr := ⟨_, rfl⟩
      clear hrk hkR hgX HWk
      go_wp2_with fail
      rw [← hw0]
      rw [← hw0] at HM0
      clear hw0
      go_loopw [13] (fun _ wi => ∃ j : Nat, j ≤ D ∧ Hid (Bld W wi (.slice (some ⟨g, 0, none⟩) n c') (mid R k j X))) (fun _ wi => lenAt wi g k)
      case atStart => exact ⟨D, Nat.le_refl _, HM0⟩
      case round =>
        obtain ⟨j, hj, HMj⟩ := hrel
        obtain ⟨g', hA', hgl, hc, hfr, hput⟩ := OwnS.put HMj.out.1 (mid_at R k j X HKR.out)
        injection hA' with hA'
        injection hA' with hA'
        subst hA'
        cases j with
        | zero =>
          rw [ln_zero] at hc
          have HE : Hid (Bld W wr (.slice (some ⟨g, 0, none⟩) n c') ((R.take (k + 1)).map (·.2) ++ (R.drop (k + 1)).map ln)) := Lib.hid (by rw [← mid_end HRK.out]; exact HMj.out)
          by_cases h2 : 2 < X.size
          · have h2I : (2 : Int) < (X.size : Int) := by omega
            have hbf : ((X.extract 0 2).toList == [32, 32]) = false := by
              rw [ByteArray.toList_eq]
              rw [beq_eq_false_iff_ne]
              exact HGX.out.two h2
            clear hput
            go_wp2_with fail
            go_roundw
            case rel => exact ⟨k + 1, by omega, by go_num, HE⟩
            case measure => simp [intOf]; omega
          · have h2I : ¬ (2 : Int) < (X.size : Int) := by omega
            clear hput
            go_wp2_with fail
            go_roundw
            case rel => exact ⟨k + 1, by omega, by go_num, HE⟩
            case measure => simp [intOf]; omega
        | succ j =>
          have hXp := HGX.out.pos
          have HPut := Lib.hid (hput (ln (j, X)))
          have hLs := ln_size (j + 1) X
          have hLs2 := ln_size j X
          have hbt : (((ln (j + 1, X)).extract 0 2).toList == [32, 32]) = true := by
            rw [ByteArray.toList_eq, ln_head j X hXp]
            rfl
          have HCut := Lib.hid (ln_cut j X)
          obtain ⟨S, hS⟩ : ∃ q, ln (j + 1, X) = q := ⟨_, rfl⟩
          rw [hS] at hbt HCut hc hLs
          have h2 : 2 < S.size := by omega
          have h2I : (2 : Int) < (S.size : Int) := by omega
          have HS := Lib.hid hS
          have HLS := Lib.hid (And.intro hLs hLs2)
          clear hput hS hLs hLs2
          go_wp2_with fail
          go_roundw
          case rel =>
            refine ⟨j, by omega, Lib.hid ?_⟩
            rw [HCut.out]
            have h1 := HPut.out.1
            rw [mid_set R k (j + 1) j X HKR.out] at h1
            exact ⟨h1, HMj.out.2.1, HMj.out.2.2.trans HPut.out.2 (fun q hq => by simp at hq; subst hq; exact .inr hgW.out)⟩
          case measure =>
            rw [HCut.out]
            have h1 := HPut.out.1
            rw [mid_set R k (j + 1) j X HKR.out] at h1
            obtain ⟨g2, e2, _, hc2, _⟩ := OwnS.put h1 (mid_at R k j X HKR.out)
            injection e2 with e2
            injection e2 with e2
            subst e2
            rw [lenAt_of hc2, lenAt_of hc, HLS.out.1, HLS.out.2]
            omega
    · have hkn : k = n := by omega
      subst hkn
      have hb := HWk.out
      rw [List.take_of_length_le (by rw [HN.out]; exact Nat.le_refl _), List.drop_of_length_le (by rw [HN.out]; exact Nat.le_refl _), List.map_nil, List.append_nil] at hb
      have HJ := Lib.hid (rjoin_any A' c' (R.map (·.2)) ⟨#[32]⟩ wr (OwnS.sts hb.1).2.2 (by rw [List.length_map, HN.out]; omega) (by have := HZ.out.1; omega))
      rw [List.length_map, HN.out] at HJ
      have HTk := Lib.hid hb.2.2
      clear hb HWk
      go_wp2_with fail
      refine HJ.out.mono ?_
      rintro e w5 ⟨rfl, rfl⟩
      go_wp2_with fail
      go_ret
      exact ⟨rfl, HT.out.trans' HTk.out⟩
end Go.Proofs.YtoekaehpcjhhaaaDoor
