import Derived.Test.YtbocejiclellfaaDoorQ13Rft
import Derived.Deep.RegionHeld3
import Derived.BigQuiet

/- The reference's Plain. -/
set_option linter.unusedSimpArgs false
set_option linter.unusedVariables false
set_option maxRecDepth 100000
namespace Go.Proofs.YtbocejiclellfaaDoor
open Go.RowKit

theorem emp_list {a : ByteArray} : a.toList.isEmpty = decide (a = ⟨#[]⟩) := by
  rw [Bool.eq_iff_iff, List.isEmpty_iff, decide_eq_true_eq, ByteArray.toList_eq]
  constructor
  · intro h
    apply ByteArray.ext
    rw [← Array.toList_inj, h]
  · intro h
    rw [h]
set_option maxHeartbeats 6400000 in
theorem plain_any (A : Option Addr) (c B : Nat) (l : List K8) (m0 m1 m2 m3 m4 m5 m6 m7 m8 : Value) (w : World) (hr : RdKs B w A l) (hl : l.length ≤ 1000) (hz : ∀ x ∈ l, x.nm.size ≤ 281474976710656) :
    Calls Tryd.prog 17 #[.agg #[.slice A l.length c, m0, m1, m2, m3, m4, m5, m6, m7, m8]] w fun e w' => ∃ b, e = .returned (.bool b) ∧ (b = true → PlainL l) ∧ Turn [] w w' := by
  obtain ⟨n, hn⟩ : ∃ n, l.length = n := ⟨_, rfl⟩
  obtain ⟨r, hrr⟩ : ∃ r, w.heap.size = r := ⟨_, rfl⟩
  obtain ⟨W0, hW0⟩ : ∃ W, w.alloc (.cells #[.slice A n c, m0, m1, m2, m3, m4, m5, m6, m7, m8] 30) = W := ⟨_, rfl⟩
  have t0 : Turn [] w W0 := by rw [← hW0]; exact (Turn.refl [] w).alloc _
  have b0 : W0.heap[r]? = some (.cells #[.slice A n c, m0, m1, m2, m3, m4, m5, m6, m7, m8] 30 (0, 0)) := by rw [← hW0, ← hrr]; exact heap_alloc_new w _
  have p0 : W0.cell? ⟨r, 0, none⟩ = some (.slice A n c) := cell_of_row W0 r 0 _ _ _ b0
  have HP : Hid (∀ W, Turn [] W0 W → W.cell? ⟨r, 0, none⟩ = some (.slice A n c)) := Lib.hid fun W k => cell_of_row W r 0 _ _ _ (k.heap b0 (by simp))
  have HRD := Lib.hid (hr.turn t0 (by simp))
  have HZ := Lib.hid hz
  have HT0 := Lib.hid t0
  have HW0 := Lib.hid hW0
  have HRR := Lib.hid hrr
  have HN := Lib.hid hn
  have hn1 : n ≤ 1000 := by omega
  rw [hn]
  clear hr hrr hW0 t0 b0 hz hn
  go_enter Tryd.func17, Tryd.ntmps17
  go_upto_region 1 with fail
  rw [HRR.out, HW0.out]
  clear p0
  go_wp2_with fail
  go_loopw [3] (fun v3 wr => ∃ k : Nat, k ≤ n ∧ v3 = .int .i64 (k : Int) ∧ Hid (∀ (j : Nat) x, j < k → l[j]? = some x → x.nm ≠ ⟨#[]⟩ ∧ x.nm ≠ tInt ∧ x.nm ≠ tNull ∧ x.nm ≠ tVoid ∧ cutB x.nm = none) ∧ Hid (Turn [] W0 wr)) (fun v3 _ => n - (intOf v3).toNat)
  case atStart => exact ⟨0, Nat.zero_le _, rfl, Lib.hid fun j s h => by omega, Lib.hid (Turn.refl _ _)⟩
  case round =>
    obtain ⟨k, hk, rfl, HA, HT⟩ := hrel
    have p0 := HP.out wr HT.out
    by_cases hkn : k < n
    · have d1 : decide ((k : Int) < (n : Int)) = true := by simp; omega
      have d2 : (k : Int) < (n : Int) := by omega
      obtain ⟨x, hx⟩ := at_lt (show k < l.length by have := HN.out; omega)
      obtain ⟨b, off, cs, rfl, hb, hbl, hcell, A3, c3, A4, n4, c4, A5, n5, c5, A6, n6, c6, I, rfl, hst⟩ := (HRD.out.turn HT.out (by simp)) k x hx
      have e0 : wr.cell? ⟨b, off + k * 10, none⟩ = some (.string x.nm) := hcell 0 _ rfl
      have hsz := HZ.out x (List.mem_of_getElem? hx)
      have HX := Lib.hid hx
      obtain ⟨s, hs⟩ : ∃ s, x.nm = s := ⟨_, rfl⟩
      have HNX : Hid (s ≠ ⟨#[]⟩ ∧ s ≠ tInt ∧ s ≠ tNull ∧ s ≠ tVoid ∧ cutB s = none → ∀ (j : Nat) x, j < k + 1 → l[j]? = some x → x.nm ≠ ⟨#[]⟩ ∧ x.nm ≠ tInt ∧ x.nm ≠ tNull ∧ x.nm ≠ tVoid ∧ cutB x.nm = none) := Lib.hid fun h j x' hj hx' => by
        rcases Nat.lt_or_ge j k with h3 | h3
        · exact HA.out j x' h3 hx'
        · have e : j = k := by omega
          subst e
          have := HX.out.symm.trans hx'
          injection this with e
          rw [← e, hs]
          exact h
      rw [hs] at e0 hsz
      obtain ⟨z, hz⟩ : ∃ z, s.size = z := ⟨_, rfl⟩
      obtain ⟨q0, hq0⟩ : ∃ q, decide (s = ⟨#[]⟩) = q := ⟨_, rfl⟩
      obtain ⟨q1, hq1⟩ : ∃ q, decide (s = tInt) = q := ⟨_, rfl⟩
      obtain ⟨q2, hq2⟩ : ∃ q, decide (s = tNull) = q := ⟨_, rfl⟩
      obtain ⟨q3, hq3⟩ : ∃ q, decide (s = tVoid) = q := ⟨_, rfl⟩
      have f0 : s.toList.isEmpty = q0 := by rw [emp_list]; exact hq0
      have f1 : (s.toList == [105, 110, 116]) = q1 := by rw [lit_list]; exact hq1
      have f2 : (s.toList == [110, 117, 108, 108]) = q2 := by rw [lit_list]; exact hq2
      have f3 : (s.toList == [118, 111, 105, 100]) = q3 := by rw [lit_list]; exact hq3
      have HQ := Lib.hid (And.intro hq0 (And.intro hq1 (And.intro hq2 hq3)))
      have HZZ := Lib.hid hz
      rw [hz] at hsz
      clear hx hcell hst hs hq0 hq1 hq2 hq3
      cases q0 with
      | true =>
        go_wp2_with fail
        go_ret
        exact ⟨false, rfl, (fun h => by cases h), HT0.out.trans' HT.out⟩
      | false => cases q1 with
        | true =>
          go_wp2_with fail
          go_ret
          exact ⟨false, rfl, (fun h => by cases h), HT0.out.trans' HT.out⟩
        | false => cases q2 with
          | true =>
            go_wp2_with fail
            go_ret
            exact ⟨false, rfl, (fun h => by cases h), HT0.out.trans' HT.out⟩
          | false => cases q3 with
            | true =>
              go_wp2_with fail
              go_ret
              exact ⟨false, rfl, (fun h => by cases h), HT0.out.trans' HT.out⟩
            | false =>
              have HFour : Hid (s ≠ ⟨#[]⟩ ∧ s ≠ tInt ∧ s ≠ tNull ∧ s ≠ tVoid) := Lib.hid ⟨of_decide_eq_false HQ.out.1, of_decide_eq_false HQ.out.2.1, of_decide_eq_false HQ.out.2.2.1, of_decide_eq_false HQ.out.2.2.2⟩
              by_cases h2 : 2 ≤ z
              · have g1 : decide ((z : Int) ≥ 2) = true := by simp; omega
                have g2 : decide ((2 : Int) ≤ (z : Int)) = true := by simp; omega
                have hw : IntKind.i64.wrap ((z : Int) - 2) = (z : Int) - 2 := by rw [IntKind.wrap_i64]; omega
                have hbl := br_list (a := s.extract (z - 2) z)
                by_cases e : s.extract (z - 2) z = tBr
                · have g3 : ((s.extract (z - 2) z).toList == [91, 93]) = true := by rw [hbl, e]; simp
                  clear hbl e
                  go_wp2_with fail
                  go_ret
                  exact ⟨false, rfl, (fun h => by cases h), HT0.out.trans' HT.out⟩
                · have g3 : ((s.extract (z - 2) z).toList == [91, 93]) = false := by rw [hbl]; simp [e]
                  have HC := Lib.hid (br_no (t := s) (by rw [HZZ.out]; exact e))
                  clear hbl e
                  go_wp2_with fail
                  go_roundw
                  case rel => exact ⟨k + 1, by omega, by go_num, Lib.hid (HNX.out ⟨HFour.out.1, HFour.out.2.1, HFour.out.2.2.1, HFour.out.2.2.2, HC.out⟩), HT⟩
                  case measure => simp [intOf]; omega
              · have g1 : decide ((z : Int) ≥ 2) = false := by simp; omega
                have g2 : decide ((2 : Int) ≤ (z : Int)) = false := by simp; omega
                have HC := Lib.hid (br_not (t := s) (by rw [HZZ.out]; exact h2))
                go_wp2_with fail
                go_roundw
                case rel => exact ⟨k + 1, by omega, by go_num, Lib.hid (HNX.out ⟨HFour.out.1, HFour.out.2.1, HFour.out.2.2.1, HFour.out.2.2.2, HC.out⟩), HT⟩
                case measure => simp [intOf]; omega
    · obtain rfl : k = n := by omega
      have d1 : decide ((k : Int) < (k : Int)) = false := by simp
      go_wp2_with fail
      go_ret
      refine ⟨true, rfl, fun _ x hx => ?_, HT0.out.trans' HT.out⟩
      obtain ⟨j, hj⟩ := List.getElem?_of_mem hx
      have h4 := (List.getElem?_eq_some_iff.1 hj).1
      exact HA.out j x (by have := HN.out; omega) hj
end Go.Proofs.YtbocejiclellfaaDoor

/- The law's list of types. -/
set_option linter.unusedSimpArgs false
set_option linter.unusedVariables false
set_option maxRecDepth 100000
namespace Go.Proofs.YtbocejiclellfaaDoor
open Go.RowKit

/-- The i-th of the list. -/
def kdAt (i : Nat) : Kd := if i = 0 then .int else if i = 1 then .null else if i % 2 = 0 then .cl ((i - 2) / 2) else .ar ((i - 2) / 2)
def allT (l : List K8) (m : Nat) : List ByteArray := (List.range (2 + 2 * m)).map fun i => txK l (kdAt i)
theorem allT_len (l : List K8) (m : Nat) : (allT l m).length = 2 + 2 * m := by simp [allT]
theorem allT_at (l : List K8) (m : Nat) {i : Nat} (h : i < 2 + 2 * m) : (allT l m)[i]? = some (txK l (kdAt i)) := by
  unfold allT
  rw [List.getElem?_map, List.getElem?_range h]
  rfl
theorem allT_zero (l : List K8) : allT l 0 = [tInt, tNull] := rfl
theorem kdAt_cl (m : Nat) : kdAt (2 + 2 * m) = .cl m := by
  unfold kdAt
  rw [if_neg (by omega), if_neg (by omega), if_pos (by omega), show (2 + 2 * m - 2) / 2 = m by omega]
theorem kdAt_ar (m : Nat) : kdAt (2 + 2 * m + 1) = .ar m := by
  unfold kdAt
  rw [if_neg (by omega), if_neg (by omega), if_neg (by omega), show (2 + 2 * m + 1 - 2) / 2 = m by omega]
theorem allT_next (l : List K8) (m : Nat) : allT l (m + 1) = allT l m ++ [nmL l m, nmL l m ++ tBr] := by
  unfold allT
  rw [show 2 + 2 * (m + 1) = 2 + 2 * m + 1 + 1 by omega, List.range_succ, List.range_succ, List.map_append, List.map_append, List.map_cons, List.map_cons, List.map_nil, kdAt_cl, kdAt_ar]
  simp [txK]
theorem kdAt_inj {i j : Nat} (h : kdAt i = kdAt j) : i = j := by
  unfold kdAt at h
  by_cases i0 : i = 0
  · by_cases j0 : j = 0
    · omega
    · rw [if_pos i0, if_neg j0] at h
      split at h
      · cases h
      · split at h <;> cases h
  · rw [if_neg i0] at h
    by_cases j0 : j = 0
    · rw [if_pos j0] at h
      split at h
      · cases h
      · split at h <;> cases h
    · rw [if_neg j0] at h
      by_cases i1 : i = 1
      · by_cases j1 : j = 1
        · omega
        · rw [if_pos i1, if_neg j1] at h
          split at h <;> cases h
      · rw [if_neg i1] at h
        by_cases j1 : j = 1
        · rw [if_pos j1] at h
          split at h <;> cases h
        · rw [if_neg j1] at h
          split at h <;> split at h <;> first | (injection h with h; omega) | cases h
theorem kdAt_ok {l : List K8} {m i : Nat} (hm : m ≤ l.length) (h : i < 2 + 2 * m) : okKd l (kdAt i) := by
  unfold kdAt
  split
  · trivial
  · split
    · trivial
    · split
      · show (i - 2) / 2 < l.length
        omega
      · show (i - 2) / 2 < l.length
        omega
/-- A slice of texts of the program's own. -/
def OwnS (W : World) (V : Value) (ts : List ByteArray) : Prop := W.ownsRow 0 9 1 V ts.length (ts.map Value.string)
theorem OwnS.turn' {W W' : World} {V : Value} {ts : List ByteArray} (h : OwnS W V ts) (t : Turn [] W W') : OwnS W' V ts := Turn.owns t h (by simp)
theorem OwnS.txs {W : World} {V : Value} {ts : List ByteArray} (h : OwnS W V ts) : ∃ P c, V = .slice P ts.length c ∧ Txs W P ts := by
  obtain ⟨P, c, rfl, hc, _⟩ := owns_form h
  refine ⟨P, c, rfl, fun k s hs => ?_⟩
  obtain ⟨_, _, hr⟩ := Rws.of_owns h
  rcases hr.2 with h0 | ⟨b, off, rfl, hb, hcell⟩
  · have := (List.getElem?_eq_some_iff.1 hs).1
    omega
  · exact ⟨b, off, rfl, hb, hcell k _ (by rw [List.getElem?_map, hs]; rfl)⟩
theorem owns_two (W : World) (s u : ByteArray) : OwnS (W.alloc (.cells #[.string s, .string u] 9)) (.slice (some ⟨W.heap.size, 0, none⟩) 2 2) [s, u] :=
  ⟨rfl, .inr ⟨W.heap.size, 2, #[.string s, .string u], rfl, Nat.zero_le _, heap_alloc_new W _, Nat.le_refl _, by unfold maxLen; omega, rfl, rfl⟩⟩
theorem OwnS.grown {W : World} {V : Value} {l : List K8} {m : Nat} (h : W.ownsRow 0 9 1 V ((allT l m).length + 2) ((allT l m).map Value.string ++ [.string (nmL l m), .string (nmL l m ++ tBr)])) : OwnS W V (allT l (m + 1)) := by
  unfold OwnS
  rw [allT_next, List.length_append, List.map_append]
  exact h
theorem rws_two (W : World) (T : TypeId) (s u : ByteArray) : Rws (W.alloc (.cells #[.string s, .string u] T)) 1 (some ⟨W.heap.size, 0, none⟩) 2 [.string s, .string u] := by
  have h := heap_alloc_new W (.cells #[.string s, .string u] T)
  refine ⟨rfl, .inr ⟨_, 0, rfl, by simp, fun j u' hj => ?_⟩⟩
  rw [cell_of_row _ W.heap.size _ _ _ _ h]
  match j, hj with
  | 0, hj => simp at hj; subst hj; simp
  | 1, hj => simp at hj; subst hj; simp
  | j + 2, hj => simp at hj
set_option maxHeartbeats 12800000 in
theorem all9_any (A : Option Addr) (c B : Nat) (l : List K8) (m0 m1 m2 m3 m4 m5 m6 m7 m8 : Value) (w : World) (hr : RdKs B w A l) (hB : B ≤ w.heap.size) (hl : l.length ≤ 1000) (hz : ∀ x ∈ l, x.nm.size ≤ 281474976710656) :
    Calls Tryd.prog 9 #[.agg #[.slice A l.length c, m0, m1, m2, m3, m4, m5, m6, m7, m8]] w fun e w' => ∃ U, e = .returned U ∧ OwnS w' U (allT l (min l.length 8)) ∧ Turn [] w w' := by
  obtain ⟨n, hn⟩ : ∃ n, l.length = n := ⟨_, rfl⟩
  obtain ⟨r, hrr⟩ : ∃ r, w.heap.size = r := ⟨_, rfl⟩
  obtain ⟨W0, hW0⟩ : ∃ W, w.alloc (.cells #[.slice A n c, m0, m1, m2, m3, m4, m5, m6, m7, m8] 30) = W := ⟨_, rfl⟩
  have t0 : Turn [] w W0 := by rw [← hW0]; exact (Turn.refl [] w).alloc _
  have s0 : W0.heap.size = r + 1 := by rw [← hW0, ← hrr]; simp
  have b0 : W0.heap[r]? = some (.cells #[.slice A n c, m0, m1, m2, m3, m4, m5, m6, m7, m8] 30 (0, 0)) := by rw [← hW0, ← hrr]; exact heap_alloc_new w _
  obtain ⟨W1, hW1⟩ : ∃ W, W0.alloc (.cells #[.string tInt, .string tNull] 9) = W := ⟨_, rfl⟩
  have t1 : Turn [] W0 W1 := by rw [← hW1]; exact (Turn.refl [] W0).alloc _
  have hown : OwnS W1 (.slice (some ⟨r + 1, 0, none⟩) 2 2) (allT l 0) := by
    rw [allT_zero, ← hW1, ← s0]
    exact owns_two W0 tInt tNull
  have HP : Hid (∀ W F, Turn F W0 W → r ∉ F → W.cell? ⟨r, 0, none⟩ = some (.slice A n c)) := Lib.hid fun W F k h => cell_of_row W r 0 _ _ _ (k.heap b0 h)
  have HRD := Lib.hid (hr.turn t0 (by simp))
  have HZ := Lib.hid hz
  have HT0 := Lib.hid t0
  have HT1 := Lib.hid t1
  have HW0 := Lib.hid hW0
  have HRR := Lib.hid hrr
  have HN := Lib.hid hn
  have HOW1 := Lib.hid hown
  have HS0 := Lib.hid s0
  have hn1 : n ≤ 1000 := by omega
  have HBR : Hid (B ≤ r) := Lib.hid (by omega)
  rw [hn]
  unfold tInt tNull at hW1
  have HW1 := Lib.hid hW1
  clear hr hrr hW0 t0 b0 hz hn hW1 t1 hown s0 hl hB
  go_enter Tryd.func9, Tryd.ntmps9
  go_upto_region 1 with fail
  rw [HRR.out, HW0.out]
  go_upto_region 2 with fail
  rw [HW1.out, HS0.out]
  go_wp2_with fail
  go_loopw [3, 4] (fun v3 v4 wr => ∃ k : Nat, k ≤ min n 8 ∧ v4 = .int .i64 (k : Int) ∧ Hid (OwnS wr v3 (allT l k) ∧ (∀ g, v3.ownBlock = some g → r + 1 ≤ g) ∧ Turn [] W0 wr)) (fun _ v4 _ => n - (intOf v4).toNat)
  case atStart => exact ⟨0, Nat.zero_le _, rfl, Lib.hid ⟨HOW1.out, fun g h => by simp [Value.ownBlock] at h; omega, HT1.out⟩⟩
  case round =>
    obtain ⟨k, hk, rfl, HK⟩ := hrel
    have p0 : wr.cell? ⟨r, 0, none⟩ = some (.slice A n c) := HP.out wr [] HK.out.2.2 (by simp)
    by_cases hkn : k < min n 8
    · have h1 : k < n := by omega
      have h8 : k < 8 := by omega
      have d1 : decide ((k : Int) < (n : Int)) = true := by simp; omega
      have d2 : (k : Int) < (n : Int) := by omega
      have d3 : decide ((k : Int) < 8) = true := by simp; omega
      obtain ⟨x, hx⟩ := at_lt (show k < l.length by have := HN.out; omega)
      have hnm : nmL l k = x.nm := nmL_at hx
      have hsz := HZ.out x (List.mem_of_getElem? hx)
      obtain ⟨b, off, cs, rfl, hb, hbl, hcell, A3, c3, A4, n4, c4, A5, n5, c5, A6, n6, c6, I, rfl, hst⟩ := HRD.out k x hx
      have e0 : W0.cell? ⟨b, off + k * 10, none⟩ = some (.string x.nm) := hcell 0 _ rfl
      have HSS : Hid (∀ w', Turn u3.ownBlock.toList wr w' → (w'.cell? ⟨r, 0, none⟩ = some (.slice (some ⟨b, off, none⟩) n c) ∧ w'.cell? ⟨b, off + k * 10, none⟩ = some (.string x.nm))) := Lib.hid fun w' t => by
        have hF : ∀ g ∈ u3.ownBlock.toList, r + 1 ≤ g := fun g hg => HK.out.2.1 g (by simpa using hg)
        have t2 : Turn u3.ownBlock.toList W0 w' := (HK.out.2.2.more (by simp)).trans t (fun g hg => .inl hg)
        refine ⟨HP.out w' _ t2 (fun h => by have := hF r h; omega), (t2.cell (p := ⟨b, off + k * 10, none⟩) hbl (fun h => by have := hF b h; have := HBR.out; omega)).trans e0⟩
      have HNM := Lib.hid hnm
      have hlim : ¬ 9223372036854775807 < x.nm.size + 2 := by omega
      clear hx hcell hst hb hbl e0 hnm
      go_upto_region 5 with fail
      refine wp_region_held_drew (S := fun w' => w'.cell? ⟨r, 0, none⟩ = some (.slice (some ⟨b, off, none⟩) n c) ∧ w'.cell? ⟨b, off + k * 10, none⟩ = some (.string x.nm)) (by kernel_rfl) ?_ (fun hHeld => ?_)
      · exact HSS.out _ (Turn.refl _ wr).drew
      refine wpAnyH_take (i := 0) (oi := { dst := some 17, op := Op.move (Operand.tmp 3), type := 35, pos := _, after := #[], guard := none }) (v := ?_) rfl (by kernel_rfl) (by kernel_rfl) (by kernel_rfl) (fun _ _ _ h => h) (Or.inl ⟨by rfl, ?_⟩) (by assumption) ?_
      rotate_left
      · intro w hSw; (try dsimp only at hSw); go_simp; (try with_reducible rfl)
      try simp only [Act.put, List.setIfInBounds_toArray, List.set_cons_zero, List.set_cons_succ]
      refine wpAnyH_take (i := 1) (oi := { dst := some 18, op := Op.fieldAddr 30 (Operand.tmp 1) 0, type := 0, pos := _, after := #[], guard := none }) (v := ?_) rfl (by kernel_rfl) (by kernel_rfl) (by kernel_rfl) (fun _ _ _ h => h) (Or.inl ⟨by rfl, ?_⟩) (by assumption) ?_
      rotate_left
      · intro w hSw; (try dsimp only at hSw); go_simp; (try with_reducible rfl)
      try simp only [Act.put, List.setIfInBounds_toArray, List.set_cons_zero, List.set_cons_succ]
      refine wpAnyH_take (i := 2) (oi := { dst := some 19, op := Op.load 22 (Operand.tmp 18), type := 22, pos := _, after := #[{ on := 1, ground := Ground.data }], guard := none }) (v := ?_) rfl (by kernel_rfl) (by kernel_rfl) (by kernel_rfl) (fun _ _ _ h => h) (Or.inl ⟨by rfl, ?_⟩) (by assumption) ?_
      rotate_left
      · intro w hSw; (try dsimp only at hSw); go_simp; (try with_reducible rfl)
      try simp only [Act.put, List.setIfInBounds_toArray, List.set_cons_zero, List.set_cons_succ]
      refine wpAnyH_take (i := 3) (oi := { dst := some 20, op := Op.move (Operand.tmp 4), type := 3, pos := _, after := #[], guard := none }) (v := ?_) rfl (by kernel_rfl) (by kernel_rfl) (by kernel_rfl) (fun _ _ _ h => h) (Or.inl ⟨by rfl, ?_⟩) (by assumption) ?_
      rotate_left
      · intro w hSw; (try dsimp only at hSw); go_simp; (try with_reducible rfl)
      try simp only [Act.put, List.setIfInBounds_toArray, List.set_cons_zero, List.set_cons_succ]
      refine wpAnyH_take (i := 4) (oi := { dst := some 21, op := Op.indexAddr 22 (Operand.tmp 19) (Operand.tmp 20), type := 0, pos := _, after := #[{ on := 2, ground := Ground.data }, { on := 3, ground := Ground.data }], guard := none }) (v := ?_) rfl (by kernel_rfl) (by kernel_rfl) (by kernel_rfl) (fun _ _ _ h => h) (Or.inl ⟨by rfl, ?_⟩) (by assumption) ?_
      rotate_left
      · intro w hSw; (try dsimp only at hSw); go_simp; (try with_reducible rfl)
      try simp only [Act.put, List.setIfInBounds_toArray, List.set_cons_zero, List.set_cons_succ]
      refine wpAnyH_take (i := 5) (oi := { dst := some 22, op := Op.fieldAddr 43 (Operand.tmp 21) 0, type := 0, pos := _, after := #[{ on := 4, ground := Ground.data }], guard := none }) (v := ?_) rfl (by kernel_rfl) (by kernel_rfl) (by kernel_rfl) (fun _ _ _ h => h) (Or.inl ⟨by rfl, ?_⟩) (by assumption) ?_
      rotate_left
      · intro w hSw; (try dsimp only at hSw); go_simp; (try with_reducible rfl)
      try simp only [Act.put, List.setIfInBounds_toArray, List.set_cons_zero, List.set_cons_succ]
      refine wpAnyH_take (i := 6) (oi := { dst := some 23, op := Op.load 9 (Operand.tmp 22), type := 9, pos := _, after := #[{ on := 5, ground := Ground.data }], guard := none }) (v := ?_) rfl (by kernel_rfl) (by kernel_rfl) (by kernel_rfl) (fun _ _ _ h => h) (Or.inl ⟨by rfl, ?_⟩) (by assumption) ?_
      rotate_left
      · intro w hSw; (try dsimp only at hSw); go_simp; (try with_reducible rfl)
      try simp only [Act.put, List.setIfInBounds_toArray, List.set_cons_zero, List.set_cons_succ]
      refine wpAnyH_take (i := 7) (oi := { dst := some 24, op := Op.fieldAddr 30 (Operand.tmp 1) 0, type := 0, pos := _, after := #[], guard := none }) (v := ?_) rfl (by kernel_rfl) (by kernel_rfl) (by kernel_rfl) (fun _ _ _ h => h) (Or.inl ⟨by rfl, ?_⟩) (by assumption) ?_
      rotate_left
      · intro w hSw; (try dsimp only at hSw); go_simp; (try with_reducible rfl)
      try simp only [Act.put, List.setIfInBounds_toArray, List.set_cons_zero, List.set_cons_succ]
      refine wpAnyH_take (i := 8) (oi := { dst := some 25, op := Op.load 22 (Operand.tmp 24), type := 22, pos := _, after := #[{ on := 7, ground := Ground.data }], guard := none }) (v := ?_) rfl (by kernel_rfl) (by kernel_rfl) (by kernel_rfl) (fun _ _ _ h => h) (Or.inl ⟨by rfl, ?_⟩) (by assumption) ?_
      rotate_left
      · intro w hSw; (try dsimp only at hSw); go_simp; (try with_reducible rfl)
      try simp only [Act.put, List.setIfInBounds_toArray, List.set_cons_zero, List.set_cons_succ]
      refine wpAnyH_take (i := 9) (oi := { dst := some 26, op := Op.move (Operand.tmp 4), type := 3, pos := _, after := #[], guard := none }) (v := ?_) rfl (by kernel_rfl) (by kernel_rfl) (by kernel_rfl) (fun _ _ _ h => h) (Or.inl ⟨by rfl, ?_⟩) (by assumption) ?_
      rotate_left
      · intro w hSw; (try dsimp only at hSw); go_simp; (try with_reducible rfl)
      try simp only [Act.put, List.setIfInBounds_toArray, List.set_cons_zero, List.set_cons_succ]
      refine wpAnyH_take (i := 10) (oi := { dst := some 27, op := Op.indexAddr 22 (Operand.tmp 25) (Operand.tmp 26), type := 0, pos := _, after := #[{ on := 8, ground := Ground.data }, { on := 9, ground := Ground.data }], guard := none }) (v := ?_) rfl (by kernel_rfl) (by kernel_rfl) (by kernel_rfl) (fun _ _ _ h => h) (Or.inl ⟨by rfl, ?_⟩) (by assumption) ?_
      rotate_left
      · intro w hSw; (try dsimp only at hSw); go_simp; (try with_reducible rfl)
      try simp only [Act.put, List.setIfInBounds_toArray, List.set_cons_zero, List.set_cons_succ]
      refine wpAnyH_take (i := 11) (oi := { dst := some 28, op := Op.fieldAddr 43 (Operand.tmp 27) 0, type := 0, pos := _, after := #[{ on := 10, ground := Ground.data }], guard := none }) (v := ?_) rfl (by kernel_rfl) (by kernel_rfl) (by kernel_rfl) (fun _ _ _ h => h) (Or.inl ⟨by rfl, ?_⟩) (by assumption) ?_
      rotate_left
      · intro w hSw; (try dsimp only at hSw); go_simp; (try with_reducible rfl)
      try simp only [Act.put, List.setIfInBounds_toArray, List.set_cons_zero, List.set_cons_succ]
      refine wpAnyH_take (i := 12) (oi := { dst := some 29, op := Op.load 9 (Operand.tmp 28), type := 9, pos := _, after := #[{ on := 11, ground := Ground.data }], guard := none }) (v := ?_) rfl (by kernel_rfl) (by kernel_rfl) (by kernel_rfl) (fun _ _ _ h => h) (Or.inl ⟨by rfl, ?_⟩) (by assumption) ?_
      rotate_left
      · intro w hSw; (try dsimp only at hSw); go_simp; (try with_reducible rfl)
      try simp only [Act.put, List.setIfInBounds_toArray, List.set_cons_zero, List.set_cons_succ]
      refine wpAnyH_take (i := 13) (oi := { dst := some 30, op := Op.binOp BinOp.add 9 (Operand.tmp 29) (Operand.const (Value.string { data := #[91, 93] })) 9, type := 9, pos := _, after := #[{ on := 12, ground := Ground.data }], guard := none }) (v := ?_) rfl (by kernel_rfl) (by kernel_rfl) (by kernel_rfl) (fun _ _ _ h => h) (Or.inl ⟨by rfl, ?_⟩) (by assumption) ?_
      rotate_left
      · intro w hSw; (try dsimp only at hSw); go_simp; (try with_reducible rfl)
      try simp only [Act.put, List.setIfInBounds_toArray, List.set_cons_zero, List.set_cons_succ]
      refine wpAnyH_ready (rs := [14]) (by kernel_rfl) (by simp) ?_
      refine AllReadyH.cons (o := { dst := some 31, op := Op.buildSlice 35 2 #[(0, Operand.tmp 23), (1, Operand.tmp 30)], type := 35, pos := _, after := #[{ on := 6, ground := Ground.data }, { on := 13, ground := Ground.data }], guard := none }) rfl (fun K hK => ?_) AllReadyH.nil
      go_simp
      have ta : Turn [] wr (wr.drew.alloc (.cells #[.string x.nm, .string (x.nm ++ ⟨#[91, 93]⟩)] 9)) := (Turn.refl [] wr).drew.alloc _
      have HTA := Lib.hid ta
      clear ta
      refine hK.out _ _ ?_ (fun hHeld => ?_)
      · exact HSS.out _ (HTA.out.more (by simp))
      clear hK K
      try simp only [Act.put, List.setIfInBounds_toArray, List.set_cons_zero, List.set_cons_succ]
      refine wpAnyH_ready (rs := [15]) (by kernel_rfl) (by simp) ?_
      refine AllReadyH.cons (o := { dst := some 32, op := Op.call { callee := Callee.builtin Builtin.append, args := #[Operand.tmp 17, Operand.tmp 31], argTypes := #[35, 35] }, type := 35, pos := _, after := #[{ on := 0, ground := Ground.data }, { on := 14, ground := Ground.data }], guard := none }) rfl (fun K hK => ?_) AllReadyH.nil
      refine step_appR rfl (.tmp 17) (.tmp 31) 35 rfl (wr.drew.alloc (.cells #[.string x.nm, .string (x.nm ++ ⟨#[91, 93]⟩)] 9)) 9 (.string ⟨#[]⟩) 1 16 Tryd.underlying35 rfl rfl (by omega) u3 (allT l k).length ((allT l k).map Value.string) (by simp [Act.eval, Act.put]) (Turn.owns HTA.out HK.out.1 (by simp)) (some ⟨wr.heap.size, 0, none⟩) 2 2 [.string x.nm, .string (x.nm ++ ⟨#[91, 93]⟩)] (by simp [Act.eval, Act.put]) (rws_two _ _ _ _) (by simp [Value.oneCell']) (by rw [allT_len]; unfold maxLen; omega) (by rw [allT_len]; omega) ?_
      intro v6 w6 ho6 t6 hb6
      have HO6 : Hid (OwnS w6 v6 (allT l (k + 1))) := Lib.hid (OwnS.grown (by rw [HNM.out]; exact ho6))
      have HT6 : Hid (Turn u3.ownBlock.toList wr w6) := Lib.hid ((HTA.out.more (by simp)).trans t6 (fun g hg => .inl hg))
      have HB6 : Hid (v6.ownBlock = u3.ownBlock ∨ v6.ownBlock = some (wr.heap.size + 1)) := Lib.hid (by simpa using hb6)
      clear ho6 t6 hb6
      refine hK.out _ _ ?_ (fun hHeld => ?_)
      · exact HSS.out _ HT6.out
      clear hK K
      try simp only [Act.put, List.setIfInBounds_toArray, List.set_cons_zero, List.set_cons_succ]
      refine wpAnyH_take (i := 16) (oi := { dst := some 3, op := Op.assign (Operand.tmp 32), type := 35, pos := _, after := #[{ on := 15, ground := Ground.data }, { on := 15, ground := Ground.chain }, { on := 0, ground := Ground.phase }, { on := 1, ground := Ground.phase }, { on := 2, ground := Ground.phase }, { on := 3, ground := Ground.phase }, { on := 4, ground := Ground.phase }, { on := 5, ground := Ground.phase }, { on := 6, ground := Ground.phase }, { on := 7, ground := Ground.phase }, { on := 8, ground := Ground.phase }, { on := 9, ground := Ground.phase }, { on := 10, ground := Ground.phase }, { on := 11, ground := Ground.phase }, { on := 12, ground := Ground.phase }, { on := 13, ground := Ground.phase }, { on := 14, ground := Ground.phase }, { on := 15, ground := Ground.phase }], guard := none }) (v := ?_) rfl (by kernel_rfl) (by kernel_rfl) (by kernel_rfl) (fun _ _ _ h => h) (Or.inl ⟨by rfl, ?_⟩) (by assumption) ?_
      rotate_left
      · intro w hSw; (try dsimp only at hSw); go_simp; (try with_reducible rfl)
      try simp only [Act.put, List.setIfInBounds_toArray, List.set_cons_zero, List.set_cons_succ]
      refine wpAnyH_done (by kernel_rfl) ?_ _
      go_wp2_with fail
      go_roundw
      case rel =>
        refine ⟨k + 1, by omega, by go_num, Lib.hid ⟨HO6.out, fun g hg => ?_, ?_⟩⟩
        · rcases HB6.out with h | h
          · exact HK.out.2.1 g (by rw [← h]; exact hg)
          · rw [h] at hg
            injection hg with hg
            have h5 := HK.out.2.2.size
            have := HS0.out
            omega
        · exact HK.out.2.2.trans HT6.out (fun g hg => .inr (by have h5 := HK.out.2.1 g (by simpa using hg); have := HS0.out; omega))
      case measure => simp [intOf]; omega
    · have hkm : k = min n 8 := by omega
      have HF : Hid (OwnS wr u3 (allT l (min n 8)) ∧ Turn [] w wr) := Lib.hid ⟨by rw [← hkm]; exact HK.out.1, HT0.out.trans' HK.out.2.2⟩
      by_cases h1 : k < n
      · have h8 : k = 8 := by omega
        subst h8
        clear hkm hkn hk
        have d1 : decide (((8 : Nat) : Int) < (n : Int)) = true := by simp; omega
        have d2 : decide ((8 : Int) < (n : Int)) = true := by simp; omega
        go_wp2_with fail
        go_ret
        exact ⟨_, rfl, HF.out⟩
      · obtain rfl : k = n := by omega
        clear hkm hkn hk h1
        have d1 : decide ((k : Int) < (k : Int)) = false := by simp
        go_wp2_with fail
        go_ret
        exact ⟨_, rfl, HF.out⟩
end Go.Proofs.YtbocejiclellfaaDoor

/- The types' methods: Elem, Class, Ref, Is. -/
set_option linter.unusedSimpArgs false
set_option linter.unusedVariables false
set_option linter.unusedSectionVars false
namespace Go.Proofs.YtbocejiclellfaaDoor
open Go.RowKit

attribute [local go_sem] eq_ptrT
theorem elT_nm (l : List K8) (s : ByteArray) {i : Nat} (h : elI l s = some i) : elT l s = nmL l i := by unfold elT; rw [h]
theorem elT_none (l : List K8) (s : ByteArray) (h : elI l s = none) : elT l s = ⟨#[]⟩ := by unfold elT; rw [h]
section
variable {A : Option Addr} {B : Nat} {l : List K8} {r t m sz : Nat} {V VO : Value} {x : Nat}
set_option maxHeartbeats 1600000 in
theorem tElem_any (W : World) (b : Ty A B l r t m sz V x VO W) (s : ByteArray) (hs : s.size ≤ 562949953421312) : Calls Tryd.prog 13 #[.pointer (some ⟨x, 0, none⟩), .string s] W fun e w' => e = .returned (.tuple #[.string (elT l s), .bool (elI l s).isSome]) ∧ Turn [] W w' := by
  have c0 : W.cell? ⟨x, 0, none⟩ = some (.pointer (some ⟨t, 0, none⟩)) := cell_of_row _ x 0 _ _ _ b.blk
  have c1 : W.cell? ⟨x, 1, none⟩ = some VO := cell_of_row _ x 1 _ _ _ b.blk
  have HC := Lib.hid (nelem_any (VO := VO) W b.bk s hs)
  have HBx : Hid (∀ w, Turn [] W w → w.cell? ⟨x, 0, none⟩ = some (.pointer (some ⟨t, 0, none⟩)) ∧ w.cell? ⟨x, 1, none⟩ = some VO) := Lib.hid fun w k => ⟨cell_of_row _ x 0 _ _ _ (k.heap b.blk (by simp)), cell_of_row _ x 1 _ _ _ (k.heap b.blk (by simp))⟩
  obtain ⟨o, ho⟩ : ∃ o, elI l s = o := ⟨_, rfl⟩
  rw [ho] at HC ⊢
  cases o with
  | none =>
    rw [elT_none l s ho]
    clear b ho
    go_enter Tryd.func13, Tryd.ntmps13
    go_wp2_with fail
    refine HC.out.mono ?_
    rintro e w1 ⟨rfl, t1⟩
    have HT1 := Lib.hid t1
    clear t1
    go_wp2_with fail
    go_ret2
    exact ⟨rfl, HT1.out⟩
  | some i =>
    rw [elT_nm l s ho]
    have HN : Hid (∀ w, Turn [] W w → Calls Tryd.prog 25 #[.agg #[.pointer (some ⟨t, 0, none⟩), VO], .int .i64 (i : Int)] w fun e w' => e = .returned (.string (nmL l i)) ∧ Turn [] w w') := Lib.hid fun w k => by
      have := lname_any (VO := VO) w (b.bk.turn k) (i : Int)
      rw [en_nm b.len b.snd] at this
      exact this
    obtain ⟨y, hy⟩ : ∃ y, nmL l i = y := ⟨_, rfl⟩
    rw [hy] at HN ⊢
    clear b ho hy
    go_enter Tryd.func13, Tryd.ntmps13
    go_wp2_with fail
    refine HC.out.mono ?_
    rintro e w1 ⟨rfl, t1⟩
    obtain ⟨d0, d1⟩ := HBx.out w1 t1
    have HN1 := Lib.hid (HN.out w1 t1)
    have HT1 := Lib.hid t1
    clear t1 c0 c1
    go_wp2_with fail
    refine HN1.out.mono ?_
    rintro e w2 ⟨rfl, t2⟩
    have HT2 := Lib.hid t2
    clear t2
    go_wp2_with fail
    go_ret2
    exact ⟨rfl, HT1.out.trans' HT2.out⟩
set_option maxHeartbeats 1600000 in
theorem tClass_any (W : World) (b : Ty A B l r t m sz V x VO W) (s : ByteArray) (hs : s.size ≤ 562949953421312) : Calls Tryd.prog 20 #[.pointer (some ⟨x, 0, none⟩), .string s] W fun e w' => e = .returned (.tuple #[.int .i64 (((clI l s).getD 0 : Nat) : Int), .bool (clI l s).isSome]) ∧ Turn [] W w' := by
  have c0 : W.cell? ⟨x, 0, none⟩ = some (.pointer (some ⟨t, 0, none⟩)) := cell_of_row _ x 0 _ _ _ b.blk
  have c1 : W.cell? ⟨x, 1, none⟩ = some VO := cell_of_row _ x 1 _ _ _ b.blk
  have HC := Lib.hid (nclass_any (VO := VO) W b.bk s hs)
  obtain ⟨y, hy⟩ : ∃ y, (clI l s).getD 0 = y := ⟨_, rfl⟩
  obtain ⟨k, hk⟩ : ∃ k, (clI l s).isSome = k := ⟨_, rfl⟩
  rw [hy, hk] at HC ⊢
  clear b hy hk
  go_enter Tryd.func20, Tryd.ntmps20
  go_wp2_with fail
  refine HC.out.mono ?_
  rintro e w1 ⟨rfl, t1⟩
  have HT1 := Lib.hid t1
  clear t1
  go_wp2_with fail
  go_ret2
  exact ⟨rfl, HT1.out⟩
set_option maxHeartbeats 1600000 in
theorem tRef_any (W : World) (b : Ty A B l r t m sz V x VO W) (s : ByteArray) (hs : s.size ≤ 562949953421312) : Calls Tryd.prog 19 #[.pointer (some ⟨x, 0, none⟩), .string s] W fun e w' => e = .returned (.bool (refB l s)) ∧ Turn [] W w' := by
  have HC := Lib.hid (tElem_any W b s hs)
  have HD : Hid (∀ w, Turn [] W w → Calls Tryd.prog 20 #[.pointer (some ⟨x, 0, none⟩), .string s] w fun e w' => e = .returned (.tuple #[.int .i64 (((clI l s).getD 0 : Nat) : Int), .bool (clI l s).isSome]) ∧ Turn [] w w') := Lib.hid fun w k => tClass_any w (b.turn k) s hs
  obtain ⟨y, hy⟩ : ∃ y, (clI l s).getD 0 = y := ⟨_, rfl⟩
  obtain ⟨k, hk⟩ : ∃ k, (clI l s).isSome = k := ⟨_, rfl⟩
  obtain ⟨z, hz⟩ : ∃ z, elT l s = z := ⟨_, rfl⟩
  obtain ⟨q, hq⟩ : ∃ q, (elI l s).isSome = q := ⟨_, rfl⟩
  obtain ⟨u, hu⟩ : ∃ u, decide (s = tNull) = u := ⟨_, rfl⟩
  have e2 : (s.toList == [110, 117, 108, 108]) = u := by rw [lit_list]; exact hu
  rw [show refB l s = (u || q || k) by unfold refB; rw [hu, hq, hk]]
  rw [hz, hq] at HC
  rw [hy, hk] at HD
  clear b hy hk hz hq hu
  go_enter Tryd.func19, Tryd.ntmps19
  go_wp2_with fail
  refine HC.out.mono ?_
  rintro e w1 ⟨rfl, t1⟩
  have HT1 := Lib.hid t1
  have HD1 := Lib.hid (HD.out w1 t1)
  clear t1
  go_wp2_with fail
  refine HD1.out.mono ?_
  rintro e w2 ⟨rfl, t2⟩
  have HT2 := Lib.hid t2
  clear t2
  cases u <;> cases q <;> cases k <;>
  · go_wp2_with fail
    go_ret
    exact ⟨rfl, HT1.out.trans' HT2.out⟩
set_option maxHeartbeats 3200000 in
theorem tIs_any (W : World) (b : Ty A B l r t m sz V x VO W) (P : Option Addr) (n c : Nat) (ts : List ByteArray) (hP : Txs W P ts) (hn : n = ts.length) (hl : n ≤ 1000000) (hs : ∀ s ∈ ts, s.size ≤ 562949953421312) : Calls Tryd.prog 10 #[.pointer (some ⟨x, 0, none⟩), .slice P n c] W fun e w' => e = .returned (.bool (ts.all (tyB l))) ∧ Turn [] W w' := by
  have HR : Hid (∀ w, Turn [] W w → ∀ s ∈ ts, Calls Tryd.prog 19 #[.pointer (some ⟨x, 0, none⟩), .string s] w fun e w' => e = .returned (.bool (refB l s)) ∧ Turn [] w w') := Lib.hid fun w k s h => tRef_any w (b.turn k) s (hs s h)
  have HN := Lib.hid hn
  have HP := Lib.hid hP
  clear b hn hP hs
  go_enter Tryd.func10, Tryd.ntmps10
  go_wp2_with fail
  go_loopw [9] (fun v9 wr => ∃ k : Nat, k ≤ n ∧ v9 = .int .i64 (k : Int) ∧ Hid (∀ (j : Nat) s, j < k → ts[j]? = some s → tyB l s = true) ∧ Hid (Turn [] W wr)) (fun v9 _ => n - (intOf v9).toNat)
  case atStart => exact ⟨0, Nat.zero_le _, rfl, Lib.hid fun j s h => by omega, Lib.hid (Turn.refl _ _)⟩
  case round =>
    obtain ⟨k, hk, rfl, HA, HT⟩ := hrel
    by_cases hkn : k < n
    · have d1 : decide ((k : Int) < (n : Int)) = true := by simp; omega
      have d2 : (k : Int) < (n : Int) := by omega
      obtain ⟨s, hs⟩ := at_lt (show k < ts.length by have := HN.out; omega)
      obtain ⟨g, off, rfl, hg, hc⟩ := HP.out.turn HT.out k s hs
      have HRs := Lib.hid (HR.out wr HT.out s (List.mem_of_getElem? hs))
      have HS := Lib.hid hs
      obtain ⟨i, hi⟩ : ∃ i, decide (s = tInt) = i := ⟨_, rfl⟩
      have e1 : (s.toList == [105, 110, 116]) = i := by rw [lit_list]; exact hi
      obtain ⟨rf, hrf⟩ : ∃ rf, refB l s = rf := ⟨_, rfl⟩
      have HTy : Hid (tyB l s = (i || rf)) := Lib.hid (by unfold tyB; rw [hi, hrf])
      rw [hrf] at HRs
      have HNX : Hid ((i || rf) = true → ∀ (j : Nat) s, j < k + 1 → ts[j]? = some s → tyB l s = true) := Lib.hid fun h j s' hj hs' => by
        rcases Nat.lt_or_ge j k with h3 | h3
        · exact HA.out j s' h3 hs'
        · have e : j = k := by omega
          subst e
          have := HS.out.symm.trans hs'
          injection this with e
          rw [← e, HTy.out, h]
      clear hs hg hi hrf
      cases i with
      | true =>
        go_wp2_with fail
        go_roundw
        case rel => exact ⟨k + 1, by omega, by go_num, Lib.hid (HNX.out (by simp)), HT⟩
        case measure => simp [intOf]; omega
      | false =>
        go_wp2_with fail
        refine HRs.out.mono ?_
        rintro e w1 ⟨rfl, t1⟩
        have HT1 := Lib.hid (HT.out.trans' t1)
        clear t1
        cases rf with
        | true =>
          go_wp2_with fail
          go_roundw
          case rel => exact ⟨k + 1, by omega, by go_num, Lib.hid (HNX.out (by simp)), HT1⟩
          case measure => simp [intOf]; omega
        | false =>
          have HF : Hid (ts.all (tyB l) = false) := Lib.hid (by
            rw [List.all_eq_false]
            exact ⟨s, List.mem_of_getElem? HS.out, by rw [HTy.out]; simp⟩)
          go_wp2_with fail
          go_ret
          exact ⟨by rw [HF.out]; rfl, HT1.out⟩
    · obtain rfl : k = n := by omega
      have d1 : decide ((k : Int) < (k : Int)) = false := by simp
      have HF : Hid (ts.all (tyB l) = true) := Lib.hid (by
        rw [List.all_eq_true]
        intro s hs
        obtain ⟨j, hj⟩ := List.getElem?_of_mem hs
        have h4 := (List.getElem?_eq_some_iff.1 hj).1
        exact HA.out j s (by have := HN.out; omega) hj)
      go_wp2_with fail
      go_ret
      exact ⟨by rw [HF.out]; rfl, HT.out⟩
end
end Go.Proofs.YtbocejiclellfaaDoor

/- The types' methods: Below. -/
set_option linter.unusedSimpArgs false
set_option linter.unusedVariables false
set_option linter.unusedSectionVars false
namespace Go.Proofs.YtbocejiclellfaaDoor
open Go.RowKit

attribute [local go_sem] eq_ptrT
section
variable {A : Option Addr} {B : Nat} {l : List K8} {r t m sz : Nat} {V VO : Value} {x : Nat}
set_option maxHeartbeats 1600000 in
theorem rises_any (kok : KOk l) (W : World) (b : Bk A B l r t m sz V W) (i j : Nat) : Calls Tryd.prog 21 #[.agg #[.pointer (some ⟨t, 0, none⟩), VO], .int .i64 (i : Int), .int .i64 (j : Int)] W fun e w' => e = .returned (.bool (hasB (abvL (esL l) [(i : Int)]) (j : Int))) ∧ Turn [] W w' := by
  obtain ⟨r0, hr0⟩ : ∃ r, W.heap.size = r := ⟨_, rfl⟩
  obtain ⟨W0, hW0⟩ : ∃ W', W.alloc (.cells #[.pointer (some ⟨t, 0, none⟩), VO] 61) = W' := ⟨_, rfl⟩
  have t0 : Turn [] W W0 := by rw [← hW0]; exact (Turn.refl [] W).alloc _
  have c0 : W0.cell? ⟨r0, 0, none⟩ = some (.pointer (some ⟨t, 0, none⟩)) := by rw [← hW0, ← hr0]; exact cell_of_row _ W.heap.size 0 _ _ _ (heap_alloc_new W _)
  have hok : EsOk (esL l) := esL_ok kok.len (fun c hc => (kok.nm c hc).2.2.2)
  have ta : Turn [] W0 (W0.alloc (.cells #[.int .i64 (i : Int)] 3)) := (Turn.refl [] W0).alloc _
  have HA := Lib.hid (above_any (b.tl.turn' (t0.trans' ta)) (fun k => by have := hok.few k; omega) (b.tb.turn' (t0.trans' ta)) (some ⟨W0.heap.size, 0, none⟩) 1 1 [(i : Int)] (ints_one W0 3 (i : Int)) rfl (by omega))
  have hG := gd_abv (Es := esL l) (by have := hok.n; omega) [(i : Int)]
  have hN := hok.n
  obtain ⟨L, hL⟩ : ∃ L, abvL (esL l) [(i : Int)] = L := ⟨_, rfl⟩
  rw [hL] at HA hG ⊢
  obtain ⟨nn, hnn⟩ : ∃ nn, L.length = nn := ⟨_, rfl⟩
  have HB : Hid (∀ (w : World) (A1 : Option Addr) (c1 : Nat), Ints w A1 L → Calls Tryd.prog 34 #[.slice A1 nn c1, .int .i64 (j : Int)] w fun e w' => ∃ k : Int, e = .returned (.tuple #[.int .i64 k, .bool (hasB L (j : Int))]) ∧ Turn [] w w') := Lib.hid fun w A1 c1 hi => bsInt_any A1 nn c1 L (j : Int) w hi hnn.symm (by have := hG.len; omega) hG.sd
  obtain ⟨hb, hhb⟩ : ∃ hb, hasB L (j : Int) = hb := ⟨_, rfl⟩
  rw [hhb] at HB ⊢
  have HNN := Lib.hid hnn
  have HT := Lib.hid (t0.trans' ta)
  have HW0 := Lib.hid hW0
  have HR0 := Lib.hid hr0
  clear b t0 hW0 hr0 hok kok ta hL hhb hG hN hnn
  go_enter Tryd.func21, Tryd.ntmps21
  go_upto_region 1 with fail
  rw [HR0.out, HW0.out]
  go_wp2_with fail
  refine HA.out.mono ?_
  rintro e w1 ⟨U, rfl, hU, t1⟩
  obtain ⟨A1, c1, rfl, hi, hc⟩ := hU.form
  have HB1 := Lib.hid (HB.out w1 A1 c1 hi)
  rw [HNN.out]
  have HT1 := Lib.hid (HT.out.trans' t1)
  clear hU hi hc t1
  go_wp2_with fail
  refine HB1.out.mono ?_
  rintro e w2 ⟨k, rfl, t2⟩
  have HT2 := Lib.hid t2
  clear t2
  go_wp2_with fail
  go_ret
  exact ⟨rfl, HT1.out.trans' HT2.out⟩
set_option maxHeartbeats 3200000 in
theorem tBelow_any (kok : KOk l) (W : World) (b : Ty A B l r t m sz V x VO W) (s u : ByteArray) (hs : s.size ≤ 562949953421312) (hu : u.size ≤ 562949953421312) : Calls Tryd.prog 11 #[.pointer (some ⟨x, 0, none⟩), .string s, .string u] W fun e w' => e = .returned (.bool (belB l s u)) ∧ Turn [] W w' := by
  by_cases hsu : s = u
  · subst hsu
    have e1 := tx_same s
    have ta : Turn [] W (W.alloc (.cells #[.string s] 9)) := (Turn.refl [] W).alloc _
    have HI := Lib.hid (tIs_any (W.alloc (.cells #[.string s] 9)) (b.turn ta) (some ⟨W.heap.size, 0, none⟩) 1 1 [s] (txs_one W 9 s) rfl (by omega) (fun z hz => by simp at hz; rw [hz]; exact hs))
    have HE : Hid (belB l s s = [s].all (tyB l)) := Lib.hid (by unfold belB; rw [if_pos rfl]; simp)
    obtain ⟨q, hq⟩ : ∃ q, [s].all (tyB l) = q := ⟨_, rfl⟩
    rw [hq] at HI HE
    clear b hq
    go_enter Tryd.func11, Tryd.ntmps11
    go_wp2_with fail
    refine HI.out.mono ?_
    rintro e w1 ⟨rfl, t1⟩
    have HT1 := Lib.hid (ta.trans' t1)
    clear t1
    go_wp2_with fail
    go_ret
    exact ⟨by rw [HE.out]; rfl, HT1.out⟩
  · have e1 := tx_other hsu
    by_cases hsn : s = tNull
    · have e2 : (s.toList == [110, 117, 108, 108]) = true := by rw [lit_list]; exact decide_eq_true hsn
      have HR := Lib.hid (tRef_any W b u hu)
      have HE : Hid (belB l s u = refB l u) := Lib.hid (by unfold belB; rw [if_neg hsu, if_pos hsn])
      obtain ⟨q, hq⟩ : ∃ q, refB l u = q := ⟨_, rfl⟩
      rw [hq] at HR HE
      clear b hq hsn hsu
      go_enter Tryd.func11, Tryd.ntmps11
      go_wp2_with fail
      refine HR.out.mono ?_
      rintro e w1 ⟨rfl, t1⟩
      have HT1 := Lib.hid t1
      clear t1
      go_wp2_with fail
      go_ret
      exact ⟨by rw [HE.out]; rfl, HT1.out⟩
    · have e2 : (s.toList == [110, 117, 108, 108]) = false := by rw [lit_list]; exact decide_eq_false hsn
      have HE : Hid (belB l s u = rtyB l (clI l s) (clI l u)) := Lib.hid (by unfold belB; rw [if_neg hsu, if_neg hsn])
      have HC1 := Lib.hid (tClass_any W b s hs)
      have HC2 : Hid (∀ w, Turn [] W w → Calls Tryd.prog 20 #[.pointer (some ⟨x, 0, none⟩), .string u] w fun e w' => e = .returned (.tuple #[.int .i64 (((clI l u).getD 0 : Nat) : Int), .bool (clI l u).isSome]) ∧ Turn [] w w') := Lib.hid fun w k => tClass_any w (b.turn k) u hu
      have HRi : Hid (∀ w, Turn [] W w → ∀ i j : Nat, Calls Tryd.prog 21 #[.agg #[.pointer (some ⟨t, 0, none⟩), VO], .int .i64 (i : Int), .int .i64 (j : Int)] w fun e w' => e = .returned (.bool (hasB (abvL (esL l) [(i : Int)]) (j : Int))) ∧ Turn [] w w') := Lib.hid fun w k i j => rises_any kok w (b.bk.turn k) i j
      have HBx : Hid (∀ w, Turn [] W w → w.cell? ⟨x, 0, none⟩ = some (.pointer (some ⟨t, 0, none⟩)) ∧ w.cell? ⟨x, 1, none⟩ = some VO) := Lib.hid fun w k => ⟨cell_of_row _ x 0 _ _ _ (k.heap b.blk (by simp)), cell_of_row _ x 1 _ _ _ (k.heap b.blk (by simp))⟩
      obtain ⟨o1, ho1⟩ : ∃ o, clI l s = o := ⟨_, rfl⟩
      obtain ⟨o2, ho2⟩ : ∃ o, clI l u = o := ⟨_, rfl⟩
      rw [ho1] at HC1 HE
      rw [ho2] at HC2 HE
      clear b ho1 ho2 hsn hsu
      go_enter Tryd.func11, Tryd.ntmps11
      go_wp2_with fail
      refine HC1.out.mono ?_
      rintro e w1 ⟨rfl, t1⟩
      have HT1 := Lib.hid t1
      have HC21 := Lib.hid (HC2.out w1 t1)
      clear t1
      go_wp2_with fail
      refine HC21.out.mono ?_
      rintro e w2 ⟨rfl, t2⟩
      have HT2 := Lib.hid (HT1.out.trans' t2)
      clear t2 HC21
      obtain ⟨d0, d1⟩ := HBx.out w2 HT2.out
      cases o1 with
      | none =>
        go_wp2_with fail
        go_ret
        exact ⟨by rw [HE.out]; rfl, HT2.out⟩
      | some i =>
        cases o2 with
        | none =>
          go_wp2_with fail
          go_ret
          exact ⟨by rw [HE.out]; rfl, HT2.out⟩
        | some j =>
          have HR := Lib.hid (HRi.out w2 HT2.out i j)
          have HE2 : Hid (belB l s u = hasB (abvL (esL l) [(i : Int)]) (j : Int)) := Lib.hid HE.out
          obtain ⟨q, hq⟩ : ∃ q, hasB (abvL (esL l) [(i : Int)]) (j : Int) = q := ⟨_, rfl⟩
          rw [hq] at HR HE2
          clear hq HE
          simp only [Option.getD_some, Option.isSome_some]
          go_wp2_with fail
          refine HR.out.mono ?_
          rintro e w3 ⟨rfl, t3⟩
          have HT3 := Lib.hid (HT2.out.trans' t3)
          clear t3
          go_wp2_with fail
          go_ret
          exact ⟨by rw [HE2.out]; rfl, HT3.out⟩
end
end Go.Proofs.YtbocejiclellfaaDoor

/- New of the types; made. -/
set_option linter.unusedSimpArgs false
set_option linter.unusedVariables false
set_option maxRecDepth 100000
namespace Go.Proofs.YtbocejiclellfaaDoor
open Go.RowKit

theorem eq_tab_none (w : World) : (binOp .eql 52 (.pointer none) (.pointer none)).run Tryd.prog w = .ok (.bool true) w := by kernel_rfl
theorem eq_tab_some (a : Addr) (w : World) : (binOp .eql 52 (.pointer (some a)) (.pointer none)).run Tryd.prog w = .ok (.bool false) w := by kernel_rfl
attribute [local go_sem] eq_tab_none eq_tab_some
set_option maxHeartbeats 1600000 in
theorem sNew_none (w : World) : Calls Tryd.prog 14 #[.pointer none] w fun e w' => e = .returned (.tuple #[.pointer none, .int .i64 2]) ∧ w = w' := by
  go_enter Tryd.func14, Tryd.ntmps14
  go_wp2_with fail
  go_ret2
  exact ⟨rfl, rfl⟩
set_option maxHeartbeats 1600000 in
theorem sNew_any {A : Option Addr} {B : Nat} {l : List K8} {r t m sz : Nat} {V : Value} (g : Rgt l) (W : World) (b : Bk A B l r t m sz V W) : Calls Tryd.prog 14 #[.pointer (some ⟨t, 0, none⟩)] W fun e w' => ∃ x VO, e = .returned (.tuple #[.pointer (some ⟨x, 0, none⟩), .int .i64 0]) ∧ Ty A B l r t m sz V x VO w' ∧ Turn [] W w' := by
  have HO := Lib.hid (order_any b.tl g.ok)
  have HB := Lib.hid b
  have HG := Lib.hid g
  clear b g
  go_enter Tryd.func14, Tryd.ntmps14
  go_wp2_with fail
  refine HO.out.mono ?_
  rintro e w1 ⟨U, rfl, hU, t1⟩
  obtain ⟨A1, c1, rfl, _, _⟩ := hU.form
  obtain ⟨N, hN⟩ : ∃ N, (ordL (esL l)).length = N := ⟨_, rfl⟩
  rw [hN] at hU ⊢
  have HU := Lib.hid (hU.mono (Nat.zero_le _))
  have HT1 := Lib.hid t1
  obtain ⟨x, hx⟩ : ∃ x, w1.heap.size = x := ⟨_, rfl⟩
  obtain ⟨W2, hW2⟩ : ∃ W, w1.alloc (.cells #[.pointer (some ⟨t, 0, none⟩), .slice A1 N c1] 65) = W := ⟨_, rfl⟩
  have t2 : Turn [] w1 W2 := by rw [← hW2]; exact (Turn.refl [] w1).alloc _
  have b2 : W2.heap[x]? = some (.cells #[.pointer (some ⟨t, 0, none⟩), .slice A1 N c1] 65 (0, 0)) := by rw [← hW2, ← hx]; exact heap_alloc_new w1 _
  have HTy : Hid (Ty A B l r t m sz V x (.slice A1 N c1) W2) := Lib.hid ⟨HB.out.turn (t1.trans' t2), b2, HU.out.turn' t2, HG.out.kok.len, HG.out.snd⟩
  have HT2 := Lib.hid (t1.trans' t2)
  have HW2 := Lib.hid hW2
  have HX := Lib.hid hx
  clear hU t1 hx hW2 t2 b2 hN
  go_wp2_with fail
  rw [HX.out, HW2.out]
  go_ret2
  exact ⟨x, _, rfl, HTy.out, HT2.out⟩
set_option maxHeartbeats 3200000 in
theorem made_any (A : Option Addr) (c B : Nat) (l : List K8) (m0 m1 m2 m3 m4 m5 m6 m7 m8 : Value) (g : Rgt l) (w : World) (hr : RdKs B w A l) (hB : B ≤ w.heap.size) (hT : Tab w) :
    Calls Tryd.prog 8 #[.agg #[.slice A l.length c, m0, m1, m2, m3, m4, m5, m6, m7, m8]] w fun e w' => ∃ r t m sz V x VO, e = .returned (.pointer (some ⟨x, 0, none⟩)) ∧ Ty A B l r t m sz V x VO w' ∧ Turn [] w w' := by
  obtain ⟨n, hn⟩ : ∃ n, l.length = n := ⟨_, rfl⟩
  obtain ⟨r, hrr⟩ : ∃ r, w.heap.size = r := ⟨_, rfl⟩
  obtain ⟨W0, hW0⟩ : ∃ W, w.alloc (.cells #[.slice A n c, m0, m1, m2, m3, m4, m5, m6, m7, m8] 30) = W := ⟨_, rfl⟩
  have t0 : Turn [] w W0 := by rw [← hW0]; exact (Turn.refl [] w).alloc _
  have b0 : W0.heap[r]? = some (.cells #[.slice A n c, m0, m1, m2, m3, m4, m5, m6, m7, m8] 30 (0, 0)) := by rw [← hW0, ← hrr]; exact heap_alloc_new w _
  have HNw := Lib.hid (show Calls Tryd.prog 18 #[.agg #[.slice A n c, m0, m1, m2, m3, m4, m5, m6, m7, m8]] W0 fun e w' => NwR l W0.heap.size e w' ∧ Turn [] W0 w' by
    rw [← hn]
    exact new_any A c B l m0 m1 m2 m3 m4 m5 m6 m7 m8 W0 (hr.turn t0 (by simp)) (by have := t0.size; omega) g.kok)
  have g0 : W0.cell? ⟨r, 0, none⟩ = some (.slice A n c) := cell_of_row W0 r 0 _ _ _ b0
  have g1 : W0.cell? ⟨r, 1, none⟩ = some m0 := cell_of_row W0 r 1 _ _ _ b0
  have g2 : W0.cell? ⟨r, 2, none⟩ = some m1 := cell_of_row W0 r 2 _ _ _ b0
  have g3 : W0.cell? ⟨r, 3, none⟩ = some m2 := cell_of_row W0 r 3 _ _ _ b0
  have g4 : W0.cell? ⟨r, 4, none⟩ = some m3 := cell_of_row W0 r 4 _ _ _ b0
  have g5 : W0.cell? ⟨r, 5, none⟩ = some m4 := cell_of_row W0 r 5 _ _ _ b0
  have g6 : W0.cell? ⟨r, 6, none⟩ = some m5 := cell_of_row W0 r 6 _ _ _ b0
  have g7 : W0.cell? ⟨r, 7, none⟩ = some m6 := cell_of_row W0 r 7 _ _ _ b0
  have g8 : W0.cell? ⟨r, 8, none⟩ = some m7 := cell_of_row W0 r 8 _ _ _ b0
  have g9 : W0.cell? ⟨r, 9, none⟩ = some m8 := cell_of_row W0 r 9 _ _ _ b0
  have HRD := Lib.hid (hr.turn t0 (by simp))
  have HTb := Lib.hid (hT.turn' t0)
  have HG := Lib.hid g
  have HT0 := Lib.hid t0
  have HW0 := Lib.hid hW0
  have HRR := Lib.hid hrr
  rw [hn]
  clear hr hrr hW0 t0 b0 hT g hn
  go_enter Tryd.func8, Tryd.ntmps8
  go_upto_region 1 with fail
  rw [HRR.out, HW0.out]
  go_wp2_with fail
  refine HNw.out.mono ?_
  rintro e w1 ⟨hN, t1⟩
  obtain ⟨t, m, sz, V, rfl, htl, hmp⟩ := new_rgt HG.out hN
  obtain ⟨W2, hW2⟩ : ∃ W, w1.alloc (.cells #[.int .i64 0, .int .i64 0, .int .i64 0] 50) = W := ⟨_, rfl⟩
  have t2 : Turn [] w1 W2 := by rw [← hW2]; exact (Turn.refl [] w1).alloc _
  have HT2 := Lib.hid (t1.trans' t2)
  have HS := Lib.hid (sNew_any (A := A) (B := B) (r := W0.heap.size) (m := m) (sz := sz) (V := V) HG.out W2 ⟨HRD.out.turn (t1.trans' t2) (by simp), htl.turn' t2, hmp.turn t2 (by simp), HTb.out.turn' (t1.trans' t2)⟩)
  have HW2 := Lib.hid hW2
  clear hN htl hmp t1 t2 hW2 HNw g0 g1 g2 g3 g4 g5 g6 g7 g8 g9
  unfold ftC
  go_upto_region 2 with fail
  rw [HW2.out]
  go_wp2_with fail
  refine HS.out.mono ?_
  rintro e w3 ⟨x, VO, rfl, hty, t3⟩
  have HTy := Lib.hid hty
  have HT3 := Lib.hid t3
  clear hty t3
  go_wp2_with fail
  go_ret
  exact ⟨_, _, _, _, _, _, _, rfl, HTy.out, (HT0.out.trans' HT2.out).trans' HT3.out⟩
end Go.Proofs.YtbocejiclellfaaDoor

/- right; awake: the document's example. -/
set_option linter.unusedSimpArgs false
set_option linter.unusedVariables false
set_option maxRecDepth 100000
namespace Go.Proofs.YtbocejiclellfaaDoor
open Go.RowKit

theorem fld_fault9 (e p q : Int) (w : World) : (Instr.field 50 (.agg #[.int .i64 e, .int .i64 p, .int .i64 q]) 0).run Tryd.prog w = .ok (.int .i64 e) w := by kernel_rfl
theorem eq_typ_some (a : Addr) (w : World) : (binOp .eql 33 (.pointer (some a)) (.pointer none)).run Tryd.prog w = .ok (.bool false) w := by kernel_rfl
attribute [local go_sem] fld_fault9 eq_ptrT
set_option maxHeartbeats 6400000 in
theorem right9_any (A : Option Addr) (c B : Nat) (l : List K8) (m0 m1 m2 m3 m4 m5 m6 m7 m8 : Value) (w : World) (hr : RdKs B w A l) (hnm : NmOk l) :
    Calls Tryd.prog 7 #[.agg #[.slice A l.length c, m0, m1, m2, m3, m4, m5, m6, m7, m8]] w fun e w' => ∃ b, e = .returned (.bool b) ∧ (b = true → smallB l = true ∧ Rgt l ∧ PlainL l) ∧ Turn [] w w' := by
  obtain ⟨n, hn⟩ : ∃ n, l.length = n := ⟨_, rfl⟩
  obtain ⟨r, hrr⟩ : ∃ r, w.heap.size = r := ⟨_, rfl⟩
  obtain ⟨W0, hW0⟩ : ∃ W, w.alloc (.cells #[.slice A n c, m0, m1, m2, m3, m4, m5, m6, m7, m8] 30) = W := ⟨_, rfl⟩
  have t0 : Turn [] w W0 := by rw [← hW0]; exact (Turn.refl [] w).alloc _
  have b0 : W0.heap[r]? = some (.cells #[.slice A n c, m0, m1, m2, m3, m4, m5, m6, m7, m8] 30 (0, 0)) := by rw [← hW0, ← hrr]; exact heap_alloc_new w _
  have HSm : Hid (∀ W, Turn [] W0 W → Calls Tryd.prog 15 #[.agg #[.slice A n c, m0, m1, m2, m3, m4, m5, m6, m7, m8]] W fun e w' => e = .returned (.bool (smallB l)) ∧ Turn [] W w') := Lib.hid fun W t => by
    rw [← hn]
    exact small_any8 A c B l m0 m1 m2 m3 m4 m5 m6 m7 m8 W ((hr.turn t0 (by simp)).turn t (by simp))
  have HFt : Hid (smallB l = true → ∀ W, Turn [] W0 W → Calls Tryd.prog 16 #[.agg #[.slice A n c, m0, m1, m2, m3, m4, m5, m6, m7, m8]] W fun e w' => FtR l e ∧ Turn [] W w') := Lib.hid fun hs W t => by
    rw [← hn]
    exact rfault_any A c B l m0 m1 m2 m3 m4 m5 m6 m7 m8 W ((hr.turn t0 (by simp)).turn t (by simp)) (small_ok hs hnm).1.len (fun c hc => ((small_ok hs hnm).1.nm c hc).2.2.2)
  have HPl : Hid (smallB l = true → ∀ W, Turn [] W0 W → Calls Tryd.prog 17 #[.agg #[.slice A n c, m0, m1, m2, m3, m4, m5, m6, m7, m8]] W fun e w' => ∃ b, e = .returned (.bool b) ∧ (b = true → PlainL l) ∧ Turn [] W w') := Lib.hid fun hs W t => by
    rw [← hn]
    exact plain_any A c B l m0 m1 m2 m3 m4 m5 m6 m7 m8 W ((hr.turn t0 (by simp)).turn t (by simp)) (small_ok hs hnm).1.len (fun x hx => (hnm x hx).1)
  have hcl : ∀ W, Turn [] W0 W → ∀ (i : Nat) (v : Value), (#[Value.slice A n c, m0, m1, m2, m3, m4, m5, m6, m7, m8] : Array Value)[i]? = some v → W.cell? ⟨r, i, none⟩ = some v := fun W t i v hv => (cell_of_row W r i _ _ _ (t.heap b0 (by simp))).trans hv
  have HCL := Lib.hid hcl
  have HT0 := Lib.hid t0
  have HW0 := Lib.hid hW0
  have HRR := Lib.hid hrr
  have HNM := Lib.hid hnm
  have HS0 := Lib.hid (HSm.out W0 (Turn.refl _ _))
  have g0 := HCL.out W0 (Turn.refl _ _) 0 _ rfl
  have g1 := HCL.out W0 (Turn.refl _ _) 1 _ rfl
  have g2 := HCL.out W0 (Turn.refl _ _) 2 _ rfl
  have g3 := HCL.out W0 (Turn.refl _ _) 3 _ rfl
  have g4 := HCL.out W0 (Turn.refl _ _) 4 _ rfl
  have g5 := HCL.out W0 (Turn.refl _ _) 5 _ rfl
  have g6 := HCL.out W0 (Turn.refl _ _) 6 _ rfl
  have g7 := HCL.out W0 (Turn.refl _ _) 7 _ rfl
  have g8 := HCL.out W0 (Turn.refl _ _) 8 _ rfl
  have g9 := HCL.out W0 (Turn.refl _ _) 9 _ rfl
  rw [hn]
  clear hr hnm hn hrr hW0 t0 b0 hcl
  go_enter Tryd.func7, Tryd.ntmps7
  go_upto_region 1 with fail
  rw [HRR.out, HW0.out]
  go_wp2_with fail
  refine HS0.out.mono ?_
  rintro e w1 ⟨rfl, t1⟩
  have HT1 := Lib.hid t1
  clear t1 HS0 g0 g1 g2 g3 g4 g5 g6 g7 g8 g9
  obtain ⟨sm, hsm⟩ : ∃ sm, smallB l = sm := ⟨_, rfl⟩
  rw [hsm]
  have HSB := Lib.hid hsm
  clear hsm
  cases sm with
  | false =>
    go_wp2_with fail
    go_ret
    exact ⟨false, rfl, (fun h => by cases h), HT0.out.trans' HT1.out⟩
  | true =>
    have HF1 := Lib.hid (HFt.out HSB.out w1 HT1.out)
    have g0 := HCL.out w1 (HT1.out) 0 _ rfl
    have g1 := HCL.out w1 (HT1.out) 1 _ rfl
    have g2 := HCL.out w1 (HT1.out) 2 _ rfl
    have g3 := HCL.out w1 (HT1.out) 3 _ rfl
    have g4 := HCL.out w1 (HT1.out) 4 _ rfl
    have g5 := HCL.out w1 (HT1.out) 5 _ rfl
    have g6 := HCL.out w1 (HT1.out) 6 _ rfl
    have g7 := HCL.out w1 (HT1.out) 7 _ rfl
    have g8 := HCL.out w1 (HT1.out) 8 _ rfl
    have g9 := HCL.out w1 (HT1.out) 9 _ rfl
    go_wp2_with fail
    refine HF1.out.mono ?_
    rintro e w2 ⟨hF, t2⟩
    have HT2 := Lib.hid (HT1.out.trans' t2)
    clear t2 HF1 g0 g1 g2 g3 g4 g5 g6 g7 g8 g9
    rcases ft_two (small_ok HSB.out HNM.out).1 hF with ⟨p, q, rfl⟩ | ⟨rfl, hg⟩
    · unfold ftC
      go_wp2_with fail
      go_ret
      exact ⟨false, rfl, (fun h => by cases h), HT0.out.trans' HT2.out⟩
    · have HG := Lib.hid hg
      have HP2 := Lib.hid (HPl.out HSB.out w2 HT2.out)
      have g0 := HCL.out w2 (HT2.out) 0 _ rfl
      have g1 := HCL.out w2 (HT2.out) 1 _ rfl
      have g2 := HCL.out w2 (HT2.out) 2 _ rfl
      have g3 := HCL.out w2 (HT2.out) 3 _ rfl
      have g4 := HCL.out w2 (HT2.out) 4 _ rfl
      have g5 := HCL.out w2 (HT2.out) 5 _ rfl
      have g6 := HCL.out w2 (HT2.out) 6 _ rfl
      have g7 := HCL.out w2 (HT2.out) 7 _ rfl
      have g8 := HCL.out w2 (HT2.out) 8 _ rfl
      have g9 := HCL.out w2 (HT2.out) 9 _ rfl
      clear hF hg
      unfold ftC
      go_wp2_with fail
      refine HP2.out.mono ?_
      rintro e w3 ⟨b, rfl, hb, t3⟩
      have HB := Lib.hid hb
      have HT3 := Lib.hid (HT2.out.trans' t3)
      clear t3 hb g0 g1 g2 g3 g4 g5 g6 g7 g8 g9
      go_wp2_with fail
      go_ret
      exact ⟨b, rfl, fun h => ⟨HSB.out, HG.out, HB.out h⟩, HT0.out.trans' HT3.out⟩
theorem ab_snd : ∀ j x, ([kA, kB] : List K8)[j]? = some x → sndB [kA, kB] j x = true := by
  intro j x hx
  match j, hx with
  | 0, hx => simp at hx; subst hx; decide +kernel
  | 1, hx => simp at hx; subst hx; decide +kernel
  | j + 2, hx => simp at hx
theorem climbTo_of {Es : List En} {F : Nat} : ∀ (k : Nat), (∀ j, j ≤ k → (climbC Es F j).p = []) → climbTo Es k (climbC Es F k)
  | 0, _ => rfl
  | k + 1, h => ⟨climbC Es F k, F, climbTo_of k (fun j hj => h j (by omega)), rfl, h (k + 1) (Nat.le_refl _)⟩
theorem ab_rgt : Rgt [kA, kB] where
  kok := ab_ok
  snd := ab_snd
  acy := by
    intro i hi
    have hok : EsOk (esL [kA, kB]) := esL_ok ab_ok.len (fun c hc => (ab_ok.nm c hc).2.2.2)
    have hto : climbTo (esL [kA, kB]) (esL [kA, kB]).length (climbC (esL [kA, kB]) 50 2) := by
      rw [esL_len]
      exact climbTo_of 2 (clAll_of _ ab_cl)
    have h := (round_says hok hto).1 i hi
    rw [ab_round] at h
    omega
theorem ab_b1 : belB [kA, kB] ⟨#[65]⟩ ⟨#[66]⟩ = true := by decide +kernel
theorem ab_b2 : belB [kA, kB] ⟨#[65, 91, 93]⟩ ⟨#[66, 91, 93]⟩ = false := by decide +kernel
theorem ab_b3 : belB [kA, kB] ⟨#[110, 117, 108, 108]⟩ ⟨#[65, 91, 93]⟩ = true := by decide +kernel
set_option maxHeartbeats 12800000 in
theorem awake9_any (w : World) (hT : Tab w) : Calls Tryd.prog 6 #[] w fun e w' => e = .returned (.bool true) ∧ Turn [] w w' := by
  obtain ⟨r, hr⟩ : ∃ r, w.heap.size = r := ⟨_, rfl⟩
  obtain ⟨W1, hW1⟩ : ∃ W, w.alloc (.cells abC 43) = W := ⟨_, rfl⟩
  have t1 : Turn [] w W1 := by rw [← hW1]; exact (Turn.refl [] w).alloc _
  have b1 : W1.heap[r]? = some (.cells abC 43 (0, 0)) := by rw [← hW1, ← hr]; exact heap_alloc_new w _
  have s1 : W1.heap.size = r + 1 := by rw [← hW1, ← hr]; simp
  have HMd := Lib.hid (fun m0 m1 m2 m3 m4 m5 m6 m7 m8 => made_any (some ⟨r, 0, none⟩) 2 (r + 1) [kA, kB] m0 m1 m2 m3 m4 m5 m6 m7 m8 ab_rgt W1 (ab_rd b1) (by omega) (hT.turn' t1))
  have HT1 := Lib.hid t1
  have HR := Lib.hid hr
  unfold abC at hW1
  have HW1 := Lib.hid hW1
  clear t1 b1 s1 hT hW1 hr
  go_enter Tryd.func6, Tryd.ntmps6
  go_wp2_with fail
  rw [HR.out, HW1.out]
  refine (HMd.out _ _ _ _ _ _ _ _ _).mono ?_
  rintro e w2 ⟨r0, t, m, sz, V, x, VO, rfl, hTy, t2⟩
  have HT2 := Lib.hid (HT1.out.trans' t2)
  have HBl : Hid (∀ W, Turn [] w2 W → ∀ s u : ByteArray, s.size ≤ 562949953421312 → u.size ≤ 562949953421312 → Calls Tryd.prog 11 #[.pointer (some ⟨x, 0, none⟩), .string s, .string u] W fun e w' => e = .returned (.bool (belB [kA, kB] s u)) ∧ Turn [] W w') := Lib.hid fun W k s u => tBelow_any ab_ok W (hTy.turn k) s u
  have HN := Lib.hid (sNew_none w2)
  clear hTy t2 HMd
  go_wp2_with fail
  refine HN.out.mono ?_
  rintro e w3 ⟨rfl, rfl⟩
  have HB1 := Lib.hid (HBl.out w2 (Turn.refl _ _) ⟨#[65]⟩ ⟨#[66]⟩ (by decide +kernel) (by decide +kernel))
  rw [ab_b1] at HB1
  go_wp2_with fail
  refine HB1.out.mono ?_
  rintro e w4 ⟨rfl, t4⟩
  have HT4 := Lib.hid t4
  have HB2 := Lib.hid (HBl.out w4 t4 ⟨#[65, 91, 93]⟩ ⟨#[66, 91, 93]⟩ (by decide +kernel) (by decide +kernel))
  rw [ab_b2] at HB2
  clear t4 HB1
  go_wp2_with fail
  refine HB2.out.mono ?_
  rintro e w5 ⟨rfl, t5⟩
  have HT5 := Lib.hid (HT4.out.trans' t5)
  have HB3 := Lib.hid (HBl.out w5 (HT4.out.trans' t5) ⟨#[110, 117, 108, 108]⟩ ⟨#[65, 91, 93]⟩ (by decide +kernel) (by decide +kernel))
  rw [ab_b3] at HB3
  clear t5 HB2
  go_wp2_with fail
  refine HB3.out.mono ?_
  rintro e w6 ⟨rfl, t6⟩
  have HT6 := Lib.hid (HT5.out.trans' t6)
  clear t6 HB3
  go_wp2_with fail
  go_ret
  exact ⟨rfl, HT2.out.trans' HT6.out⟩
end Go.Proofs.YtbocejiclellfaaDoor
