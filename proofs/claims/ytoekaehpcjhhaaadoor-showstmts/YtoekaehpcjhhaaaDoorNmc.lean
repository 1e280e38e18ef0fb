/- The reference's Names. -/
import Derived.Test.YtoekaehpcjhhaaaDoorSma
set_option linter.unusedSimpArgs false
set_option linter.unusedVariables false
namespace Go.Proofs.YtoekaehpcjhhaaaDoor
open Go.RowKit

/-- What Names answers for these statements. -/
def NmSaid (l : List St) : Prop := ∀ (A : Option Addr) (c B : Nat) (w : World), RdL B w A 0 l → Calls Tryd.prog 7 #[.slice A l.length c] w fun e w' => e = .returned (.bool (nmL l)) ∧ Turn [] w w'

theorem data_get {s : ByteArray} {k : Nat} (h : k < s.size) : (bs s)[k]? = some (s[k]'h) := by
  unfold bs
  rw [Array.getElem?_toList]
  exact Array.getElem?_eq_getElem h
theorem nm_bad {l : List St} {k : Nat} {s : St} (hs : l[k]? = some s) (h : nmS s = false) : nmL l = false := by
  cases hv : nmL l with
  | false => rfl
  | true => have := nmL_mem hv s (List.mem_of_getElem? hs); rw [h] at this; cases this
theorem cat_all (x y z t f : ByteArray) (ag : List ByteArray) (hs : x.size ≤ 1000 ∧ y.size ≤ 1000 ∧ z.size ≤ 1000 ∧ t.size ≤ 1000 ∧ f.size ≤ 1000) (ha : ag.length ≤ 1000 ∧ ∀ a ∈ ag, a.size ≤ 1000) : (cat ag).size ≤ 1000000 ∧ (cat [x, y, z, t, f, cat ag]).size ≤ 2000000 := by
  have h1 : (cat ag).size ≤ 1000000 := by
    have := size_jn_le ag ⟨#[]⟩ 1000 0 ha.2 (by decide)
    rw [jn_none] at this
    have h2 : ag.length * (1000 + 0) ≤ 1000 * (1000 + 0) := Nat.mul_le_mul_right _ ha.1
    omega
  refine ⟨h1, ?_⟩
  rw [size_cat]
  simp only [List.map_cons, List.map_nil, List.sum_cons, List.sum_nil]
  omega

set_option maxHeartbeats 8000000 in
set_option maxRecDepth 100000 in
theorem names_of (l : List St) (hlen : l.length ≤ 1000000) (hs : ∀ d x y z t f ag n bd ot ln cl, .mk d x y z t f ag n bd ot ln cl ∈ l → NmSaid bd ∧ NmSaid ot ∧ FtS (.mk d x y z t f ag n bd ot ln cl)) : NmSaid l := by
  intro A c B w hr
  have HS := Lib.hid hs
  have HR := Lib.hid hr
  obtain ⟨n, hn⟩ : ∃ n, l.length = n := ⟨_, rfl⟩
  have HN := Lib.hid hn
  rw [hn] at hlen ⊢
  obtain ⟨V, hV⟩ : ∃ V, nmL l = V := ⟨_, rfl⟩
  rw [hV]
  have HV := Lib.hid hV
  clear hs hr hn hV
  go_enter Tryd.func7, Tryd.ntmps7
  go_wp2_with fail
  go_loopw [3] (fun i wr => ∃ k : Nat, k ≤ n ∧ i = .int .i64 (k : Int) ∧ Hid (nmL (l.take k) = true ∧ Turn [] w wr)) (fun i _ => n - (intOf i).toNat)
  case atStart => exact ⟨0, Nat.zero_le _, rfl, Lib.hid ⟨by rw [List.take_zero, nmL_nil], Turn.refl _ _⟩⟩
  case round =>
    obtain ⟨k, hk, rfl, HW⟩ := hrel
    by_cases hlt : k < n
    · have hT1 := HW.out.2
      obtain ⟨s, hsk⟩ := at_lt (l := l) (k := k) (by rw [HN.out]; exact hlt)
      obtain ⟨g, off, cs, rfl, hgB, hgl, hcell, hRd⟩ := RdL.at (HR.out.turn hT1 (by simp) l) hsk
      rw [Nat.zero_add] at hcell
      have HSK := Lib.hid hsk
      have HT1 := Lib.hid hT1
      obtain ⟨d, x, y, z, t, f, ag, nn, bd, ot, lin, cl⟩ := s
      obtain ⟨hBd, hOt, hft⟩ := HS.out _ _ _ _ _ _ _ _ _ _ _ _ (List.mem_of_getElem? hsk)
      obtain ⟨_, hsz, ha, _, _⟩ := hft.parts
      obtain ⟨A1, c1, A2, c2, A3, c3, rfl, k1, k2, k3, r1, r1B, r2, r3⟩ := hRd.cells
      have e0 : wr.cell? ⟨g, off + k * 12, none⟩ = some (.int .i64 d) := hcell 0 _ rfl
      have e1 := hcell 1 _ rfl
      have e2 := hcell 2 _ rfl
      have e3 := hcell 3 _ rfl
      have e4 := hcell 4 _ rfl
      have e5 := hcell 5 _ rfl
      have e6 := hcell 6 _ rfl
      have e7 := hcell 7 _ rfl
      have e8 := hcell 8 _ rfl
      have e9 := hcell 9 _ rfl
      have e10 := hcell 10 _ rfl
      have e11 := hcell 11 _ rfl
      have tA := bx wr #[.int .i64 d, .string x, .string y, .string z, .string t, .string f, .slice A1 ag.length c1, .int .i64 nn, .slice A2 bd.length c2, .slice A3 ot.length c3, .int .i64 lin, .int .i64 cl] 27
      obtain ⟨W, hW⟩ : ∃ W, wr.alloc (.cells #[.int .i64 d, .string x, .string y, .string z, .string t, .string f, .slice A1 ag.length c1, .int .i64 nn, .slice A2 bd.length c2, .slice A3 ot.length c3, .int .i64 lin, .int .i64 cl] 27) = W := ⟨_, rfl⟩
      have hg : W.heap[wr.heap.size]? = some (.cells #[.int .i64 d, .string x, .string y, .string z, .string t, .string f, .slice A1 ag.length c1, .int .i64 nn, .slice A2 bd.length c2, .slice A3 ot.length c3, .int .i64 lin, .int .i64 cl] 27 (0, 0)) := by rw [← hW]; exact heap_alloc_new wr _
      rw [hW] at tA
      obtain ⟨ca, cb⟩ := cat_all x y z t f ag hsz ha
      have HBD := Lib.hid (fun w' (ht : Turn [] W w') => hBd A2 c2 B w' ((r2.turn tA (by simp) bd).turn ht (by simp) bd))
      have HOT := Lib.hid (fun w' (ht : Turn [] W w') => hOt A3 c3 B w' ((r3.turn tA (by simp) ot).turn ht (by simp) ot))
      have HJ1 := Lib.hid (fun w' (ht : Turn [] W w') => rjoin_any A1 c1 ag ⟨#[]⟩ w' ((r1.turn' tA).turn' ht) (by omega) (by rw [jn_none]; omega))
      rw [jn_none] at HJ1
      obtain ⟨CA, hCA⟩ : ∃ q, cat ag = q := ⟨_, rfl⟩
      obtain ⟨TT, hTT⟩ : ∃ q, cat [x, y, z, t, f, CA] = q := ⟨_, rfl⟩
      have HNS : Hid (nmS (.mk d x y z t f ag nn bd ot lin cl) = (big TT && (nmL bd && nmL ot))) := Lib.hid (by rw [nmS_eq, hCA, hTT])
      rw [hCA, hTT] at cb
      rw [hCA] at HJ1
      have HJ2 : Hid (∀ W2, Turn [] (W.alloc (.cells #[.string x, .string y, .string z, .string t, .string f, .string CA] 9)) W2 → Calls Tryd.prog 11 #[.slice (some ⟨W.heap.size, 0, none⟩) 6 6, .string ⟨#[]⟩] W2 fun e w' => e = .returned (.string TT) ∧ W2 = w') := Lib.hid (fun W2 ht => by
        have := rjoin_any (some ⟨W.heap.size, 0, none⟩) 6 [x, y, z, t, f, CA] ⟨#[]⟩ W2 ((sts_new W [x, y, z, t, f, CA] _ rfl).turn' ht) (by simp) (by rw [jn_none, hTT]; omega)
        rw [jn_none, hTT] at this
        exact this)
      have gs : ∀ (j : Nat) (v : Value), (#[.int .i64 d, .string x, .string y, .string z, .string t, .string f, .slice A1 ag.length c1, .int .i64 nn, .slice A2 bd.length c2, .slice A3 ot.length c3, .int .i64 lin, .int .i64 cl] : Array Value)[j]? = some v → W.cell? ⟨wr.heap.size, j, none⟩ = some v := fun j v hv => (cell_of_row W _ j _ _ _ hg).trans hv
      have m1 := gs 1 _ rfl
      have m2 := gs 2 _ rfl
      have m3 := gs 3 _ rfl
      have m4 := gs 4 _ rfl
      have m5 := gs 5 _ rfl
      have m6 := gs 6 _ rfl
      have HWE := Lib.hid hW
      have HG := Lib.hid gs
      have HTA := Lib.hid tA
      have hWl : wr.heap.size < W.heap.size := (Array.getElem?_eq_some_iff.1 hg).1
      clear hsk hRd hT1 hcell r1 r2 r3 r1B tA hW hg hBd hOt hft hsz ha gs hCA hTT ca
      go_upto_region 5 with fail
      rw [HWE.out]
      go_region_held3 (fun w' => w'.cell? ⟨wr.heap.size, 1, none⟩ = some (.string x) ∧ w'.cell? ⟨wr.heap.size, 2, none⟩ = some (.string y) ∧ w'.cell? ⟨wr.heap.size, 3, none⟩ = some (.string z) ∧ w'.cell? ⟨wr.heap.size, 4, none⟩ = some (.string t) ∧ w'.cell? ⟨wr.heap.size, 5, none⟩ = some (.string f) ∧ w'.cell? ⟨wr.heap.size, 6, none⟩ = some (.slice A1 ag.length c1))
        (first | exact ⟨m1, m2, m3, m4, m5, m6⟩ | exact ⟨p1, p2, p3, p4, p5, p6⟩ | go_keep)
        (first
          | (go_at_call 11; (with_reducible refine (HJ1.out W.drew (by exact (Turn.refl [] W).drew)).mono ?_); rintro e w2 ⟨rfl, rfl⟩)
          | (go_at_call 11; (with_reducible refine (HJ2.out _ (by exact (Turn.refl [] _).drew)).mono ?_); rintro e w3 ⟨rfl, rfl⟩)
          | fail)
      go_wp2_with fail
      obtain ⟨w0, hw0⟩ : ∃ q, q = wr := ⟨_, rfl⟩
      subst hw0
      go_loopw [6] (fun i wi => ∃ j : Nat, j ≤ TT.size ∧ i = .int .i64 (j : Int) ∧ Hid ((∀ c ∈ (bs TT).take j, 32 < c.toNat) ∧ Turn [] W wi)) (fun i _ => TT.size - (intOf i).toNat)
      case atStart => exact ⟨0, Nat.zero_le _, rfl, Lib.hid ⟨by simp, (bx W _ _).drew⟩⟩
      case round =>
        obtain ⟨j, hj, rfl, HJ⟩ := hrel
        by_cases hjl : j < TT.size
        · have f1 : decide ((j : Int) < (TT.size : Int)) = true := by simp; omega
          have f2 : (j : Int) < (TT.size : Int) := by omega
          have HDG := Lib.hid (data_get hjl)
          obtain ⟨ci, hci⟩ : ∃ ci, TT[j].toNat = ci := ⟨_, rfl⟩
          have HCI := Lib.hid hci
          by_cases h32 : ci ≤ 32
          · have g1 : (ci : Int) ≤ 32 := by omega
            have HG : Hid (V = false) := Lib.hid (by
              rw [← HV.out]
              refine nm_bad HSK.out ?_
              rw [HNS.out]
              have : big TT = false := by
                cases hb : big TT with
                | false => rfl
                | true =>
                  have := big_iff.1 hb _ (List.mem_of_getElem? HDG.out)
                  rw [HCI.out] at this
                  omega
              rw [this]; rfl)
            rw [← hci] at g1 h32
            clear hci
            go_wp2_with fail
            go_ret
            exact ⟨ret_bool HG.out.symm, (HT1.out.trans' HTA.out).trans' HJ.out.2⟩
          · have g1 : ¬ (ci : Int) ≤ 32 := by omega
            rw [← hci] at g1 h32
            clear hci
            go_wp2_with fail
            go_roundw
            case rel =>
              refine ⟨j + 1, by omega, by go_num, Lib.hid ⟨?_, HJ.out.2⟩⟩
              rw [take_snoc HDG.out]
              intro c hc
              rcases List.mem_append.1 hc with hc | hc
              · exact HJ.out.1 c hc
              · simp at hc; subst hc; omega
            case measure => simp [intOf]; omega
        · have hjn : j = TT.size := by omega
          subst hjn
          have f1 : decide ((TT.size : Int) < (TT.size : Int)) = false := by simp
          have HBig : Hid (big TT = true) := Lib.hid (big_iff.2 (by
            have := HJ.out.1
            rwa [List.take_of_length_le (by rw [← size_bs]; exact Nat.le_refl _)] at this))
          have HTW := Lib.hid HJ.out.2
          have q8 : wr.cell? ⟨w0.heap.size, 8, none⟩ = some (.slice A2 bd.length c2) := (HTW.out.cell (p := ⟨w0.heap.size, 8, none⟩) hWl (by simp)).trans (HG.out 8 _ rfl)
          have HC1 := Lib.hid (HBD.out wr HTW.out)
          clear HJ
          go_wp2_with fail
          refine HC1.out.mono ?_
          rintro e w5 ⟨rfl, t5⟩
          have HT5 := Lib.hid (HTW.out.trans' t5)
          clear t5 q8
          cases hb1 : nmL bd with
          | false =>
            have HGF : Hid (V = false) := Lib.hid (by
              rw [← HV.out]
              refine nm_bad HSK.out ?_
              rw [HNS.out, hb1, Bool.false_and, Bool.and_false])
            go_wp2_with fail
            go_ret
            exact ⟨ret_bool HGF.out.symm, (HT1.out.trans' HTA.out).trans' HT5.out⟩
          | true =>
            have HB1 := Lib.hid hb1
            clear hb1
            have q9 : w5.cell? ⟨w0.heap.size, 9, none⟩ = some (.slice A3 ot.length c3) := (HT5.out.cell (p := ⟨w0.heap.size, 9, none⟩) hWl (by simp)).trans (HG.out 9 _ rfl)
            have HC2 := Lib.hid (HOT.out w5 HT5.out)
            go_wp2_with fail
            refine HC2.out.mono ?_
            rintro e w6 ⟨rfl, t6⟩
            have HT6 := Lib.hid (HT5.out.trans' t6)
            clear t6 q9
            cases hb2 : nmL ot with
            | false =>
              have HGF : Hid (V = false) := Lib.hid (by
                rw [← HV.out]
                refine nm_bad HSK.out ?_
                rw [HNS.out, hb2, Bool.and_false, Bool.and_false])
              go_wp2_with fail
              go_ret
              exact ⟨ret_bool HGF.out.symm, (HT1.out.trans' HTA.out).trans' HT6.out⟩
            | true =>
              have HGT : Hid (nmS (.mk d x y z t f ag nn bd ot lin cl) = true) := Lib.hid (by rw [HNS.out, HBig.out, HB1.out, hb2]; rfl)
              clear hb2
              go_wp2_with fail
              go_roundw
              case rel => exact ⟨k + 1, by omega, by go_num, Lib.hid ⟨by rw [nmL_take_succ HSK.out, HW.out.1, HGT.out]; rfl, (HT1.out.trans' HTA.out).trans' HT6.out⟩⟩
              case measure => simp [intOf]; omega
    · have hkn : k = n := by omega
      subst hkn
      have HG : Hid (V = true) := Lib.hid (by
        have := HW.out.1
        rw [List.take_of_length_le (by rw [HN.out]; exact Nat.le_refl _)] at this
        rw [← HV.out]; exact this)
      go_wp2_with fail
      go_ret
      exact ⟨ret_bool HG.out.symm, HW.out.2⟩

mutual
theorem namesS : ∀ (s : St), FtS s → LnS s → ∀ d x y z t f ag n bd ot ln cl, s = .mk d x y z t f ag n bd ot ln cl → NmSaid bd ∧ NmSaid ot
  | .mk d x y z t f ag n bd ot ln cl, hf, hl, d', x', y', z', t', f', ag', n', bd', ot', ln', cl', e => by
    have hp := hf.parts
    rw [LnS] at hl
    injection e with _ _ _ _ _ _ _ _ e1 e2
    subst e1 e2
    exact ⟨names_of bd (by omega) (namesL bd hp.2.2.2.1 hl.2.2.1), names_of ot (by omega) (namesL ot hp.2.2.2.2 hl.2.2.2)⟩
theorem namesL : ∀ (l : List St), FtL l → LnL l → ∀ d x y z t f ag n bd ot ln cl, .mk d x y z t f ag n bd ot ln cl ∈ l → NmSaid bd ∧ NmSaid ot ∧ FtS (.mk d x y z t f ag n bd ot ln cl)
  | [], _, _ => by simp
  | s :: l, hf, hl => by
    rw [FtL] at hf
    rw [LnL] at hl
    intro d x y z t f ag n bd ot ln cl hu
    rcases List.mem_cons.1 hu with e | hu
    · have := namesS s hf.1 hl.1 d x y z t f ag n bd ot ln cl e.symm
      exact ⟨this.1, this.2, by rw [e]; exact hf.1⟩
    · exact namesL l hf.2 hl.2 d x y z t f ag n bd ot ln cl hu
end
theorem names_any (l : List St) (hf : FtL l) (hl : LnL l) (hn : l.length ≤ 1000000) : NmSaid l := names_of l hn (namesL l hf hl)
end Go.Proofs.YtoekaehpcjhhaaaDoor
