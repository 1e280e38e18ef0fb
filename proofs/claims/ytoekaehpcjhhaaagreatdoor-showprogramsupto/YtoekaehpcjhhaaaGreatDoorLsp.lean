/- The law's small. -/
import Derived.Test.YtoekaehpcjhhaaaGreatDoorLsm
import Derived.Test.YtoekaehpcjhhaaaGreatDoorPms
set_option linter.unusedSimpArgs false
set_option linter.unusedVariables false
namespace Go.Proofs.YtoekaehpcjhhaaaGreatDoor
open Go.RowKit

def OkC (c : Cl) : Prop := (∀ m ∈ c.ms, OkM m) ∧ ∀ m, c.init = some m → OkM m
def OkP (p : Pr) : Prop := OkM p.main ∧ ∀ c ∈ p.cs, OkC c
theorem sm_bad {l : List Cl} {k : Nat} {c : Cl} (hs : l[k]? = some c) (h : smC c = false) : l.all smC = false := by
  rw [List.all_eq_false]
  exact ⟨c, List.mem_of_getElem? hs, by simp [h]⟩

set_option maxHeartbeats 16000000 in
set_option maxRecDepth 100000 in
theorem lsmall_any (B : Nat) (cs : List Value) (p : Pr) (w : World) (hr : RdP B w cs p) (ho : OkP p) :
    Calls Tryz.prog 5 #[.agg cs.toArray] w fun e w' => e = .returned (.bool (smP p)) ∧ Turn [] w w' := by
  obtain ⟨A0, c0, mc, rfl, hcs, hmn⟩ := hr
  have hmn0 := hmn
  obtain ⟨A1, c1, A2, c2, A3, c3, x, y, rfl, _, _, _⟩ := hmn
  have tA := bx w #[.slice A0 p.cs.length c0, .string p.main.ret, .string p.main.name, .bool p.main.stat, .bool p.main.bare, .slice A1 p.main.ps.length c1, .slice A2 p.main.ls.length c2, .slice A3 p.main.bd.length c3, .int .i64 x, .int .i64 y] 30
  obtain ⟨W, hW⟩ : ∃ W, w.alloc (.cells #[.slice A0 p.cs.length c0, .string p.main.ret, .string p.main.name, .bool p.main.stat, .bool p.main.bare, .slice A1 p.main.ps.length c1, .slice A2 p.main.ls.length c2, .slice A3 p.main.bd.length c3, .int .i64 x, .int .i64 y] 30) = W := ⟨_, rfl⟩
  have hg : W.heap[w.heap.size]? = some (.cells #[.slice A0 p.cs.length c0, .string p.main.ret, .string p.main.name, .bool p.main.stat, .bool p.main.bare, .slice A1 p.main.ps.length c1, .slice A2 p.main.ls.length c2, .slice A3 p.main.bd.length c3, .int .i64 x, .int .i64 y] 30 (0, 0)) := by rw [← hW]; exact heap_alloc_new w _
  rw [hW] at tA
  have HRC := Lib.hid (fun w' (ht : Turn [] W w') => (hcs.turn tA (by simp)).turn ht (by simp))
  have HMa := Lib.hid (lmethod_any B _ p.main W (hmn0.turn tA (by simp)) ho.1)
  have HOK := Lib.hid ho.2
  obtain ⟨nc, hnc⟩ : ∃ q, p.cs.length = q := ⟨_, rfl⟩
  have HNC := Lib.hid hnc
  have HSP : Hid (smP p = (decide (nc ≤ 6) && (smM p.main && p.cs.all smC))) := Lib.hid (by unfold smP; rw [hnc])
  rw [hnc] at hg hW ⊢
  obtain ⟨R, hR⟩ : ∃ R, smP p = R := ⟨_, rfl⟩
  rw [hR] at HSP ⊢
  have HC0 := Lib.hid (fun (w' : World) (ht : Turn [] W w') => (show w'.cell? ⟨w.heap.size, 0, none⟩ = some (.slice A0 nc c0) from cell_of_row w' _ 0 _ _ _ (ht.heap hg (by simp))))
  have HT := Lib.hid tA
  have HWW := Lib.hid hW
  clear hcs hmn0 tA hW hg hnc hR ho
  by_cases g6 : 6 < nc
  · have g6I : (6 : Int) < (nc : Int) := by omega
    have HF : Hid (R = false) := Lib.hid (by
      have : ¬ nc ≤ 6 := by omega
      rw [HSP.out]; simp [this])
    go_enter Tryz.func5, Tryz.ntmps5
    go_wp2_with fail
    go_ret
    rw [HWW.out]
    exact ⟨ret_bool HF.out.symm, HT.out⟩
  · have g6I : ¬ (6 : Int) < (nc : Int) := by omega
    go_enter Tryz.func5, Tryz.ntmps5
    go_wp2_with fail
    rw [HWW.out]
    refine HMa.out.mono ?_
    rintro e w1 ⟨rfl, t1⟩
    have HT1 := Lib.hid t1
    clear t1
    cases hmm : smM p.main with
    | false =>
      have HF : Hid (R = false) := Lib.hid (by rw [HSP.out, hmm]; simp)
      go_wp2_with fail
      go_ret
      exact ⟨ret_bool HF.out.symm, HT.out.trans' HT1.out⟩
    | true =>
      obtain ⟨V, hV⟩ : ∃ V, p.cs.all smC = V := ⟨_, rfl⟩
      have HF : Hid (R = V) := Lib.hid (by
        have : nc ≤ 6 := by omega
        rw [HSP.out, hmm, hV]; simp [this])
      have HV := Lib.hid hV
      have z0 := HC0.out w1 HT1.out
      clear hmm hV
      go_wp2_with fail
      go_loopw [3] (fun i wr => ∃ k : Nat, k ≤ nc ∧ i = .int .i64 (k : Int) ∧ Hid ((p.cs.take k).all smC = true ∧ Turn [] W wr)) (fun i _ => nc - (intOf i).toNat)
      case atStart => exact ⟨0, Nat.zero_le _, rfl, Lib.hid ⟨by simp, HT1.out⟩⟩
      case round =>
        obtain ⟨k, hk, rfl, HW⟩ := hrel
        have z1 := HC0.out wr HW.out.2
        by_cases hlt : k < nc
        · obtain ⟨c, hsk⟩ := at_lt (l := p.cs) (k := k) (by rw [HNC.out]; exact hlt)
          obtain ⟨g, off, cs, hA0, ⟨_, hgB, hgl, hcell⟩, hRd⟩ := HRC.out wr HW.out.2 k c hsk
          subst hA0
          simp only at hcell hgl
          have HOC := Lib.hid (HOK.out c (List.mem_of_getElem? hsk))
          have HSK := Lib.hid hsk
          obtain ⟨B3, b3, B4, b4, B5, b5, B6, b6, I, p1, q1, rfl, _, _, _, _, _, r6, r7⟩ := hRd
          have e0 : wr.cell? ⟨g, off + k * 10, none⟩ = some (.string c.name) := hcell 0 _ rfl
          have e1 := hcell 1 _ rfl
          have e2 := hcell 2 _ rfl
          have e3 := hcell 3 _ rfl
          have e4 := hcell 4 _ rfl
          have e5 := hcell 5 _ rfl
          have e6 := hcell 6 _ rfl
          have e7 := hcell 7 _ rfl
          have e8 := hcell 8 _ rfl
          have e9 := hcell 9 _ rfl
          have tC := bx wr #[.string c.name, .string c.super, .bool c.face, .slice B3 c.faces.length b3, .slice B4 c.fs.length b4, .slice B5 c.ss.length b5, .slice B6 c.ms.length b6, .pointer I, .int .i64 p1, .int .i64 q1] 43
          obtain ⟨WC, hWC⟩ : ∃ WC, wr.alloc (.cells #[.string c.name, .string c.super, .bool c.face, .slice B3 c.faces.length b3, .slice B4 c.fs.length b4, .slice B5 c.ss.length b5, .slice B6 c.ms.length b6, .pointer I, .int .i64 p1, .int .i64 q1] 43) = WC := ⟨_, rfl⟩
          have hgC : WC.heap[wr.heap.size]? = some (.cells #[.string c.name, .string c.super, .bool c.face, .slice B3 c.faces.length b3, .slice B4 c.fs.length b4, .slice B5 c.ss.length b5, .slice B6 c.ms.length b6, .pointer I, .int .i64 p1, .int .i64 q1] 43 (0, 0)) := by rw [← hWC]; exact heap_alloc_new wr _
          rw [hWC] at tC
          have HR6 := Lib.hid (fun w' (ht : Turn [] WC w') => (r6.turn tC (by simp)).turn ht (by simp))
          have hI := r7.turn tC (by simp)
          obtain ⟨nf, hnf⟩ : ∃ q, c.faces.length = q := ⟨_, rfl⟩
          obtain ⟨n4, hn4⟩ : ∃ q, c.fs.length = q := ⟨_, rfl⟩
          obtain ⟨n5, hn5⟩ : ∃ q, c.ss.length = q := ⟨_, rfl⟩
          obtain ⟨n6, hn6⟩ : ∃ q, c.ms.length = q := ⟨_, rfl⟩
          have HN6 := Lib.hid hn6
          have HBad : Hid ((decide (c.faces.length ≤ 4) && (decide (c.fs.length ≤ 6) && (decide (c.ss.length ≤ 6) && (decide (c.ms.length ≤ 5) && (smI c.init && c.ms.all smM))))) = false → V = false) := Lib.hid (fun h => by rw [← HV.out]; exact sm_bad HSK.out h)
          have HCe := Lib.hid (fun (w' : World) (ht : Turn [] WC w') (i : Nat) (v : Value) (hv : (#[.string c.name, .string c.super, .bool c.face, .slice B3 c.faces.length b3, .slice B4 c.fs.length b4, .slice B5 c.ss.length b5, .slice B6 c.ms.length b6, .pointer I, .int .i64 p1, .int .i64 q1] : Array Value)[i]? = some v) => (show w'.cell? ⟨wr.heap.size, i, none⟩ = some v from (cell_of_row w' _ i _ _ _ (ht.heap hgC (by simp))).trans hv))
          rw [hnf] at e3 HCe hWC HBad
          rw [hn4] at e4 HCe hWC HBad
          rw [hn5] at e5 HCe hWC HBad
          rw [hn6] at e6 HCe hWC HBad
          have HTC := Lib.hid tC
          have HCC := Lib.hid hWC
          have HCf := Lib.hid (And.intro hnf (And.intro hn4 (And.intro hn5 hn6)))
          clear hsk hcell r6 r7 tC hWC hgC hnf hn4 hn5 hn6
          by_cases g1 : 4 < nf
          · have g1I : (4 : Int) < (nf : Int) := by omega
            have HG : Hid (V = false) := Lib.hid (HBad.out (by have : ¬ nf ≤ 4 := by omega
                                                               simp [this]))
            go_wp2_with fail
            go_ret
            rw [HCC.out]
            exact ⟨ret_bool (HF.out.trans HG.out).symm, (HT.out.trans' HW.out.2).trans' HTC.out⟩
          have g1I : ¬ (4 : Int) < (nf : Int) := by omega
          by_cases g2 : 6 < n4
          · have g2I : (6 : Int) < (n4 : Int) := by omega
            have HG : Hid (V = false) := Lib.hid (HBad.out (by have : ¬ n4 ≤ 6 := by omega
                                                               simp [this]))
            go_wp2_with fail
            go_ret
            rw [HCC.out]
            exact ⟨ret_bool (HF.out.trans HG.out).symm, (HT.out.trans' HW.out.2).trans' HTC.out⟩
          have g2I : ¬ (6 : Int) < (n4 : Int) := by omega
          by_cases g3 : 6 < n5
          · have g3I : (6 : Int) < (n5 : Int) := by omega
            have HG : Hid (V = false) := Lib.hid (HBad.out (by have : ¬ n5 ≤ 6 := by omega
                                                               simp [this]))
            go_wp2_with fail
            go_ret
            rw [HCC.out]
            exact ⟨ret_bool (HF.out.trans HG.out).symm, (HT.out.trans' HW.out.2).trans' HTC.out⟩
          have g3I : ¬ (6 : Int) < (n5 : Int) := by omega
          by_cases g4 : 5 < n6
          · have g4I : (5 : Int) < (n6 : Int) := by omega
            have HG : Hid (V = false) := Lib.hid (HBad.out (by have : ¬ n6 ≤ 5 := by omega
                                                               simp [this]))
            go_wp2_with fail
            go_ret
            rw [HCC.out]
            exact ⟨ret_bool (HF.out.trans HG.out).symm, (HT.out.trans' HW.out.2).trans' HTC.out⟩
          have g4I : ¬ (5 : Int) < (n6 : Int) := by omega
          have HNum : Hid (nf ≤ 4 ∧ n4 ≤ 6 ∧ n5 ≤ 6 ∧ n6 ≤ 5) := Lib.hid ⟨by omega, by omega, by omega, by omega⟩
          cases hin : c.init with
          | none =>
            rw [hin] at hI
            have hI' : I = none := hI
            subst hI'
            have HOther : Hid (c.faces.length ≤ 4 ∧ c.fs.length ≤ 6 ∧ c.ss.length ≤ 6 ∧ c.ms.length ≤ 5 ∧ smI c.init = true) := Lib.hid ⟨by rw [HCf.out.1]; exact HNum.out.1, by rw [HCf.out.2.1]; exact HNum.out.2.1, by rw [HCf.out.2.2.1]; exact HNum.out.2.2.1, by rw [HCf.out.2.2.2]; exact HNum.out.2.2.2, by rw [hin]; rfl⟩
            clear hin hI
            go_wp2_with fail
            obtain ⟨wb, hwb⟩ : ∃ q, q = wr := ⟨_, rfl⟩
            subst hwb
            rw [HCC.out]
            go_loopw [5] (fun i wi => ∃ j : Nat, j ≤ n6 ∧ i = .int .i64 (j : Int) ∧ Hid ((c.ms.take j).all smM = true ∧ Turn [] WC wi)) (fun i _ => n6 - (intOf i).toNat)
            case atStart => exact ⟨0, Nat.zero_le _, rfl, Lib.hid ⟨by simp, Turn.refl _ _⟩⟩
            case round =>
              obtain ⟨j, hj, rfl, HJ⟩ := hrel
              have z6 := HCe.out wr HJ.out.2 6 _ rfl
              by_cases hjl : j < n6
              · obtain ⟨m, hm⟩ := at_lt (l := c.ms) (k := j) (by rw [HN6.out]; exact hjl)
                obtain ⟨g', off', cs', hB6, ⟨_, hgB', hgl', hcell'⟩, hRd'⟩ := HR6.out wr HJ.out.2 j m hm
                subst hB6
                simp only at hcell' hgl'
                have HC := Lib.hid (lmethod_any B cs' m wr hRd' (HOC.out.1 m (List.mem_of_getElem? hm)))
                have HMM := Lib.hid hm
                obtain ⟨D1, d1, D2, d2, D3, d3, p2, q2, rfl, _, _, _⟩ := hRd'
                have f0 : wr.cell? ⟨g', off' + j * 9, none⟩ = some (.string m.ret) := hcell' 0 _ rfl
                have f1 := hcell' 1 _ rfl
                have f2 := hcell' 2 _ rfl
                have f3 := hcell' 3 _ rfl
                have f4 := hcell' 4 _ rfl
                have f5 := hcell' 5 _ rfl
                have f6 := hcell' 6 _ rfl
                have f7 := hcell' 7 _ rfl
                have f8 := hcell' 8 _ rfl
                clear hcell' hm
                go_wp2_with fail
                refine HC.out.mono ?_
                rintro e w5 ⟨rfl, t5⟩
                have HT5 := Lib.hid (HJ.out.2.trans' t5)
                clear t5 HC f0 f1 f2 f3 f4 f5 f6 f7 f8
                cases hmb : smM m with
                | false =>
                  have HG : Hid (V = false) := Lib.hid (HBad.out (by
                    have : c.ms.all smM = false := by rw [List.all_eq_false]; exact ⟨m, List.mem_of_getElem? HMM.out, by simp [hmb]⟩
                    simp [this]))
                  go_wp2_with fail
                  go_ret
                  exact ⟨ret_bool (HF.out.trans HG.out).symm, ((HT.out.trans' HW.out.2).trans' HTC.out).trans' HT5.out⟩
                | true =>
                  have HMB := Lib.hid hmb
                  clear hmb
                  go_wp2_with fail
                  go_roundw
                  case rel => exact ⟨j + 1, by omega, by go_num, Lib.hid ⟨by rw [take_snoc HMM.out, List.all_append, HJ.out.1]; simp [HMB.out], HT5.out⟩⟩
                  case measure => simp [intOf]; omega
              · have hjn : j = n6 := by omega
                subst hjn
                have HGood : Hid (smC c = true) := Lib.hid (by
                  have h1 := HJ.out.1
                  rw [List.take_of_length_le (l := c.ms) (by rw [HN6.out]; exact Nat.le_refl _)] at h1
                  have := HOther.out
                  unfold smC
                  rw [h1]
                  simpa using this)
                go_wp2_with fail
                go_roundw
                case rel => exact ⟨k + 1, by omega, by go_num, Lib.hid ⟨by rw [take_snoc HSK.out, List.all_append, HW.out.1]; simp [HGood.out], (HW.out.2.trans' HTC.out).trans' HJ.out.2⟩⟩
                case measure => simp [intOf]; omega
          | some m0 =>
            rw [hin] at hI
            obtain ⟨bI, oI, cs0, hIe, ⟨_, hbB, hbl, hcI⟩, hRd0⟩ := hI
            subst hIe
            simp only at hcI hbl
            have HC := Lib.hid (lmethod_any B cs0 m0 WC hRd0 (HOC.out.2 m0 hin))
            have HIN := Lib.hid hin
            obtain ⟨D1, d1, D2, d2, D3, d3, p2, q2, rfl, _, _, _⟩ := hRd0
            have f0 : WC.cell? ⟨bI, oI, none⟩ = some (.string m0.ret) := hcI 0 _ rfl
            have f1 := hcI 1 _ rfl
            have f2 := hcI 2 _ rfl
            have f3 := hcI 3 _ rfl
            have f4 := hcI 4 _ rfl
            have f5 := hcI 5 _ rfl
            have f6 := hcI 6 _ rfl
            have f7 := hcI 7 _ rfl
            have f8 := hcI 8 _ rfl
            have y3 := HCe.out WC (Turn.refl _ _) 3 _ rfl
            have y4 := HCe.out WC (Turn.refl _ _) 4 _ rfl
            have y5 := HCe.out WC (Turn.refl _ _) 5 _ rfl
            have y6 := HCe.out WC (Turn.refl _ _) 6 _ rfl
            have y7 := HCe.out WC (Turn.refl _ _) 7 _ rfl
            clear hcI hin
            go_upto_region 7 with fail
            rw [HCC.out]
            go_wp2_with fail
            refine HC.out.mono ?_
            rintro e w4 ⟨rfl, t4⟩
            have HT4 := Lib.hid t4
            clear t4 HC f0 f1 f2 f3 f4 f5 f6 f7 f8
            cases hmb : smM m0 with
            | false =>
              have HG : Hid (V = false) := Lib.hid (HBad.out (by rw [HIN.out]; simp [smI, hmb]))
              go_wp2_with fail
              go_ret
              exact ⟨ret_bool (HF.out.trans HG.out).symm, ((HT.out.trans' HW.out.2).trans' HTC.out).trans' HT4.out⟩
            | true =>
              have HOther : Hid (c.faces.length ≤ 4 ∧ c.fs.length ≤ 6 ∧ c.ss.length ≤ 6 ∧ c.ms.length ≤ 5 ∧ smI c.init = true) := Lib.hid ⟨by rw [HCf.out.1]; exact HNum.out.1, by rw [HCf.out.2.1]; exact HNum.out.2.1, by rw [HCf.out.2.2.1]; exact HNum.out.2.2.1, by rw [HCf.out.2.2.2]; exact HNum.out.2.2.2, by rw [HIN.out]; exact hmb⟩
              clear hmb
              go_wp2_with fail
              obtain ⟨wb, hwb⟩ : ∃ q, q = wr := ⟨_, rfl⟩
              subst hwb
              skip
              go_loopw [5] (fun i wi => ∃ j : Nat, j ≤ n6 ∧ i = .int .i64 (j : Int) ∧ Hid ((c.ms.take j).all smM = true ∧ Turn [] WC wi)) (fun i _ => n6 - (intOf i).toNat)
              case atStart => exact ⟨0, Nat.zero_le _, rfl, Lib.hid ⟨by simp, HT4.out⟩⟩
              case round =>
                obtain ⟨j, hj, rfl, HJ⟩ := hrel
                have z6 := HCe.out wr HJ.out.2 6 _ rfl
                by_cases hjl : j < n6
                · obtain ⟨m, hm⟩ := at_lt (l := c.ms) (k := j) (by rw [HN6.out]; exact hjl)
                  obtain ⟨g', off', cs', hB6, ⟨_, hgB', hgl', hcell'⟩, hRd'⟩ := HR6.out wr HJ.out.2 j m hm
                  subst hB6
                  simp only at hcell' hgl'
                  have HC := Lib.hid (lmethod_any B cs' m wr hRd' (HOC.out.1 m (List.mem_of_getElem? hm)))
                  have HMM := Lib.hid hm
                  obtain ⟨D1, d1, D2, d2, D3, d3, p2, q2, rfl, _, _, _⟩ := hRd'
                  have f0 : wr.cell? ⟨g', off' + j * 9, none⟩ = some (.string m.ret) := hcell' 0 _ rfl
                  have f1 := hcell' 1 _ rfl
                  have f2 := hcell' 2 _ rfl
                  have f3 := hcell' 3 _ rfl
                  have f4 := hcell' 4 _ rfl
                  have f5 := hcell' 5 _ rfl
                  have f6 := hcell' 6 _ rfl
                  have f7 := hcell' 7 _ rfl
                  have f8 := hcell' 8 _ rfl
                  clear hcell' hm
                  go_wp2_with fail
                  refine HC.out.mono ?_
                  rintro e w5 ⟨rfl, t5⟩
                  have HT5 := Lib.hid (HJ.out.2.trans' t5)
                  clear t5 HC f0 f1 f2 f3 f4 f5 f6 f7 f8
                  cases hmb : smM m with
                  | false =>
                    have HG : Hid (V = false) := Lib.hid (HBad.out (by
                      have : c.ms.all smM = false := by rw [List.all_eq_false]; exact ⟨m, List.mem_of_getElem? HMM.out, by simp [hmb]⟩
                      simp [this]))
                    go_wp2_with fail
                    go_ret
                    exact ⟨ret_bool (HF.out.trans HG.out).symm, ((HT.out.trans' HW.out.2).trans' HTC.out).trans' HT5.out⟩
                  | true =>
                    have HMB := Lib.hid hmb
                    clear hmb
                    go_wp2_with fail
                    go_roundw
                    case rel => exact ⟨j + 1, by omega, by go_num, Lib.hid ⟨by rw [take_snoc HMM.out, List.all_append, HJ.out.1]; simp [HMB.out], HT5.out⟩⟩
                    case measure => simp [intOf]; omega
                · have hjn : j = n6 := by omega
                  subst hjn
                  have HGood : Hid (smC c = true) := Lib.hid (by
                    have h1 := HJ.out.1
                    rw [List.take_of_length_le (l := c.ms) (by rw [HN6.out]; exact Nat.le_refl _)] at h1
                    have := HOther.out
                    unfold smC
                    rw [h1]
                    simpa using this)
                  go_wp2_with fail
                  go_roundw
                  case rel => exact ⟨k + 1, by omega, by go_num, Lib.hid ⟨by rw [take_snoc HSK.out, List.all_append, HW.out.1]; simp [HGood.out], (HW.out.2.trans' HTC.out).trans' HJ.out.2⟩⟩
                  case measure => simp [intOf]; omega
        · have hkn : k = nc := by omega
          subst hkn
          have HG : Hid (V = true) := Lib.hid (by
            have := HW.out.1
            rw [List.take_of_length_le (l := p.cs) (by rw [HNC.out]; exact Nat.le_refl _)] at this
            rw [← HV.out]; exact this)
          go_wp2_with fail
          go_ret
          exact ⟨ret_bool (HF.out.trans HG.out).symm, HT.out.trans' HW.out.2⟩
end Go.Proofs.YtoekaehpcjhhaaaGreatDoor
