/- The heap: down; Push, Pop of package heap. Printed by mkhpc.py. -/
import Derived.Test.YtbocejiclellfaaGreatDoorQ08Rma

set_option linter.unusedSimpArgs false
set_option linter.unusedVariables false
set_option maxRecDepth 100000
namespace Go.Proofs.YtbocejiclellfaaGreatDoor
open Go.RowKit

/-- A Bool, whichever. -/
def IsB (e : Ending) : Prop := ∃ b, e = .returned (.bool b)
theorem isB {e : Ending} {b : Bool} (h : e = .returned (.bool b)) : IsB e := ⟨b, h⟩
/-- Which child is the less one. -/
def chJ (h : List Int) (i m : Nat) : Nat := if 2 * i + 2 < m ∧ h[2 * i + 2]?.getD 0 < h[2 * i + 1]?.getD 0 then 2 * i + 2 else 2 * i + 1
def downF : Nat → List Int → Nat → Nat → List Int
  | 0, h, _, _ => h
  | f + 1, h, i, m => if m ≤ 2 * i + 1 then h else if h[chJ h i m]?.getD 0 < h[i]?.getD 0 then downF f (swL h i (chJ h i m)) (chJ h i m) m else h
set_option maxHeartbeats 12800000 in
theorem down_any {rb g n c : Nat} {h : List Int} {w : World} (k : Hp w rb (.slice (some ⟨g, 0, none⟩) n c) h) (hn : n = h.length) (hl : n ≤ 1000001) (m : Nat) (hm : m ≤ n) :
    Calls Tryz.prog 73 #[.iface 95 (.pointer (some ⟨rb, 0, none⟩)), .int .i64 0, .int .i64 (m : Int)] w fun e w' => IsB e ∧ HpO w w' rb (.slice (some ⟨g, 0, none⟩) n c) (.slice (some ⟨g, 0, none⟩) n c) (downF m h 0 m) := by
  have H0 : Hid (∃ hc f, m ≤ 0 + f ∧ hc.length = n ∧ downF f hc 0 m = downF m h 0 m ∧ HpO w w rb (.slice (some ⟨g, 0, none⟩) n c) (.slice (some ⟨g, 0, none⟩) n c) hc) := Lib.hid ⟨h, m, by omega, hn.symm, rfl, HpO.refl k⟩
  clear k hn
  go_enter Tryz.func73, Tryz.ntmps73
  go_wp2_with fail
  go_loopw [7] (fun v7 wr => ∃ ic : Nat, ic ≤ m ∧ v7 = .int .i64 (ic : Int) ∧ Hid (∃ hc f, m ≤ ic + f ∧ hc.length = n ∧ downF f hc ic m = downF m h 0 m ∧ HpO w wr rb (.slice (some ⟨g, 0, none⟩) n c) (.slice (some ⟨g, 0, none⟩) n c) hc)) (fun v7 _ => m - (intOf v7).toNat)
  case atStart => exact ⟨0, by omega, rfl, H0⟩
  case round =>
    obtain ⟨ic, hic, rfl, HK⟩ := hrel
    obtain ⟨hc, f, hf, hcl, hup, hO⟩ := HK.out
    have c0 : wr.cell? ⟨rb, 0, none⟩ = some (.slice (some ⟨g, 0, none⟩) n c) := cell_of_row wr rb 0 _ _ _ hO.hp.blk
    have m1 := inv_less c0
    obtain ⟨J1, hJ1⟩ : ∃ J, 2 * ic + 1 = J := ⟨_, rfl⟩
    obtain ⟨J2, hJ2⟩ : ∃ J, 2 * ic + 2 = J := ⟨_, rfl⟩
    have w1 : IntKind.i64.wrap (2 * (ic : Int)) = 2 * (ic : Int) := wrap_small _ (by omega) (by omega)
    have w2 : 2 * (ic : Int) + 1 = (J1 : Int) := by omega
    have w3 : IntKind.i64.wrap (J1 : Int) = (J1 : Int) := wrap_small _ (by omega) (by omega)
    have w4 : (J1 : Int) + 1 = (J2 : Int) := by omega
    have w5 : IntKind.i64.wrap (J2 : Int) = (J2 : Int) := wrap_small _ (by omega) (by omega)
    have w6 : decide ((J1 : Int) < 0) = false := by simp <;> omega
    have w7 : ¬ ((J1 : Int) < 0) := by omega
    by_cases hA : m ≤ J1
    · have d1 : decide ((m : Int) ≤ (J1 : Int)) = true := by simp; omega
      have d2 : (m : Int) ≤ (J1 : Int) := by omega
      have d3 : decide ((J1 : Int) ≥ (m : Int)) = true := by simp; omega
      have hu : downF f hc ic m = hc := by
        cases f with
        | zero => rfl
        | succ f => rw [downF, hJ1, if_pos hA]
      have HX := Lib.hid (And.intro hup (And.intro hO hu))
      clear hf hcl hup hO hu HK m1 c0
      go_wp2_with fail
      go_ret
      rw [← HX.out.1, HX.out.2.2]
      exact ⟨isB rfl, HX.out.2.1⟩
    · have d1 : decide ((m : Int) ≤ (J1 : Int)) = false := by simp; omega
      have d2 : ¬ (m : Int) ≤ (J1 : Int) := by omega
      have d3 : decide ((J1 : Int) ≥ (m : Int)) = false := by simp; omega
      obtain ⟨xi, hxi⟩ := at_lt (show ic < hc.length by omega)
      obtain ⟨x1, hx1⟩ := at_lt (show J1 < hc.length by omega)
      obtain ⟨AI, cI, eI, hI, _⟩ := hO.hp.own.form
      have eI2 : AI = some ⟨g, 0, none⟩ := by injection eI with eI _ _; exact eI.symm
      subst eI2
      have hstep : ∀ (q : Nat) (y : Int), chJ hc ic m = q → hc[q]? = some y → downF f hc ic m = if y < xi then downF (f - 1) (swL hc ic q) q m else hc := fun q y hq hy => by
        obtain ⟨f', rfl⟩ : ∃ f', f = f' + 1 := ⟨f - 1, by omega⟩
        rw [downF, if_neg (by omega), hq, hy, hxi]
        rfl
      have hch : chJ hc ic m = if J2 < m ∧ hc[J2]?.getD 0 < x1 then J2 else J1 := by unfold chJ; rw [hJ1, hJ2, hx1]; rfl
      have HX := Lib.hid (And.intro hup (And.intro hO (And.intro hstep (And.intro hf (And.intro hcl (And.intro hxi (And.intro hx1 (And.intro hI (And.intro hch (And.intro hJ1 hJ2))))))))))
      clear hf hcl hup hO HK hstep hxi hI eI hch
      by_cases hB : J2 < m
      · have e1 : decide ((J2 : Int) < (m : Int)) = true := by simp; omega
        have e2 : (J2 : Int) < (m : Int) := by omega
        obtain ⟨x2, hx2⟩ := at_lt (show J2 < hc.length by have := HX.out.2.2.2.2.1; omega)
        have HL := Lib.hid (less_any (some ⟨g, 0, none⟩) n c hc J2 J1 x2 x1 wr HX.out.2.2.2.2.2.2.2.1 HX.out.2.2.2.2.1.symm hx2 hx1)
        have HX2 := Lib.hid hx2
        clear hx2 hx1 hJ1 hJ2
        by_cases hC : x2 < x1
        · have e3 : decide (x2 < x1) = true := by simpa using hC
          rw [e3] at HL
          have hq : chJ hc ic m = J2 := by rw [HX.out.2.2.2.2.2.2.2.2.1, HX2.out, if_pos ⟨hB, hC⟩]
          have HQ := Lib.hid hq
          have HB := Lib.hid hB
          clear e3 hC hq
          go_wp2_with fail
          refine HL.out.mono ?_
          rintro e w3 ⟨rfl, t3⟩
          have hO3 := HX.out.2.1.turn t3
          have c3 : w3.cell? ⟨rb, 0, none⟩ = some (.slice (some ⟨g, 0, none⟩) n c) := cell_of_row w3 rb 0 _ _ _ hO3.hp.blk
          have m3 := inv_less c3
          obtain ⟨AJ, cJ, eJ, hI3, _⟩ := hO3.hp.own.form
          have eJ2 : AJ = some ⟨g, 0, none⟩ := by injection eJ with eJ _ _; exact eJ.symm
          subst eJ2
          have HL3 := Lib.hid (less_any (some ⟨g, 0, none⟩) n c hc J2 ic x2 xi w3 hI3 HX.out.2.2.2.2.1.symm HX2.out HX.out.2.2.2.2.2.1)
          have HO3 := Lib.hid hO3
          clear hO3 t3 hI3 eJ
          by_cases hxy : x2 < xi
          · have e4 : decide (x2 < xi) = true := by simpa using hxy
            rw [e4] at HL3
            have HXY := Lib.hid hxy
            clear hxy e4
            go_wp2_with fail
            refine HL3.out.mono ?_
            rintro e w4 ⟨rfl, t4⟩
            have hO4 := HO3.out.turn t4
            have c4 : w4.cell? ⟨rb, 0, none⟩ = some (.slice (some ⟨g, 0, none⟩) n c) := cell_of_row w4 rb 0 _ _ _ hO4.hp.blk
            have m4 := inv_swap c4
            have HS := Lib.hid (swap_any g n c hc ic J2 0 xi x2 w4 hO4.hp.own HX.out.2.2.2.2.1.symm HX.out.2.2.2.2.2.1 HX2.out)
            have HO4 := Lib.hid hO4
            clear hO4 t4 m1 m3 HO3 HL3
            go_wp2_with fail
            refine HS.out.mono ?_
            rintro e w5 ⟨rfl, ho5, t5⟩
            have HN : Hid (∃ hc f, m ≤ J2 + f ∧ hc.length = n ∧ downF f hc J2 m = downF m h 0 m ∧ HpO w w5 rb (.slice (some ⟨g, 0, none⟩) n c) (.slice (some ⟨g, 0, none⟩) n c) hc) := by
              obtain ⟨k1, k2, k3, k4, k5, k6, k7, k8, k9, k10, k11⟩ := HX.out
              refine Lib.hid ⟨swL hc ic J2, f - 1, by omega, by rw [swL_len]; exact k5, ?_, HO4.out.sw ho5 t5⟩
              rw [← k1, k3 J2 x2 HQ.out HX2.out, if_pos HXY.out]
            have hJl : J2 ≤ m ∧ ic < J2 := by have := HX.out.2.2.2.2.2.2.2.2.2; omega
            clear ho5 t5 HS HO4
            go_wp2_with fail
            go_roundw
            case rel => exact ⟨J2, hJl.1, rfl, HN⟩
            case measure => simp [intOf]; omega
          · have e4 : decide (x2 < xi) = false := by simpa using hxy
            rw [e4] at HL3
            have HXY := Lib.hid hxy
            clear hxy e4
            go_wp2_with fail
            refine HL3.out.mono ?_
            rintro e w4 ⟨rfl, t4⟩
            go_wp2_with fail
            go_ret
            rw [← HX.out.1, HX.out.2.2.1 J2 x2 HQ.out HX2.out, if_neg (by have := HXY.out; omega)]
            exact ⟨isB rfl, HO3.out.turn t4⟩
        · have e3 : decide (x2 < x1) = false := by simpa using hC
          rw [e3] at HL
          have hq : chJ hc ic m = J1 := by rw [HX.out.2.2.2.2.2.2.2.2.1, HX2.out, if_neg (fun h => hC h.2)]
          have HQ := Lib.hid hq
          clear e3 hC hq
          go_wp2_with fail
          refine HL.out.mono ?_
          rintro e w3 ⟨rfl, t3⟩
          have hO3 := HX.out.2.1.turn t3
          have c3 : w3.cell? ⟨rb, 0, none⟩ = some (.slice (some ⟨g, 0, none⟩) n c) := cell_of_row w3 rb 0 _ _ _ hO3.hp.blk
          have m3 := inv_less c3
          obtain ⟨AJ, cJ, eJ, hI3, _⟩ := hO3.hp.own.form
          have eJ2 : AJ = some ⟨g, 0, none⟩ := by injection eJ with eJ _ _; exact eJ.symm
          subst eJ2
          have HL3 := Lib.hid (less_any (some ⟨g, 0, none⟩) n c hc J1 ic x1 xi w3 hI3 HX.out.2.2.2.2.1.symm HX.out.2.2.2.2.2.2.1 HX.out.2.2.2.2.2.1)
          have HO3 := Lib.hid hO3
          clear hO3 t3 hI3 eJ
          by_cases hxy : x1 < xi
          · have e4 : decide (x1 < xi) = true := by simpa using hxy
            rw [e4] at HL3
            have HXY := Lib.hid hxy
            clear hxy e4
            go_wp2_with fail
            refine HL3.out.mono ?_
            rintro e w4 ⟨rfl, t4⟩
            have hO4 := HO3.out.turn t4
            have c4 : w4.cell? ⟨rb, 0, none⟩ = some (.slice (some ⟨g, 0, none⟩) n c) := cell_of_row w4 rb 0 _ _ _ hO4.hp.blk
            have m4 := inv_swap c4
            have HS := Lib.hid (swap_any g n c hc ic J1 0 xi x1 w4 hO4.hp.own HX.out.2.2.2.2.1.symm HX.out.2.2.2.2.2.1 HX.out.2.2.2.2.2.2.1)
            have HO4 := Lib.hid hO4
            clear hO4 t4 m1 m3 HO3 HL3
            go_wp2_with fail
            refine HS.out.mono ?_
            rintro e w5 ⟨rfl, ho5, t5⟩
            have HN : Hid (∃ hc f, m ≤ J1 + f ∧ hc.length = n ∧ downF f hc J1 m = downF m h 0 m ∧ HpO w w5 rb (.slice (some ⟨g, 0, none⟩) n c) (.slice (some ⟨g, 0, none⟩) n c) hc) := by
              obtain ⟨k1, k2, k3, k4, k5, k6, k7, k8, k9, k10, k11⟩ := HX.out
              refine Lib.hid ⟨swL hc ic J1, f - 1, by omega, by rw [swL_len]; exact k5, ?_, HO4.out.sw ho5 t5⟩
              rw [← k1, k3 J1 x1 HQ.out HX.out.2.2.2.2.2.2.1, if_pos HXY.out]
            have hJl : J1 ≤ m ∧ ic < J1 := by have := HX.out.2.2.2.2.2.2.2.2.2; omega
            clear ho5 t5 HS HO4
            go_wp2_with fail
            go_roundw
            case rel => exact ⟨J1, hJl.1, rfl, HN⟩
            case measure => simp [intOf]; omega
          · have e4 : decide (x1 < xi) = false := by simpa using hxy
            rw [e4] at HL3
            have HXY := Lib.hid hxy
            clear hxy e4
            go_wp2_with fail
            refine HL3.out.mono ?_
            rintro e w4 ⟨rfl, t4⟩
            go_wp2_with fail
            go_ret
            rw [← HX.out.1, HX.out.2.2.1 J1 x1 HQ.out HX.out.2.2.2.2.2.2.1, if_neg (by have := HXY.out; omega)]
            exact ⟨isB rfl, HO3.out.turn t4⟩
      · have e1 : decide ((J2 : Int) < (m : Int)) = false := by simp; omega
        have e2 : ¬ (J2 : Int) < (m : Int) := by omega
        have hq : chJ hc ic m = J1 := by rw [HX.out.2.2.2.2.2.2.2.2.1, if_neg (fun h => hB h.1)]
        have HQ := Lib.hid hq
        clear hx1 hJ1 hJ2 hq
        obtain ⟨w3, hw3⟩ : ∃ q, q = wr := ⟨_, rfl⟩
        have t3 : Turn [] wr w3 := by rw [hw3]; exact Turn.refl _ _
        have hO3 := HX.out.2.1.turn t3
        have c3 : w3.cell? ⟨rb, 0, none⟩ = some (.slice (some ⟨g, 0, none⟩) n c) := cell_of_row w3 rb 0 _ _ _ hO3.hp.blk
        have m3 := inv_less c3
        obtain ⟨AJ, cJ, eJ, hI3, _⟩ := hO3.hp.own.form
        have eJ2 : AJ = some ⟨g, 0, none⟩ := by injection eJ with eJ _ _; exact eJ.symm
        subst eJ2
        have HL3 := Lib.hid (less_any (some ⟨g, 0, none⟩) n c hc J1 ic x1 xi w3 hI3 HX.out.2.2.2.2.1.symm HX.out.2.2.2.2.2.2.1 HX.out.2.2.2.2.2.1)
        have HO3 := Lib.hid hO3
        clear hO3 t3 hI3 eJ
        subst hw3
        by_cases hxy : x1 < xi
        · have e4 : decide (x1 < xi) = true := by simpa using hxy
          rw [e4] at HL3
          have HXY := Lib.hid hxy
          clear hxy e4
          go_wp2_with fail
          refine HL3.out.mono ?_
          rintro e w4 ⟨rfl, t4⟩
          have hO4 := HO3.out.turn t4
          have c4 : w4.cell? ⟨rb, 0, none⟩ = some (.slice (some ⟨g, 0, none⟩) n c) := cell_of_row w4 rb 0 _ _ _ hO4.hp.blk
          have m4 := inv_swap c4
          have HS := Lib.hid (swap_any g n c hc ic J1 0 xi x1 w4 hO4.hp.own HX.out.2.2.2.2.1.symm HX.out.2.2.2.2.2.1 HX.out.2.2.2.2.2.2.1)
          have HO4 := Lib.hid hO4
          clear hO4 t4 m1 m3 HO3 HL3
          go_wp2_with fail
          refine HS.out.mono ?_
          rintro e w5 ⟨rfl, ho5, t5⟩
          have HN : Hid (∃ hc f, m ≤ J1 + f ∧ hc.length = n ∧ downF f hc J1 m = downF m h 0 m ∧ HpO w w5 rb (.slice (some ⟨g, 0, none⟩) n c) (.slice (some ⟨g, 0, none⟩) n c) hc) := by
            obtain ⟨k1, k2, k3, k4, k5, k6, k7, k8, k9, k10, k11⟩ := HX.out
            refine Lib.hid ⟨swL hc ic J1, f - 1, by omega, by rw [swL_len]; exact k5, ?_, HO4.out.sw ho5 t5⟩
            rw [← k1, k3 J1 x1 HQ.out HX.out.2.2.2.2.2.2.1, if_pos HXY.out]
          have hJl : J1 ≤ m ∧ ic < J1 := by have := HX.out.2.2.2.2.2.2.2.2.2; omega
          clear ho5 t5 HS HO4
          go_wp2_with fail
          go_roundw
          case rel => exact ⟨J1, hJl.1, rfl, HN⟩
          case measure => simp [intOf]; omega
        · have e4 : decide (x1 < xi) = false := by simpa using hxy
          rw [e4] at HL3
          have HXY := Lib.hid hxy
          clear hxy e4
          go_wp2_with fail
          refine HL3.out.mono ?_
          rintro e w4 ⟨rfl, t4⟩
          go_wp2_with fail
          go_ret
          rw [← HX.out.1, HX.out.2.2.1 J1 x1 HQ.out HX.out.2.2.2.2.2.2.1, if_neg (by have := HXY.out; omega)]
          exact ⟨isB rfl, HO3.out.turn t4⟩
/-- Push and Pop of package heap. -/
def pushL (h : List Int) (x : Int) : List Int := upF h.length (h ++ [x]) h.length
set_option maxHeartbeats 3200000 in
theorem hpush_any {rb : Nat} {V : Value} {h : List Int} {w : World} (k : Hp w rb V h) (x : Int) (hl : h.length ≤ 1000000) :
    Calls Tryz.prog 51 #[.iface 95 (.pointer (some ⟨rb, 0, none⟩)), .iface 3 (.int .i64 x)] w fun e w' => e = .returned (.tuple #[]) ∧ ∃ V', HpO w w' rb V V' (pushL h x) := by
  have HP := Lib.hid (push_any k x hl)
  have m0 := fun W => inv_push W rb
  clear k
  go_enter Tryz.func51, Tryz.ntmps51
  go_wp2_with fail
  refine HP.out.mono ?_
  rintro e w1 ⟨rfl, V1, hO1⟩
  obtain ⟨g, c, rfl, hc, hg, _, _, _⟩ := hO1.hp.own.slot (by simp)
  have hN : (h ++ [x]).length = h.length + 1 := by rw [List.length_append]; rfl
  rw [hN] at hO1 hc
  have HU := Lib.hid (up_any hO1.hp hN.symm (by omega) h.length (by omega))
  have c1 : w1.cell? ⟨rb, 0, none⟩ = some (.slice (some ⟨g, 0, none⟩) (h.length + 1) c) := cell_of_row w1 rb 0 _ _ _ hO1.hp.blk
  obtain ⟨L, hL⟩ : ∃ L, h.length = L := ⟨_, rfl⟩
  rw [hL] at HU c1 hl
  obtain ⟨N, hNN⟩ : ∃ N, L + 1 = N := ⟨_, rfl⟩
  rw [hNN] at c1
  have m1 := inv_len c1
  have HL := Lib.hid (fun W => slen_any (some ⟨g, 0, none⟩) N c W (by omega))
  have n1 : (N : Int) - 1 = (L : Int) := by omega
  have n7 : IntKind.i64.wrap (L : Int) = (L : Int) := wrap_small (L : Int) (by omega) (by omega)
  have HX := Lib.hid (And.intro hO1 (And.intro hL hNN))
  clear hO1 hL hN hNN hc HP
  go_wp2_with fail
  refine (HL.out _).mono ?_
  rintro e w2 ⟨rfl, rfl⟩
  go_wp2_with fail
  refine HU.out.mono ?_
  rintro e w3 ⟨rfl, hO3⟩
  have HO3 := Lib.hid hO3
  clear hO3
  go_wp2_with fail
  go_end0
  have hO3 := HO3.out
  refine ⟨rfl, .slice (some ⟨g, 0, none⟩) (L + 1) c, ?_⟩
  unfold pushL
  have h1 := HX.out.1
  rw [HX.out.2.1] at h1 ⊢
  exact h1.trans hO3
/-- What is at hand, and what Pop leaves. -/
def popL (h : List Int) : List Int := (downF (h.length - 1) (swL h 0 (h.length - 1)) 0 (h.length - 1)).dropLast
theorem downF_len : ∀ (f : Nat) (h : List Int) (i m : Nat), (downF f h i m).length = h.length
  | 0, h, i, m => rfl
  | f + 1, h, i, m => by
    unfold downF
    split
    · rfl
    · split
      · rw [downF_len, swL_len]
      · rfl
theorem chJ_le (h : List Int) (i m : Nat) (hm : 2 * i + 1 < m) : chJ h i m < m ∧ i < chJ h i m := by
  unfold chJ
  split
  · rename_i hc
    omega
  · omega
/-- What lies from m on stays. -/
theorem downF_at : ∀ (f : Nat) (h : List Int) (i m k : Nat), m ≤ k → (downF f h i m)[k]? = h[k]?
  | 0, h, i, m, k, _ => rfl
  | f + 1, h, i, m, k, hk => by
    unfold downF
    split
    · rfl
    · rename_i hm
      split
      · have := chJ_le h i m (by omega)
        rw [downF_at f _ _ _ _ hk]
        unfold swL
        rw [List.getElem?_set_ne (by omega), List.getElem?_set_ne (by omega)]
      · rfl
set_option maxHeartbeats 6400000 in
theorem hpop_any {rb : Nat} {V : Value} {h : List Int} {x : Int} {w : World} (k : Hp w rb V h) (hx : h[0]? = some x) (hl : h.length ≤ 1000000) :
    Calls Tryz.prog 53 #[.iface 95 (.pointer (some ⟨rb, 0, none⟩))] w fun e w' => e = .returned (.iface 3 (.int .i64 x)) ∧ ∃ V', HpO w w' rb V V' (popL h) := by
  have m0 := fun W => inv_pop W rb
  have hpos : 0 < h.length := (List.getElem?_eq_some_iff.1 hx).1
  obtain ⟨g, c, rfl, hc, hg, _, _, _⟩ := k.own.slot hpos
  obtain ⟨N, hN⟩ : ∃ N, h.length = N := ⟨_, rfl⟩
  rw [hN] at k hc hl hpos ⊢
  obtain ⟨L, hL⟩ : ∃ L, N - 1 = L := ⟨_, rfl⟩
  obtain ⟨y, hy⟩ := at_lt (show L < h.length by omega)
  have c1 : w.cell? ⟨rb, 0, none⟩ = some (.slice (some ⟨g, 0, none⟩) N c) := cell_of_row w rb 0 _ _ _ k.blk
  have m1 := inv_len c1
  have m2 := inv_swap c1
  have HL := Lib.hid (fun W => slen_any (some ⟨g, 0, none⟩) N c W (by omega))
  have n1 : (N : Int) - 1 = (L : Int) := by omega
  have n7 : IntKind.i64.wrap (L : Int) = (L : Int) := wrap_small (L : Int) (by omega) (by omega)
  have HS := Lib.hid (swap_any g N c h 0 L 0 x y w k.own hN.symm hx hy)
  have HX := Lib.hid (And.intro k (And.intro hN (And.intro hL (And.intro hx hy))))
  clear k hN hL hx hy hc c1
  go_enter Tryz.func53, Tryz.ntmps53
  go_wp2_with fail
  refine (HL.out _).mono ?_
  rintro e w2 ⟨rfl, rfl⟩
  go_wp2_with fail
  refine HS.out.mono ?_
  rintro e w3 ⟨rfl, ho3, t3⟩
  have hO3 := (HpO.refl HX.out.1).sw ho3 t3
  have HD := Lib.hid (down_any hO3.hp (by rw [swL_len]; exact HX.out.2.1.symm) (by omega) L (by have := HX.out.2.2.1; omega))
  have HO3 := Lib.hid hO3
  clear ho3 t3 hO3 HS m1 m2
  go_wp2_with fail
  refine HD.out.mono ?_
  rintro e w4 ⟨he, hO4⟩
  obtain ⟨b, rfl⟩ := he
  have hO5 := HO3.out.trans hO4
  obtain ⟨q, hq⟩ : ∃ q, downF L (swL h 0 L) 0 L = q ++ [x] := by
    obtain ⟨k, hN, hL, hx, hy⟩ := HX.out
    have hlen : (downF L (swL h 0 L) 0 L).length = N := by rw [downF_len, swL_len]; exact hN
    have hat : (downF L (swL h 0 L) 0 L)[L]? = some x := by
      rw [downF_at _ _ _ _ _ (Nat.le_refl _)]
      unfold swL
      rw [hx, hy]
      simp only [Option.getD_some]
      have h1 : L < (h.set 0 y).length := by rw [List.length_set]; omega
      rw [List.getElem?_set_self h1]
    refine ⟨(downF L (swL h 0 L) 0 L).take L, ?_⟩
    have h1 := take_snoc hat
    rw [List.take_of_length_le (by omega)] at h1
    exact h1
  have hO6 := hO5
  rw [hq] at hO6
  have hql : q.length ≤ 1000000 := by
    have h1 := congrArg List.length hq
    rw [downF_len, swL_len, HX.out.2.1, List.length_append] at h1
    simp at h1
    omega
  have HP := Lib.hid (pop_any hO6.hp hql)
  have HO6 := Lib.hid hO6
  have hpl : popL h = q := by
    unfold popL
    rw [HX.out.2.1, HX.out.2.2.1, hq, List.dropLast_concat]
  have HPL := Lib.hid hpl
  clear hO4 hO5 hq hO6 hpl HD HO3
  go_wp2_with fail
  refine HP.out.mono ?_
  rintro e w5 ⟨rfl, V5, hO7⟩
  have HO7 := Lib.hid hO7
  clear hO7
  go_wp2_with fail
  go_ret
  refine ⟨rfl, V5, ?_⟩
  rw [HPL.out]
  exact HO6.out.trans HO7.out
end Go.Proofs.YtbocejiclellfaaGreatDoor
