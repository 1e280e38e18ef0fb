import Derived.Test.YtbocejiclellfaaDoorQ10Rma
import Derived.Test.YtbocejiclellfaaDoorQ12Orp
import Derived.StillTailTactics
import Derived.Deep.DeepCutAuto
import Derived.Test.YtbocejiclellfaaDoorQ07Flt
import Derived.Test.YtbocejiclellfaaDoorQ00IKit
import Derived.BigQuiet
import Derived.Test.YtbocejiclellfaaDoorQ02IMeet
import Derived.Test.YtbocejiclellfaaDoorQ01IFind

/- The reference's Fault. -/
set_option linter.unusedSimpArgs false
set_option linter.unusedVariables false
set_option maxRecDepth 100000
namespace Go.Proofs.YtbocejiclellfaaDoor
open Go.RowKit

theorem ret_rf {w : World} {g : Nat} {e p q : Int} {tmps : Array Value} (h : w.heap[g]? = some (.cells (ftC e p q) 50 (0, 0))) (h2 : tmps.getD 2 undef = .pointer (some ⟨g, 0, none⟩)) :
    (results Tryd.f16 tmps).run Tryd.prog w = .ok (.agg (ftC e p q)) w := by
  rw [results_cell1 (p := 2) (ty := 50) rfl, h2]
  simp [asAddr, load_fault h, Result.andThen]
/-- What Fault answers. -/
inductive FtR (l : List K8) (e : Ending) : Prop
  | bad (k : Nat) (c : K8) (hc : l[k]? = some c) (hk : sndB l k c = false) (hall : ∀ j x, j < k → l[j]? = some x → sndB l j x = true) (he : e = .returned (.agg (ftC 11 c.p c.q)))
  | rnd (k : Nat) (c : K8) (hc : l[k]? = some c) (hall : ∀ j x, l[j]? = some x → sndB l j x = true) (hk : Cyc (esL l) k) (hno : ∀ j, j < k → ¬ Cyc (esL l) j) (he : e = .returned (.agg (ftC 11 c.p c.q)))
  | ok (hall : ∀ j x, l[j]? = some x → sndB l j x = true) (hno : ∀ j, ¬ Cyc (esL l) j) (he : e = .returned (.agg (ftC 0 0 0)))
set_option maxHeartbeats 25600000 in
theorem rfault_any (A : Option Addr) (c B : Nat) (l : List K8) (m0 m1 m2 m3 m4 m5 m6 m7 m8 : Value) (w : World) (hr : RdKs B w A l) (hl : l.length ≤ 1000) (hfl : ∀ x ∈ l, x.fcs.length ≤ 999) :
    Calls Tryd.prog 16 #[.agg #[.slice A l.length c, m0, m1, m2, m3, m4, m5, m6, m7, m8]] w fun e w' => FtR l e ∧ Turn [] w w' := by
  obtain ⟨n, hn⟩ : ∃ n, l.length = n := ⟨_, rfl⟩
  obtain ⟨r, hrr⟩ : ∃ r, w.heap.size = r := ⟨_, rfl⟩
  obtain ⟨W0, hW0⟩ : ∃ W, (w.alloc (.cells #[.slice A n c, m0, m1, m2, m3, m4, m5, m6, m7, m8] 30)).alloc (.cells #[.int .i64 0, .int .i64 0, .int .i64 0] 50) = W := ⟨_, rfl⟩
  have t0 : Turn [] w W0 := by rw [← hW0]; exact ((Turn.refl [] w).alloc _).alloc _
  have s0 : W0.heap.size = r + 2 := by rw [← hW0, ← hrr]; simp
  have b0 : W0.heap[r]? = some (.cells #[.slice A n c, m0, m1, m2, m3, m4, m5, m6, m7, m8] 30 (0, 0)) := by rw [← hW0, ← hrr]; exact ((Turn.refl [] _).alloc _).heap (heap_alloc_new w _) (by simp)
  have b1 : W0.heap[r + 1]? = some (.cells (ftC 0 0 0) 50 (0, 0)) := by
    rw [← hW0, ← hrr]
    have := heap_alloc_new (w.alloc (.cells #[.slice A n c, m0, m1, m2, m3, m4, m5, m6, m7, m8] 30)) (.cells #[.int .i64 0, .int .i64 0, .int .i64 0] 50)
    rwa [World.size_alloc] at this
  have hr0 := hr.turn t0 (by simp)
  have HSn : Hid (∀ W (j : Nat) (x : K8), Turn [] W0 W → l[j]? = some x → Calls Tryd.prog 27 #[.agg #[.slice A n c, m0, m1, m2, m3, m4, m5, m6, m7, m8], .int .i64 (j : Int)] W fun e w' => e = .returned (.bool (sndB l j x)) ∧ Turn [] W w') := Lib.hid fun W j x t hx => by
    rw [← hn]
    exact rsound_any A c B l m0 m1 m2 m3 m4 m5 m6 m7 m8 j x W (hr0.turn t (by simp)) hl hx (hfl x (List.mem_of_getElem? hx))
  have HMk : Hid (∀ W (j : Nat), Turn [] W0 W → j < n → (∀ j x, l[j]? = some x → sndB l j x = true) → Calls Tryd.prog 28 #[.agg #[.slice A n c, m0, m1, m2, m3, m4, m5, m6, m7, m8], .int .i64 (j : Int)] W fun e w' => ∃ g ms, e = .returned (.slice (some ⟨g, 0, none⟩) n n) ∧ OwnB w' 0 (.slice (some ⟨g, 0, none⟩) n n) ms ∧ ms.length = n ∧ (∀ k : Nat, ms[k]? = some true ↔ Ab1 (esL l) j k) ∧ Turn [] W w') := Lib.hid fun W j t hj hall => by
    have := rmarks_any A c B l m0 m1 m2 m3 m4 m5 m6 m7 m8 j W (hr0.turn t (by simp)) hl hfl (fun k x hx => rt_is hl (hall k x hx) hx) (by omega)
    rw [hn] at this
    exact this
  have hpc : ∀ W, Turn [] W0 W → ∀ (q : Nat) (v : Value), (#[Value.slice A n c, m0, m1, m2, m3, m4, m5, m6, m7, m8] : Array Value)[q]? = some v → W.cell? ⟨r, q, none⟩ = some v := fun W t q v hv => (cell_of_row W r q _ _ _ (t.heap b0 (by simp))).trans hv
  have hen : (esL l).length = n := by rw [esL_len, hn]
  have HEN := Lib.hid hen
  have HT0 := Lib.hid t0
  have HS0 := Lib.hid s0
  have HB1 := Lib.hid b1
  have HP := Lib.hid hpc
  have HR := Lib.hid hr0
  have HN := Lib.hid hn
  have HRR := Lib.hid hrr
  have HW0 := Lib.hid hW0
  have hn1 : n ≤ 1000 := by omega
  rw [hn]
  clear hr t0 s0 b0 b1 hr0 hpc hn hrr hW0 hen hl hfl
  go_enter Tryd.func16, Tryd.ntmps16
  go_upto_region 1 with fail
  rw [HRR.out, HW0.out]
  go_wp2_with fail
  go_loopw [3] (fun v3 wr => ∃ k : Nat, k ≤ n ∧ v3 = .int .i64 (k : Int) ∧ Hid ((∀ j x, j < k → l[j]? = some x → sndB l j x = true) ∧ Turn [] W0 wr)) (fun v3 _ => n - (intOf v3).toNat)
  case atStart => exact ⟨0, Nat.zero_le _, rfl, Lib.hid ⟨fun j x hj => absurd hj (Nat.not_lt_zero j), Turn.refl _ _⟩⟩
  case round =>
    obtain ⟨k, hk, rfl, HO⟩ := hrel
    have q0 : wr.cell? ⟨r, 0, none⟩ = some (.slice A n c) := HP.out wr HO.out.2 0 _ rfl
    by_cases hkn : k < n
    · have d1 : decide ((k : Int) < (n : Int)) = true := by simp; omega
      have d2 : (k : Int) < (n : Int) := by omega
      obtain ⟨x, hx⟩ := at_lt (show k < l.length by have := HN.out; omega)
      obtain ⟨b, off, cs, rfl, hb, hbl, hcell, A3, c3, A4, n4, c4, A5, n5, c5, A6, n6, c6, I, rfl, hst⟩ := HR.out k x hx
      have HKC : Hid (∀ W, Turn [] W0 W → W.cell? ⟨b, off + k * 10 + 8, none⟩ = some (.int .i64 x.p) ∧ W.cell? ⟨b, off + k * 10 + 9, none⟩ = some (.int .i64 x.q)) := Lib.hid fun W t => ⟨(t.cell (p := ⟨b, off + k * 10 + 8, none⟩) hbl (by simp)).trans (hcell 8 _ rfl), (t.cell (p := ⟨b, off + k * 10 + 9, none⟩) hbl (by simp)).trans (hcell 9 _ rfl)⟩
      have HSx := Lib.hid (HSn.out wr k x HO.out.2 hx)
      have HX := Lib.hid hx
      clear hcell hst hb hbl q0 hx
      have q0 : wr.cell? ⟨r, 0, none⟩ = some (.slice (some ⟨b, off, none⟩) n c) := HP.out wr (HO.out.2) 0 _ rfl
      have q1 : wr.cell? ⟨r, 1, none⟩ = some m0 := HP.out wr (HO.out.2) 1 _ rfl
      have q2 : wr.cell? ⟨r, 2, none⟩ = some m1 := HP.out wr (HO.out.2) 2 _ rfl
      have q3 : wr.cell? ⟨r, 3, none⟩ = some m2 := HP.out wr (HO.out.2) 3 _ rfl
      have q4 : wr.cell? ⟨r, 4, none⟩ = some m3 := HP.out wr (HO.out.2) 4 _ rfl
      have q5 : wr.cell? ⟨r, 5, none⟩ = some m4 := HP.out wr (HO.out.2) 5 _ rfl
      have q6 : wr.cell? ⟨r, 6, none⟩ = some m5 := HP.out wr (HO.out.2) 6 _ rfl
      have q7 : wr.cell? ⟨r, 7, none⟩ = some m6 := HP.out wr (HO.out.2) 7 _ rfl
      have q8 : wr.cell? ⟨r, 8, none⟩ = some m7 := HP.out wr (HO.out.2) 8 _ rfl
      have q9 : wr.cell? ⟨r, 9, none⟩ = some m8 := HP.out wr (HO.out.2) 9 _ rfl
      go_wp2_with fail
      refine HSx.out.mono ?_
      rintro e w4 ⟨rfl, t4⟩
      have tt4 := HO.out.2.trans' t4
      clear t4 q0 q1 q2 q3 q4 q5 q6 q7 q8 q9 HSx
      obtain ⟨sn, hsn⟩ : ∃ sn, sndB l k x = sn := ⟨_, rfl⟩
      rw [hsn]
      have HSN := Lib.hid hsn
      clear hsn
      cases sn with
      | true =>
        have HN2 : Hid ((∀ j y, j < k + 1 → l[j]? = some y → sndB l j y = true) ∧ Turn [] W0 w4) := Lib.hid ⟨fun j y hj hy => by
          by_cases e : j = k
          · subst e
            rw [HX.out] at hy
            injection hy with hy
            rw [← hy]
            exact HSN.out
          · exact HO.out.1 j y (by omega) hy, tt4⟩
        clear tt4
        go_wp2_with fail
        go_roundw
        case rel => exact ⟨k + 1, by omega, by go_num, HN2⟩
        case measure => simp [intOf]; omega
      | false =>
        have HT4 := Lib.hid tt4
        clear tt4
        obtain ⟨cp, cq⟩ := HKC.out w4 HT4.out
        have p0 : w4.cell? ⟨r, 0, none⟩ = some (.slice (some ⟨b, off, none⟩) n c) := HP.out w4 (HT4.out) 0 _ rfl
        have b4 := (HT4.out).heap HB1.out (by simp)
        have f0 : w4.cell? ⟨r + 1, 0, none⟩ = some (.int .i64 0) := cell_of_row w4 _ 0 _ _ _ b4
        have f1 : w4.cell? ⟨r + 1, 1, none⟩ = some (.int .i64 0) := cell_of_row w4 _ 1 _ _ _ b4
        have f2 : w4.cell? ⟨r + 1, 2, none⟩ = some (.int .i64 0) := cell_of_row w4 _ 2 _ _ _ b4
        have f0' : w4.frozen? ⟨r + 1, 0, none⟩ = false := frozen_of_row w4 _ 0 _ _ b4
        have f1' : w4.frozen? ⟨r + 1, 1, none⟩ = false := frozen_of_row w4 _ 1 _ _ b4
        have f2' : w4.frozen? ⟨r + 1, 2, none⟩ = false := frozen_of_row w4 _ 2 _ _ b4
        have HB4 := Lib.hid b4
        clear b4
        go_wp2_with fail
        go_region
        go_wp2_with fail
        have hfs := ft_set 11 x.p x.q HB4.out
        refine bodyPost_ret (ret_rf ((Turn.refl [] _).drew.heap hfs.1 (by simp)) rfl) rfl ⟨.bad k x HX.out HSN.out HO.out.1 rfl, ?_⟩
        refine ((HT0.out.trans' (HT4.out)).trans hfs.2 (fun g hg => .inr (by simp at hg; have := HRR.out; omega))).drew
    · obtain rfl : k = n := by omega
      have d1 : decide ((k : Int) < (k : Int)) = false := by simp
      have HALL : Hid (∀ j x, l[j]? = some x → sndB l j x = true) := Lib.hid fun j x hx => HO.out.1 j x (by have := (List.getElem?_eq_some_iff.1 hx).1; have := HN.out; omega) hx
      go_wp2_with fail
      go_loopw [4] (fun v4 wr => ∃ i : Nat, i ≤ k ∧ v4 = .int .i64 (i : Int) ∧ Hid ((∀ j, j < i → ¬ Cyc (esL l) j) ∧ Turn [] W0 wr)) (fun v4 _ => k - (intOf v4).toNat)
      case atStart => exact ⟨0, Nat.zero_le _, rfl, Lib.hid ⟨fun j hj => absurd hj (Nat.not_lt_zero j), HO.out.2⟩⟩
      case round =>
        obtain ⟨i, hi, rfl, HQ⟩ := hrel
        have q0 : wr.cell? ⟨r, 0, none⟩ = some (.slice A k c) := HP.out wr HQ.out.2 0 _ rfl
        by_cases hik : i < k
        · have d3 : decide ((i : Int) < (k : Int)) = true := by simp; omega
          have d4 : (i : Int) < (k : Int) := by omega
          obtain ⟨x, hx⟩ := at_lt (show i < l.length by have := HN.out; omega)
          obtain ⟨b, off, cs, rfl, hb, hbl, hcell, A3, c3, A4, n4, c4, A5, n5, c5, A6, n6, c6, I, rfl, hst⟩ := HR.out i x hx
          have HKC : Hid (∀ W, Turn [] W0 W → W.cell? ⟨b, off + i * 10 + 8, none⟩ = some (.int .i64 x.p) ∧ W.cell? ⟨b, off + i * 10 + 9, none⟩ = some (.int .i64 x.q)) := Lib.hid fun W t => ⟨(t.cell (p := ⟨b, off + i * 10 + 8, none⟩) hbl (by simp)).trans (hcell 8 _ rfl), (t.cell (p := ⟨b, off + i * 10 + 9, none⟩) hbl (by simp)).trans (hcell 9 _ rfl)⟩
          have HMx := Lib.hid (HMk.out wr i HQ.out.2 hik HALL.out)
          have HX := Lib.hid hx
          clear hcell hst hb hbl q0 hx
          have q0 : wr.cell? ⟨r, 0, none⟩ = some (.slice (some ⟨b, off, none⟩) k c) := HP.out wr (HQ.out.2) 0 _ rfl
          have q1 : wr.cell? ⟨r, 1, none⟩ = some m0 := HP.out wr (HQ.out.2) 1 _ rfl
          have q2 : wr.cell? ⟨r, 2, none⟩ = some m1 := HP.out wr (HQ.out.2) 2 _ rfl
          have q3 : wr.cell? ⟨r, 3, none⟩ = some m2 := HP.out wr (HQ.out.2) 3 _ rfl
          have q4 : wr.cell? ⟨r, 4, none⟩ = some m3 := HP.out wr (HQ.out.2) 4 _ rfl
          have q5 : wr.cell? ⟨r, 5, none⟩ = some m4 := HP.out wr (HQ.out.2) 5 _ rfl
          have q6 : wr.cell? ⟨r, 6, none⟩ = some m5 := HP.out wr (HQ.out.2) 6 _ rfl
          have q7 : wr.cell? ⟨r, 7, none⟩ = some m6 := HP.out wr (HQ.out.2) 7 _ rfl
          have q8 : wr.cell? ⟨r, 8, none⟩ = some m7 := HP.out wr (HQ.out.2) 8 _ rfl
          have q9 : wr.cell? ⟨r, 9, none⟩ = some m8 := HP.out wr (HQ.out.2) 9 _ rfl
          go_wp2_with fail
          refine HMx.out.mono ?_
          rintro e w4 ⟨g, ms, rfl, hom, hml, hmi, t4⟩
          have tt4 := HQ.out.2.trans' t4
          clear t4 q0 q1 q2 q3 q4 q5 q6 q7 q8 q9 HMx
          obtain ⟨mb, hmb⟩ := at_lt (show i < ms.length by rw [hml]; exact hik)
          have cm : w4.cell? ⟨g, i, none⟩ = some (.bool mb) := hom.at.1 i mb hmb
          have hcy : mb = true ↔ Cyc (esL l) i := by
            rw [Cyc, HEN.out]
            constructor
            · intro h
              subst h
              exact ⟨hik, (hmi i).1 hmb⟩
            · rintro ⟨_, h⟩
              have := (hmi i).2 h
              rw [hmb] at this
              injection this
          have HCY := Lib.hid hcy
          clear hom hml hmi hmb hcy
          cases mb with
          | false =>
            have HN2 : Hid ((∀ j, j < i + 1 → ¬ Cyc (esL l) j) ∧ Turn [] W0 w4) := Lib.hid ⟨fun j hj hy => by
              by_cases e : j = i
              · subst e
                have := HCY.out.2 hy
                cases this
              · exact HQ.out.1 j (by omega) hy, tt4⟩
            clear tt4
            go_wp2_with fail
            go_roundw
            case rel => exact ⟨i + 1, by omega, by go_num, HN2⟩
            case measure => simp [intOf]; omega
          | true =>
            have HT4 := Lib.hid tt4
            clear tt4
            obtain ⟨cp, cq⟩ := HKC.out w4 HT4.out
            have p0 : w4.cell? ⟨r, 0, none⟩ = some (.slice (some ⟨b, off, none⟩) k c) := HP.out w4 (HT4.out) 0 _ rfl
            have b4 := (HT4.out).heap HB1.out (by simp)
            have f0 : w4.cell? ⟨r + 1, 0, none⟩ = some (.int .i64 0) := cell_of_row w4 _ 0 _ _ _ b4
            have f1 : w4.cell? ⟨r + 1, 1, none⟩ = some (.int .i64 0) := cell_of_row w4 _ 1 _ _ _ b4
            have f2 : w4.cell? ⟨r + 1, 2, none⟩ = some (.int .i64 0) := cell_of_row w4 _ 2 _ _ _ b4
            have f0' : w4.frozen? ⟨r + 1, 0, none⟩ = false := frozen_of_row w4 _ 0 _ _ b4
            have f1' : w4.frozen? ⟨r + 1, 1, none⟩ = false := frozen_of_row w4 _ 1 _ _ b4
            have f2' : w4.frozen? ⟨r + 1, 2, none⟩ = false := frozen_of_row w4 _ 2 _ _ b4
            have HB4 := Lib.hid b4
            clear b4
            go_wp2_with fail
            go_region
            go_wp2_with fail
            have hfs := ft_set 11 x.p x.q HB4.out
            refine bodyPost_ret (ret_rf ((Turn.refl [] _).drew.heap hfs.1 (by simp)) rfl) rfl ⟨.rnd i x HX.out HALL.out (HCY.out.1 (by trivial)) HQ.out.1 rfl, ?_⟩
            refine ((HT0.out.trans' (HT4.out)).trans hfs.2 (fun g hg => .inr (by simp at hg; have := HRR.out; omega))).drew
        · obtain rfl : i = k := by omega
          have d3 : decide ((i : Int) < (i : Int)) = false := by simp
          have HNO : Hid (∀ j, ¬ Cyc (esL l) j) := Lib.hid fun j hj => by
            have h1 := hj.1
            rw [HEN.out] at h1
            exact HQ.out.1 j h1 hj
          have b4 := HQ.out.2.heap HB1.out (by simp)
          have f0 : wr.cell? ⟨r + 1, 0, none⟩ = some (.int .i64 0) := cell_of_row wr _ 0 _ _ _ b4
          have f1 : wr.cell? ⟨r + 1, 1, none⟩ = some (.int .i64 0) := cell_of_row wr _ 1 _ _ _ b4
          have f2 : wr.cell? ⟨r + 1, 2, none⟩ = some (.int .i64 0) := cell_of_row wr _ 2 _ _ _ b4
          have f0' : wr.frozen? ⟨r + 1, 0, none⟩ = false := frozen_of_row wr _ 0 _ _ b4
          have f1' : wr.frozen? ⟨r + 1, 1, none⟩ = false := frozen_of_row wr _ 1 _ _ b4
          have f2' : wr.frozen? ⟨r + 1, 2, none⟩ = false := frozen_of_row wr _ 2 _ _ b4
          have HB4 := Lib.hid b4
          clear b4
          go_wp2_with fail
          have hfs := ft_set 0 0 0 HB4.out
          refine bodyPost_ret (ret_rf hfs.1 rfl) rfl ⟨.ok HALL.out HNO.out rfl, ?_⟩
          exact (HT0.out.trans' HQ.out.2).trans hfs.2 (fun g hg => .inr (by simp at hg; have := HRR.out; omega))
end Go.Proofs.YtbocejiclellfaaDoor

/- HierFaults. -/
set_option linter.unusedSimpArgs false
set_option linter.unusedVariables false
set_option maxRecDepth 100000
namespace Go.Proofs.YtbocejiclellfaaDoor
open Go.RowKit

theorem faults_agree {l : List K8} (hk : KOk l) {r : Nat} {e1 e2 : Ending} {w1 : World} (h1 : NwR l r e1 w1) (h2 : FtR l e2) :
    ∃ (P : Option Addr) (er p q : Int), e1 = .returned (.tuple #[.pointer P, .agg (ftC er p q)]) ∧ e2 = .returned (.agg (ftC er p q)) ∧ ((P = none ∧ er = 11) ∨ ∃ t, P = some ⟨t, 0, none⟩ ∧ er = 0) := by
  have hlen := hk.len
  have hok : EsOk (esL l) := esL_ok hk.len (fun c hc => (hk.nm c hc).2.2.2)
  have hall : filK l l 0 = none → ∀ j x, l[j]? = some x → sndB l j x = true := fun hf j x hx => by
    have := filK_none l 0 hf j x hx
    rw [Nat.zero_add, okK_is hlen] at this
    exact this
  cases h1 with
  | bad k c hf hc he =>
    obtain ⟨c', _, h3, h4, h5⟩ := filK_some l 0 k hf
    rw [Nat.sub_zero, hc] at h3
    injection h3 with h3
    subst h3
    rw [okK_is hlen] at h4
    cases h2 with
    | bad k' c'' hc' hk' hall' he' =>
      have hkk : k = k' := by
        rcases Nat.lt_trichotomy k k' with h | h | h
        · have := hall' k c h hc
          rw [h4] at this
          cases this
        · exact h
        · have := h5 k' c'' (by omega) hc'
          rw [Nat.zero_add, okK_is hlen, hk'] at this
          cases this
      subst hkk
      rw [hc] at hc'
      injection hc' with hc'
      subst hc'
      exact ⟨_, _, _, _, he, he', .inl ⟨rfl, rfl⟩⟩
    | rnd k' c'' hc' ha' hk' hno he' =>
      have := ha' k c hc
      rw [h4] at this
      cases this
    | ok ha' hno he' =>
      have := ha' k c hc
      rw [h4] at this
      cases this
  | rnd s a c hf hs ha hc he =>
    rw [← esL_len l] at hs
    obtain ⟨h3, h4⟩ := round_says hok hs
    rw [ha] at h3 h4
    cases h2 with
    | bad k' c'' hc' hk' hall' he' =>
      have := hall hf k' c'' hc'
      rw [hk'] at this
      cases this
    | rnd k' c'' hc' ha' hk' hno he' =>
      have hak : a = k' := by
        have h5 := (h3 k' hk').2
        rcases h4 with h4 | ⟨d, h4, h6⟩
        · omega
        · have : ¬ d < k' := fun h => hno d h h6
          omega
      subst hak
      rw [hc] at hc'
      injection hc' with hc'
      subst hc'
      exact ⟨_, _, _, _, he, he', .inl ⟨rfl, rfl⟩⟩
    | ok ha' hno he' =>
      rcases h4 with h4 | ⟨d, h4, h6⟩
      · omega
      · exact absurd h6 (hno d)
  | ok s t m sz V hf hs ha he hrt ht hm =>
    rw [← esL_len l] at hs
    obtain ⟨h3, h4⟩ := round_says hok hs
    rw [ha] at h3 h4
    cases h2 with
    | bad k' c'' hc' hk' hall' he' =>
      have := hall hf k' c'' hc'
      rw [hk'] at this
      cases this
    | rnd k' c'' hc' ha' hk' hno he' =>
      have := (h3 k' hk').1
      omega
    | ok ha' hno he' => exact ⟨_, _, _, _, he, he', .inr ⟨_, rfl, rfl⟩⟩
end Go.Proofs.YtbocejiclellfaaDoor

/- What HierTells knows of the table and of the reference, as contracts. -/
set_option linter.unusedSimpArgs false
set_option linter.unusedVariables false
namespace Go.Proofs.YtbocejiclellfaaDoor
open Go.RowKit

/-- The classes are right. -/
structure Rgt (l : List K8) : Prop where
  kok : KOk l
  snd : ∀ j x, l[j]? = some x → sndB l j x = true
  acy : ∀ i, ¬ Cyc (esL l) i
theorem Rgt.fcs {l : List K8} (g : Rgt l) : ∀ x ∈ l, x.fcs.length ≤ 999 := fun x hx => (g.kok.nm x hx).2.2.2
theorem Rgt.rt {l : List K8} (g : Rgt l) : ∀ j x, l[j]? = some x → rtI l x = ofN (nxE (esL l) j) := fun j x hx => rt_is g.kok.len (g.snd j x hx) hx
theorem Rgt.ok {l : List K8} (g : Rgt l) : EsOk (esL l) := esL_ok g.kok.len g.fcs
theorem Rgt.ord {l : List K8} (g : Rgt l) : (ordL (esL l)).length = l.length := by
  rw [((ord_says g.ok).2.2.2 g.acy).2, esL_len]
theorem Rgt.ent {l : List K8} (g : Rgt l) {i : Nat} {x : K8} (hx : l[i]? = some x) : enAt (esL l) (i : Int) = ⟨x.nm, x.face, if x.sup = ⟨#[]⟩ then -1 else fndI l x.sup, (rtI l x).map Int.toNat⟩ := enAt_nat (snd_entry g.kok.len (g.snd i x hx) hx)
theorem Rgt.out {l : List K8} {i : Int} (h : ¬ (0 ≤ i ∧ i < (l.length : Int))) : enAt (esL l) i = en0 := enAt_out (by rw [esL_len]; exact h)
/-- What lies in memory behind New: the program's classes, the table, its map of names. -/
structure Bk (A : Option Addr) (B : Nat) (l : List K8) (r t m sz : Nat) (V : Value) (W : World) : Prop where
  rd : RdKs B W A l
  tl : Tl W (fun g => r ≤ g) t (.map (some m)) V (esL l)
  mp : MapS W m sz (fstF l l.length)
  tb : Tab W
theorem Bk.turn {A : Option Addr} {B : Nat} {l : List K8} {r t m sz : Nat} {V : Value} {W W' : World} (h : Bk A B l r t m sz V W) (k : Turn [] W W') : Bk A B l r t m sz V W' :=
  ⟨h.rd.turn k (by simp), h.tl.turn' k, h.mp.turn k (by simp), h.tb.turn' k⟩
theorem abv_len {Es : List En} (hn : Es.length ≤ 1000) (is : List Int) : (abvL Es is).length ≤ 1000000 := by
  have := (gd_abv (Es := Es) (by omega) is).len
  omega
section
variable {A : Option Addr} {c B : Nat} {l : List K8} {m0 m1 m2 m3 m4 m5 m6 m7 m8 : Value} {r t m sz : Nat} {V : Value}
theorem bk_len (W : World) (b : Bk A B l r t m sz V W) : Calls Tryd.prog 37 #[.pointer (some ⟨t, 0, none⟩)] W fun e w' => e = .returned (.int .i64 (l.length : Int)) ∧ Turn [] W w' := by
  refine (len_any8 b.tl).mono ?_
  rintro e w' ⟨rfl, rfl⟩
  exact ⟨by rw [esL_len], Turn.refl _ _⟩
theorem bk_order (g : Rgt l) (W : World) (b : Bk A B l r t m sz V W) : Calls Tryd.prog 26 #[.pointer (some ⟨t, 0, none⟩)] W fun e w' => ∃ U, e = .returned U ∧ OwnI w' W.heap.size U (ordL (esL l)) ∧ Turn [] W w' := order_any b.tl g.ok
theorem bk_above (g : Rgt l) (W : World) (b : Bk A B l r t m sz V W) (P : Option Addr) (ni ci : Nat) (is : List Int) (hI : Ints W P is) (hni : ni = is.length) (hn2 : ni ≤ 1000000) : Calls Tryd.prog 35 #[.pointer (some ⟨t, 0, none⟩), .slice P ni ci] W fun e w' => ∃ U, e = .returned U ∧ OwnI w' W.heap.size U (abvL (esL l) is) ∧ Turn [] W w' :=
  above_any b.tl (fun i => by have := g.ok.few i; omega) b.tb P ni ci is hI hni hn2
theorem bk_index (W : World) (b : Bk A B l r t m sz V W) (x : ByteArray) (hx : x.size ≤ 562949953421312) : Calls Tryd.prog 42 #[.pointer (some ⟨t, 0, none⟩), .string x] W fun e w' => e = .returned (.tuple #[.int .i64 (((fstF l l.length x).getD 0 : Nat) : Int), .bool (fstF l l.length x).isSome]) ∧ Turn [] W w' := by
  refine (index_any8 b.tl b.mp x hx).mono ?_
  rintro e w' ⟨rfl, rfl⟩
  exact ⟨rfl, Turn.refl _ _⟩
theorem bk_name (W : World) (b : Bk A B l r t m sz V W) (i : Int) : Calls Tryd.prog 43 #[.pointer (some ⟨t, 0, none⟩), .int .i64 i] W fun e w' => e = .returned (.string (enAt (esL l) i).nm) ∧ Turn [] W w' := name_any8 b.tl i
theorem bk_face (W : World) (b : Bk A B l r t m sz V W) (i : Int) : Calls Tryd.prog 36 #[.pointer (some ⟨t, 0, none⟩), .int .i64 i] W fun e w' => e = .returned (.bool (enAt (esL l) i).face) ∧ Turn [] W w' := face_any8 b.tl i
theorem bk_right (W : World) (b : Bk A B l r t m sz V W) (i : Int) (hrt : (enAt (esL l) i).rt.length ≤ 1000000) : Calls Tryd.prog 40 #[.pointer (some ⟨t, 0, none⟩), .int .i64 i] W fun e w' => ∃ U, e = .returned U ∧ OwnI w' W.heap.size U (ofN (enAt (esL l) i).rt) ∧ Turn [] W w' := right_any8 b.tl i hrt
theorem bk_rright (g : Rgt l) (W : World) (b : Bk A B l r t m sz V W) (i : Nat) (x : K8) (hx : l[i]? = some x) : Calls Tryd.prog 50 #[.agg #[.slice A l.length c, m0, m1, m2, m3, m4, m5, m6, m7, m8], .int .i64 (i : Int)] W fun e w' => ∃ U, e = .returned U ∧ OwnI w' W.heap.size U (ofN (enAt (esL l) (i : Int)).rt) ∧ Turn [] W w' := by
  have := rright_any A c B l m0 m1 m2 m3 m4 m5 m6 m7 m8 i x W b.rd g.kok.len hx (g.fcs x (List.mem_of_getElem? hx))
  rw [g.rt i x hx] at this
  exact this
theorem bk_find (g : Rgt l) (W : World) (b : Bk A B l r t m sz V W) (s : ByteArray) : Calls Tryd.prog 49 #[.agg #[.slice A l.length c, m0, m1, m2, m3, m4, m5, m6, m7, m8], .string s] W fun e w' => e = .returned (.int .i64 (fndI l s)) ∧ Turn [] W w' :=
  rfind_any A c B l m0 m1 m2 m3 m4 m5 m6 m7 m8 s W b.rd g.kok.len
end
/-- What Fault answers: a fault, or nothing of a program that is right. -/
theorem ft_two {l : List K8} (hk : KOk l) {e : Ending} (h : FtR l e) : (∃ p q : Int, e = .returned (.agg (ftC 11 p q))) ∨ (e = .returned (.agg (ftC 0 0 0)) ∧ Rgt l) := by
  cases h with
  | bad k c hc hk' hall he => exact .inl ⟨_, _, he⟩
  | rnd k c hc hall hk' hno he => exact .inl ⟨_, _, he⟩
  | ok hall hno he => exact .inr ⟨he, hk, hall, hno⟩
/-- What New answers of a program that is right. -/
theorem new_rgt {l : List K8} (g : Rgt l) {r : Nat} {e1 : Ending} {w1 : World} (h1 : NwR l r e1 w1) : ∃ (t m sz : Nat) (V : Value), e1 = .returned (.tuple #[.pointer (some ⟨t, 0, none⟩), .agg (ftC 0 0 0)]) ∧ Tl w1 (fun g => r ≤ g) t (.map (some m)) V (esL l) ∧ MapS w1 m sz (fstF l l.length) := by
  obtain ⟨P, er, p, q, he1, he2, hpe⟩ := faults_agree g.kok h1 (.ok g.snd g.acy rfl)
  simp only [ftC, Array.mk.injEq, List.cons.injEq, Value.agg.injEq, Ending.returned.injEq, Value.int.injEq, and_true, true_and] at he2
  cases h1 with
  | bad k c hf hc he' =>
    rw [he'] at he1
    simp only [ftC, Array.mk.injEq, List.cons.injEq, Value.pointer.injEq, Value.agg.injEq, Value.tuple.injEq, Ending.returned.injEq, Value.int.injEq, and_true, true_and] at he1
    omega
  | rnd s a c hf hs ha hc he' =>
    rw [he'] at he1
    simp only [ftC, Array.mk.injEq, List.cons.injEq, Value.pointer.injEq, Value.agg.injEq, Value.tuple.injEq, Ending.returned.injEq, Value.int.injEq, and_true, true_and] at he1
    omega
  | ok s t m sz V hf hs ha he' hrt ht hm => exact ⟨t, m, sz, V, he', ht, hm⟩
end Go.Proofs.YtbocejiclellfaaDoor

/- Texts of types: the words, the brackets behind. -/
set_option linter.unusedSimpArgs false
set_option linter.unusedVariables false
namespace Go.Proofs.YtbocejiclellfaaDoor
open Go.RowKit

def tInt : ByteArray := ⟨#[105, 110, 116]⟩
def tNull : ByteArray := ⟨#[110, 117, 108, 108]⟩
def tVoid : ByteArray := ⟨#[118, 111, 105, 100]⟩
def tBr : ByteArray := ⟨#[91, 93]⟩
/-- What stands ahead of the brackets; none: there are none. -/
def cutB (t : ByteArray) : Option ByteArray := if 2 ≤ t.size ∧ t.extract (t.size - 2) t.size = tBr then some (t.extract 0 (t.size - 2)) else none
theorem cutB_int : cutB tInt = none := by decide +kernel
theorem cutB_null : cutB tNull = none := by decide +kernel
theorem cutB_app (s : ByteArray) : cutB (s ++ tBr) = some s := by
  have h2 : tBr.size = 2 := rfl
  have hs : (s ++ tBr).size = s.size + 2 := by rw [ByteArray.size_append, h2]
  unfold cutB
  rw [if_pos]
  · congr 1
    rw [hs, show s.size + 2 - 2 = s.size by omega]
    apply ByteArray.ext
    simp [ByteArray.data_extract, ByteArray.data_append]
  · refine ⟨by omega, ?_⟩
    rw [hs, show s.size + 2 - 2 = s.size by omega]
    apply ByteArray.ext
    simp [ByteArray.data_extract, ByteArray.data_append, tBr]
theorem br_not {t : ByteArray} (h : ¬ 2 ≤ t.size) : cutB t = none := by
  unfold cutB
  rw [if_neg (fun c => h c.1)]
theorem br_yes {t : ByteArray} (h : 2 ≤ t.size) (e : t.extract (t.size - 2) t.size = tBr) : cutB t = some (t.extract 0 (t.size - 2)) := by
  unfold cutB
  rw [if_pos ⟨h, e⟩]
theorem br_no {t : ByteArray} (e : ¬ t.extract (t.size - 2) t.size = tBr) : cutB t = none := by
  unfold cutB
  rw [if_neg (fun c => e c.2)]
theorem br_list {a : ByteArray} : (a.toList == [91, 93]) = decide (a = tBr) := by
  rw [Bool.eq_iff_iff, beq_iff_eq, decide_eq_true_eq, ByteArray.toList_eq]
  constructor
  · intro h
    apply ByteArray.ext
    rw [← Array.toList_inj, h]
    rfl
  · intro h
    rw [h]
    rfl
end Go.Proofs.YtbocejiclellfaaDoor

/- Types as texts: plain. -/
set_option linter.unusedSimpArgs false
set_option linter.unusedVariables false
set_option linter.unusedSectionVars false
namespace Go.Proofs.YtbocejiclellfaaDoor
open Go.RowKit

def elI (l : List K8) (t : ByteArray) : Option Nat := (cutB t).bind (fstF l l.length)
def clI (l : List K8) (t : ByteArray) : Option Nat := if ((elI l t).isSome || decide (t = tInt) || decide (t = tNull)) = true then none else fstF l l.length t
def refB (l : List K8) (t : ByteArray) : Bool := decide (t = tNull) || (elI l t).isSome || (clI l t).isSome
def tyB (l : List K8) (t : ByteArray) : Bool := decide (t = tInt) || refB l t
def rtyB (l : List K8) : Option Nat → Option Nat → Bool
  | some a, some b => hasB (abvL (esL l) [(a : Int)]) (b : Int)
  | _, _ => false
def belB (l : List K8) (t u : ByteArray) : Bool := if t = u then tyB l t else if t = tNull then refB l u else rtyB l (clI l t) (clI l u)
/-- No class has a name that is a type's own, or written as one. -/
def PlainL (l : List K8) : Prop := ∀ x ∈ l, x.nm ≠ ⟨#[]⟩ ∧ x.nm ≠ tInt ∧ x.nm ≠ tNull ∧ x.nm ≠ tVoid ∧ cutB x.nm = none

/-- The types by themselves. -/
inductive Kd
  | int
  | null
  | cl (j : Nat)
  | ar (j : Nat)
  deriving DecidableEq
def nmL (l : List K8) (j : Nat) : ByteArray := ((l[j]?).map (·.nm)).getD ⟨#[]⟩
def txK (l : List K8) : Kd → ByteArray
  | .int => tInt
  | .null => tNull
  | .cl j => nmL l j
  | .ar j => nmL l j ++ tBr
def okKd (l : List K8) : Kd → Prop
  | .int => True
  | .null => True
  | .cl j => j < l.length
  | .ar j => j < l.length
def isAr : Kd → Bool
  | .ar _ => true
  | _ => false
theorem nmL_at {l : List K8} {j : Nat} {x : K8} (h : l[j]? = some x) : nmL l j = x.nm := by simp [nmL, h]
theorem kd_at {l : List K8} {j : Nat} (h : j < l.length) : ∃ x, l[j]? = some x ∧ nmL l j = x.nm := by
  obtain ⟨x, hx⟩ := at_lt h
  exact ⟨x, hx, nmL_at hx⟩
section
variable {l : List K8} (g : Rgt l) (p : PlainL l)
include g p
theorem el_tx {k : Kd} (hk : okKd l k) : elI l (txK l k) = match k with | .ar j => some j | _ => none := by
  unfold elI
  cases k with
  | int => rw [txK, cutB_int]; rfl
  | null => rw [txK, cutB_null]; rfl
  | cl j =>
    obtain ⟨x, hx, hn⟩ := kd_at hk
    rw [txK, hn, (p x (List.mem_of_getElem? hx)).2.2.2.2]
    rfl
  | ar j =>
    obtain ⟨x, hx, hn⟩ := kd_at hk
    rw [txK, cutB_app, Option.bind_some, hn]
    exact snd_first (g.snd j x hx)
theorem cl_tx {k : Kd} (hk : okKd l k) : clI l (txK l k) = match k with | .cl j => some j | _ => none := by
  unfold clI
  rw [el_tx g p hk]
  cases k with
  | int => rfl
  | null => rfl
  | cl j =>
    obtain ⟨x, hx, hn⟩ := kd_at hk
    have hp := p x (List.mem_of_getElem? hx)
    rw [txK, hn, if_neg (by simp [hp.2.1, hp.2.2.1])]
    exact snd_first (g.snd j x hx)
  | ar j => rfl
theorem tx_inj {k k' : Kd} (hk : okKd l k) (hk' : okKd l k') (h : txK l k = txK l k') : k = k' := by
  have he := el_tx g p hk
  have he' := el_tx g p hk'
  have hc := cl_tx g p hk
  have hc' := cl_tx g p hk'
  rw [h, he'] at he
  rw [h, hc'] at hc
  have hin : tInt ≠ tNull := by decide +kernel
  have hni : tNull ≠ tInt := by decide +kernel
  cases k with
  | int => cases k' with
    | int => rfl
    | null => exact absurd h hin
    | cl j => cases hc
    | ar j => cases he
  | null => cases k' with
    | int => exact absurd h hni
    | null => rfl
    | cl j => cases hc
    | ar j => cases he
  | cl i => cases k' with
    | int => cases hc
    | null => cases hc
    | cl j =>
      injection hc with hc
      rw [hc]
    | ar j => cases he
  | ar i => cases k' with
    | int => cases he
    | null => cases he
    | cl j => cases he
    | ar j =>
      injection he with he
      rw [he]
theorem null_tx {k : Kd} (hk : okKd l k) : (txK l k = tNull) ↔ k = .null := ⟨fun h => tx_inj g p hk (k' := .null) trivial h, fun h => by rw [h]; rfl⟩
theorem int_tx {k : Kd} (hk : okKd l k) : (txK l k = tInt) ↔ k = .int := ⟨fun h => tx_inj g p hk (k' := .int) trivial h, fun h => by rw [h]; rfl⟩
theorem ref_tx {k : Kd} (hk : okKd l k) : refB l (txK l k) = !decide (k = .int) := by
  unfold refB
  rw [el_tx g p hk, cl_tx g p hk]
  have h1 := null_tx g p hk
  cases k with
  | int => simp [h1]
  | null => simp [h1]
  | cl j => simp
  | ar j => simp
theorem is_tx {k : Kd} (hk : okKd l k) : tyB l (txK l k) = true := by
  unfold tyB
  rw [ref_tx g p hk]
  have h1 := int_tx g p hk
  cases k with
  | int => simp [h1]
  | null => simp
  | cl j => simp
  | ar j => simp
/-- May one stand for the other? -/
def belK (l : List K8) (k k' : Kd) : Bool := if k = k' then true else if k = .null then !decide (k' = .int) else
  match k, k' with
  | .cl a, .cl b => hasB (abvL (esL l) [(a : Int)]) (b : Int)
  | _, _ => false
theorem bel_tx {k k' : Kd} (hk : okKd l k) (hk' : okKd l k') : belB l (txK l k) (txK l k') = belK l k k' := by
  unfold belB belK
  by_cases h : k = k'
  · subst h
    rw [if_pos rfl, if_pos rfl, is_tx g p hk]
  · rw [if_neg (fun e => h (tx_inj g p hk hk' e)), if_neg h]
    by_cases h0 : k = .null
    · rw [if_pos ((null_tx g p hk).2 h0), if_pos h0, ref_tx g p hk']
    · rw [if_neg (fun e => h0 ((null_tx g p hk).1 e)), if_neg h0, cl_tx g p hk, cl_tx g p hk']
      cases k <;> cases k' <;> rfl
omit p in
theorem up_cl {a b : Nat} : hasB (abvL (esL l) [(a : Int)]) (b : Int) = true ↔ Up (esL l) a b := abv_up (by have := g.ok.n; omega) a b
/-- Two that stand for each other are one. -/
theorem bel_anti {k k' : Kd} (h : belK l k k' = true) (h' : belK l k' k = true) : k = k' := by
  refine Classical.byContradiction fun hn => ?_
  unfold belK at h h'
  rw [if_neg hn] at h
  rw [if_neg (fun e => hn e.symm)] at h'
  cases k <;> cases k' <;> simp_all
  rename_i a b
  have h1 := (up_cl g).1 h
  have h2 := (up_cl g).1 h'
  rcases (up_ab1.1 h1).2 with e | e
  · exact hn e.symm
  · obtain ⟨j, hj, hu⟩ := e
    exact g.acy a ⟨h1.start.1, j, hj, Ua.trans hu h2⟩
theorem bel_trans {a b c : Kd} (h : belK l a b = true) (h' : belK l b c = true) : belK l a c = true := by
  by_cases e1 : a = b
  · rw [e1]; exact h'
  by_cases e2 : b = c
  · rw [← e2]; exact h
  by_cases e3 : a = c
  · unfold belK; rw [if_pos e3]
  unfold belK at h h' ⊢
  rw [if_neg e1] at h
  rw [if_neg e2] at h'
  rw [if_neg e3]
  cases a <;> cases b <;> cases c <;> simp_all
  exact (up_cl g).2 (Ua.trans ((up_cl g).1 h) ((up_cl g).1 h'))
end
/-- Arrays stand for themselves alone, and null for each of them. -/
theorem bel_arr {l : List K8} {a b : Kd} (h : (isAr a || isAr b) = true) : belK l a b = (decide (a = b) || (isAr b && decide (a = .null))) := by
  unfold belK
  by_cases e : a = b
  · rw [if_pos e]; simp [e]
  · rw [if_neg e]
    cases a <;> cases b <;> simp_all [isAr]
end Go.Proofs.YtbocejiclellfaaDoor

/- The brackets behind a text: strings.CutSuffix. -/
set_option linter.unusedSimpArgs false
set_option linter.unusedVariables false
namespace Go.Proofs.YtbocejiclellfaaDoor
open Go.RowKit

set_option maxHeartbeats 1600000 in
theorem hasSuffix_any (t : ByteArray) (w : World) (ht : t.size ≤ 562949953421312) :
    Calls Tryd.prog 79 #[.string t, .string ⟨#[91, 93]⟩] w fun e w' => e = .returned (.bool (cutB t).isSome) ∧ w = w' := by
  obtain ⟨n, hn⟩ : ∃ n, t.size = n := ⟨_, rfl⟩
  have hsz : (⟨#[91, 93]⟩ : ByteArray).size = 2 := rfl
  by_cases h : 2 ≤ n
  · have d1 : decide ((n : Int) ≥ 2) = true := by simp; omega
    have d2 : decide ((2 : Int) ≤ (n : Int)) = true := by simp; omega
    have hw : IntKind.i64.wrap ((n : Int) - 2) = (n : Int) - 2 := by rw [IntKind.wrap_i64]; omega
    have hbl := br_list (a := t.extract (n - 2) n)
    by_cases e : t.extract (n - 2) n = tBr
    · have e1 : ((t.extract (n - 2) n).toList == [91, 93]) = true := by rw [hbl, e]; simp
      have HC := Lib.hid (br_yes (t := t) (by rw [hn]; exact h) (by rw [hn]; exact e))
      clear e hbl
      go_enter Tryd.func79, Tryd.ntmps79
      go_wp2_with fail
      go_ret
      exact ⟨by rw [HC.out]; rfl, rfl⟩
    · have e1 : ((t.extract (n - 2) n).toList == [91, 93]) = false := by rw [hbl]; simp [e]
      have HC := Lib.hid (br_no (t := t) (by rw [hn]; exact e))
      clear e hbl
      go_enter Tryd.func79, Tryd.ntmps79
      go_wp2_with fail
      go_ret
      exact ⟨by rw [HC.out]; rfl, rfl⟩
  · have d1 : decide ((n : Int) ≥ 2) = false := by simp; omega
    have d2 : decide ((2 : Int) ≤ (n : Int)) = false := by simp; omega
    have HC := Lib.hid (br_not (t := t) (by rw [hn]; exact h))
    go_enter Tryd.func79, Tryd.ntmps79
    go_wp2_with fail
    go_ret
    exact ⟨by rw [HC.out]; rfl, rfl⟩
theorem cutB_size {t s : ByteArray} (h : cutB t = some s) : 2 ≤ t.size ∧ s = t.extract 0 (t.size - 2) := by
  unfold cutB at h
  split at h
  · rename_i c
    injection h with h
    exact ⟨c.1, h.symm⟩
  · cases h
set_option maxHeartbeats 1600000 in
theorem slCut_any (t : ByteArray) (w : World) (ht : t.size ≤ 562949953421312) :
    Calls Tryd.prog 68 #[.string t, .string ⟨#[91, 93]⟩] w fun e w' => e = .returned (.tuple #[.string ((cutB t).getD t), .bool (cutB t).isSome]) ∧ w = w' := by
  have HS := Lib.hid (hasSuffix_any t w ht)
  obtain ⟨n, hn⟩ : ∃ n, t.size = n := ⟨_, rfl⟩
  have hsz : (⟨#[91, 93]⟩ : ByteArray).size = 2 := rfl
  obtain ⟨o, ho⟩ : ∃ o, cutB t = o := ⟨_, rfl⟩
  rw [ho] at HS ⊢
  cases o with
  | none =>
    go_enter Tryd.func68, Tryd.ntmps68
    go_wp2_with fail
    refine HS.out.mono ?_
    rintro e w1 ⟨rfl, rfl⟩
    go_wp2_with fail
    go_ret2
    exact ⟨rfl, rfl⟩
  | some s =>
    obtain ⟨h2, hs⟩ := cutB_size ho
    rw [hn] at h2 hs
    have hw : IntKind.i64.wrap ((n : Int) - 2) = (n : Int) - 2 := by rw [IntKind.wrap_i64]; omega
    have HSS := Lib.hid hs
    clear hs ho
    go_enter Tryd.func68, Tryd.ntmps68
    go_wp2_with fail
    refine HS.out.mono ?_
    rintro e w1 ⟨rfl, rfl⟩
    go_wp2_with fail
    go_ret2
    exact ⟨by rw [HSS.out]; rfl, rfl⟩
set_option maxHeartbeats 1600000 in
theorem cut_any (t : ByteArray) (w : World) (ht : t.size ≤ 562949953421312) :
    Calls Tryd.prog 41 #[.string t, .string ⟨#[91, 93]⟩] w fun e w' => e = .returned (.tuple #[.string ((cutB t).getD t), .bool (cutB t).isSome]) ∧ w = w' := by
  have HS := Lib.hid (slCut_any t w ht)
  obtain ⟨s, hs⟩ : ∃ s, (cutB t).getD t = s := ⟨_, rfl⟩
  obtain ⟨o, ho⟩ : ∃ o, (cutB t).isSome = o := ⟨_, rfl⟩
  rw [hs, ho] at HS ⊢
  clear hs ho
  go_enter Tryd.func41, Tryd.ntmps41
  go_wp2_with fail
  refine HS.out.mono ?_
  rintro e w1 ⟨rfl, rfl⟩
  go_wp2_with fail
  go_ret2
  exact ⟨rfl, rfl⟩
end Go.Proofs.YtbocejiclellfaaDoor

/- slices.BinarySearch of rising ints. -/
set_option linter.unusedSimpArgs false
set_option linter.unusedVariables false
namespace Go.Proofs.YtbocejiclellfaaDoor
open Go.RowKit

set_option maxHeartbeats 1600000 in
theorem nan_any (x : Int) (w : World) : Calls Tryd.prog 77 #[.int .i64 x] w fun e w' => e = .returned (.bool false) ∧ w = w' := by
  have d : (x != x) = false := by simp
  go_enter Tryd.func77, Tryd.ntmps77
  go_wp2_with fail
  go_ret
  exact ⟨rfl, rfl⟩
set_option maxHeartbeats 1600000 in
theorem nan_any' (x : Int) (w : World) : Calls Tryd.prog 61 #[.int .i64 x] w fun e w' => e = .returned (.bool false) ∧ w = w' := by
  have d : (x != x) = false := by simp
  go_enter Tryd.func61, Tryd.ntmps61
  go_wp2_with fail
  go_ret
  exact ⟨rfl, rfl⟩
set_option maxHeartbeats 1600000 in
theorem cless_any (x y : Int) (w : World) : Calls Tryd.prog 60 #[.int .i64 x, .int .i64 y] w fun e w' => e = .returned (.bool (decide (x < y))) ∧ w = w' := by
  have HN := Lib.hid (nan_any x w)
  go_enter Tryd.func60, Tryd.ntmps60
  go_wp2_with fail
  refine HN.out.mono ?_
  rintro e w1 ⟨rfl, rfl⟩
  go_wp2_with fail
  go_ret
  exact ⟨rfl, rfl⟩
theorem sd_lt {L : List Int} (h : Sd L) {i j : Nat} {x y : Int} (hi : L[i]? = some x) (hj : L[j]? = some y) (hij : i < j) : x < y := by
  obtain ⟨h1, rfl⟩ := List.getElem?_eq_some_iff.1 hi
  obtain ⟨h2, rfl⟩ := List.getElem?_eq_some_iff.1 hj
  exact List.pairwise_iff_getElem.1 h i j h1 h2 hij
set_option maxHeartbeats 3200000 in
theorem bsInt_any (P : Option Addr) (n c : Nat) (L : List Int) (v : Int) (w : World) (h : Ints w P L) (hn : n = L.length) (hl : n ≤ 1000000) (hs : Sd L) :
    Calls Tryd.prog 34 #[.slice P n c, .int .i64 v] w fun e w' => ∃ k : Int, e = .returned (.tuple #[.int .i64 k, .bool (hasB L v)]) ∧ Turn [] w w' := by
  have HN := Lib.hid hn
  have H := Lib.hid h
  have HS := Lib.hid hs
  clear hn h hs
  go_enter Tryd.func34, Tryd.ntmps34
  go_wp2_with fail
  go_loopw [7, 8] (fun p q wr => ∃ i j : Nat, i ≤ j ∧ j ≤ n ∧ p = .int .i64 i ∧ q = .int .i64 j ∧ Hid (∀ (k : Nat) x, k < i → L[k]? = some x → x < v) ∧ Hid (∀ (k : Nat) x, j ≤ k → L[k]? = some x → v ≤ x) ∧ Hid (Turn [] w wr)) (fun p q _ => (intOf q - intOf p).toNat)
  case atStart => exact ⟨0, n, by omega, by omega, rfl, rfl, Lib.hid fun k r hk => by omega, Lib.hid fun k r hk hr => by
    have := (List.getElem?_eq_some_iff.1 hr).1
    have := HN.out
    omega, Lib.hid (Turn.refl _ _)⟩
  case round =>
    obtain ⟨i, j, hij, hj, rfl, rfl, H1, H2, HT⟩ := hrel
    by_cases hlt : i < j
    · have d0 : decide ((i : Int) < (j : Int)) = true := by simp; omega
      obtain ⟨m, hm⟩ : ∃ m, m = (i + j) / 2 := ⟨_, rfl⟩
      obtain ⟨x, hx⟩ := at_lt (show m < L.length by have := HN.out; omega)
      obtain ⟨g, off, rfl, hg, hc⟩ := (H.out.below HT.out) m x hx
      have HX := Lib.hid hx
      have hm1 : i ≤ m := by omega
      have hm2 : m < j := by omega
      have HM := Lib.hid hm
      have hmi : ((i : Int) + (j : Int)) / 2 = (m : Int) := by omega
      have HL := Lib.hid (cless_any x v wr)
      clear hx hm
      obtain ⟨b, hb⟩ : ∃ b, decide (x < v) = b := ⟨_, rfl⟩
      rw [hb] at HL
      have HB := Lib.hid hb
      clear hb
      go_wp2_with fail
      refine HL.out.mono ?_
      rintro e w1 ⟨rfl, rfl⟩
      cases b with
      | true =>
        go_wp2_with fail
        go_roundw
        case rel => exact ⟨m + 1, j, by omega, by omega, by go_num, rfl, Lib.hid fun k s hk hs => by
          have hxv : x < v := by simpa using HB.out
          rcases Nat.lt_or_ge k m with h3 | h3
          · have := sd_lt HS.out hs HX.out h3
            omega
          · have e : k = m := by omega
            subst e
            have := HX.out.symm.trans hs
            injection this with e
            omega, H2, HT⟩
        case measure => simp [intOf]; omega
      | false =>
        go_wp2_with fail
        go_roundw
        case rel => exact ⟨i, m, by omega, by omega, rfl, rfl, H1, Lib.hid fun k s hk hs => by
          have hxv : v ≤ x := by have := HB.out; simp at this; omega
          rcases Nat.lt_or_ge m k with h3 | h3
          · have := sd_lt HS.out HX.out hs h3
            omega
          · have e : k = m := by omega
            subst e
            have := HX.out.symm.trans hs
            injection this with e
            omega, HT⟩
        case measure => simp [intOf]; omega
    · obtain rfl : i = j := by omega
      have d0 : decide ((i : Int) < (i : Int)) = false := by simp
      by_cases hin : i < n
      · obtain ⟨x, hx⟩ := at_lt (show i < L.length by have := HN.out; omega)
        obtain ⟨g, off, rfl, hg, hc⟩ := (H.out.below HT.out) i x hx
        have hdi : decide ((i : Int) < (n : Int)) = true := by simp; omega
        have hh : hasB L v = (x == v) := by
          rw [Bool.eq_iff_iff, hasB_iff, beq_iff_eq]
          constructor
          · intro hv
            obtain ⟨k, hk⟩ := List.getElem?_of_mem hv
            rcases Nat.lt_trichotomy k i with h3 | h3 | h3
            · have := H1.out k v h3 hk
              omega
            · subst h3
              have := hx.symm.trans hk
              injection this
            · have h4 := sd_lt HS.out hx hk h3
              have h5 := H2.out i x (Nat.le_refl _) hx
              omega
          · rintro rfl
            exact List.mem_of_getElem? hx
        have HH := Lib.hid hh
        have HNx := Lib.hid (nan_any' x wr)
        clear hx hh
        cases hq : (x == v) with
        | true =>
          rw [hq] at HH
          go_wp2_with fail
          go_ret2
          exact ⟨_, ret_ib rfl HH.out.symm, HT.out⟩
        | false =>
          rw [hq] at HH
          go_wp2_with fail
          refine HNx.out.mono ?_
          rintro e w1 ⟨rfl, rfl⟩
          go_wp2_with fail
          go_ret2
          exact ⟨_, ret_ib rfl HH.out.symm, HT.out⟩
      · have hdi : decide ((i : Int) < (n : Int)) = false := by simp; omega
        have hh : hasB L v = false := by
          rw [Bool.eq_false_iff]
          intro hv
          rw [hasB_iff] at hv
          obtain ⟨k, hk⟩ := List.getElem?_of_mem hv
          have h4 := (List.getElem?_eq_some_iff.1 hk).1
          have := HN.out
          have := H1.out k v (by omega) hk
          omega
        have HH := Lib.hid hh
        clear hh
        go_wp2_with fail
        go_ret2
        exact ⟨_, ret_ib rfl HH.out.symm, HT.out⟩
end Go.Proofs.YtbocejiclellfaaDoor

/- The types in memory: what their methods answer. -/
set_option linter.unusedSimpArgs false
set_option linter.unusedVariables false
set_option linter.unusedSectionVars false
namespace Go.Proofs.YtbocejiclellfaaDoor
open Go.RowKit

/-- Texts along a row. -/
def Txs (W : World) (P : Option Addr) (ts : List ByteArray) : Prop := ∀ (k : Nat) (s : ByteArray), ts[k]? = some s → ∃ b off, P = some ⟨b, off, none⟩ ∧ b < W.heap.size ∧ W.cell? ⟨b, off + k, none⟩ = some (.string s)
theorem Txs.turn {W W' : World} {P : Option Addr} {ts : List ByteArray} (h : Txs W P ts) (k : Turn [] W W') : Txs W' P ts := fun j s hs => by
  obtain ⟨b, off, e, hb, hc⟩ := h j s hs
  exact ⟨b, off, e, Nat.lt_of_lt_of_le hb k.size, (k.cell (p := ⟨b, off + j, none⟩) hb (by simp)).trans hc⟩
theorem txs_one (W : World) (T : TypeId) (s : ByteArray) : Txs (W.alloc (.cells #[.string s] T)) (some ⟨W.heap.size, 0, none⟩) [s] := fun k z hz => by
  have h := heap_alloc_new W (.cells #[.string s] T)
  refine ⟨_, 0, rfl, by simp, ?_⟩
  rw [cell_of_row _ W.heap.size _ _ _ _ h]
  match k, hz with
  | 0, hz => simp at hz; subst hz; simp
  | k + 1, hz => simp at hz
/-- What New makes of the table at t: the types at x. -/
structure Ty (A : Option Addr) (B : Nat) (l : List K8) (r t m sz : Nat) (V : Value) (x : Nat) (VO : Value) (W : World) : Prop where
  bk : Bk A B l r t m sz V W
  blk : W.heap[x]? = some (.cells #[.pointer (some ⟨t, 0, none⟩), VO] 65 (0, 0))
  ord : OwnI W 0 VO (ordL (esL l))
  len : l.length ≤ 1000
  snd : ∀ j x, l[j]? = some x → sndB l j x = true
theorem Ty.turn {A : Option Addr} {B : Nat} {l : List K8} {r t m sz : Nat} {V : Value} {x : Nat} {VO : Value} {W W' : World} (h : Ty A B l r t m sz V x VO W) (k : Turn [] W W') : Ty A B l r t m sz V x VO W' :=
  ⟨h.bk.turn k, k.heap h.blk (by simp), h.ord.turn' k, h.len, h.snd⟩
theorem eq_ptrT (a : Addr) (w : World) : (binOp .eql 33 (.pointer (some a)) (.pointer none)).run Tryd.prog w = .ok (.bool false) w := by kernel_rfl
theorem en_nm {l : List K8} (hl : l.length ≤ 1000) (hs : ∀ j x, l[j]? = some x → sndB l j x = true) (i : Nat) : (enAt (esL l) (i : Int)).nm = nmL l i := by
  rcases Nat.lt_or_ge i l.length with h | h
  · obtain ⟨x, hx⟩ := at_lt h
    rw [enAt_nat (snd_entry hl (hs i x hx) hx), nmL_at hx]
  · rw [enAt_out (by rw [esL_len]; omega)]
    unfold nmL
    rw [List.getElem?_eq_none h]
    rfl
theorem lit_list {a : ByteArray} {L : List UInt8} : (a.toList == L) = decide (a = ⟨L.toArray⟩) := by
  rw [Bool.eq_iff_iff, beq_iff_eq, decide_eq_true_eq, ByteArray.toList_eq]
  constructor
  · intro h
    apply ByteArray.ext
    rw [← Array.toList_inj, h]
  · intro h
    rw [h]
def elT (l : List K8) (s : ByteArray) : ByteArray := match elI l s with | some i => nmL l i | none => ⟨#[]⟩
attribute [local go_sem] eq_ptrT
section
variable {A : Option Addr} {B : Nat} {l : List K8} {r t m sz : Nat} {V VO : Value} {x : Nat}
set_option maxHeartbeats 1600000 in
theorem lname_any (W : World) (b : Bk A B l r t m sz V W) (i : Int) : Calls Tryd.prog 25 #[.agg #[.pointer (some ⟨t, 0, none⟩), VO], .int .i64 i] W fun e w' => e = .returned (.string (enAt (esL l) i).nm) ∧ Turn [] W w' := by
  obtain ⟨r0, hr0⟩ : ∃ r, W.heap.size = r := ⟨_, rfl⟩
  obtain ⟨W0, hW0⟩ : ∃ W', W.alloc (.cells #[.pointer (some ⟨t, 0, none⟩), VO] 61) = W' := ⟨_, rfl⟩
  have t0 : Turn [] W W0 := by rw [← hW0]; exact (Turn.refl [] W).alloc _
  have c0 : W0.cell? ⟨r0, 0, none⟩ = some (.pointer (some ⟨t, 0, none⟩)) := by rw [← hW0, ← hr0]; exact cell_of_row _ W.heap.size 0 _ _ _ (heap_alloc_new W _)
  have HN := Lib.hid (bk_name W0 (b.turn t0) i)
  obtain ⟨y, hy⟩ : ∃ y, (enAt (esL l) i).nm = y := ⟨_, rfl⟩
  rw [hy] at HN ⊢
  have HT := Lib.hid t0
  have HW0 := Lib.hid hW0
  have HR0 := Lib.hid hr0
  clear b t0 hW0 hr0 hy
  go_enter Tryd.func25, Tryd.ntmps25
  go_upto_region 1 with fail
  rw [HR0.out, HW0.out]
  go_wp2_with fail
  refine HN.out.mono ?_
  rintro e w1 ⟨rfl, t1⟩
  have HT1 := Lib.hid t1
  clear t1
  go_wp2_with fail
  go_ret
  exact ⟨rfl, HT.out.trans' HT1.out⟩
set_option maxHeartbeats 1600000 in
theorem nelem_any (W : World) (b : Bk A B l r t m sz V W) (s : ByteArray) (hs : s.size ≤ 562949953421312) : Calls Tryd.prog 24 #[.agg #[.pointer (some ⟨t, 0, none⟩), VO], .string s] W fun e w' => e = .returned (.tuple #[.int .i64 (((elI l s).getD 0 : Nat) : Int), .bool (elI l s).isSome]) ∧ Turn [] W w' := by
  obtain ⟨r0, hr0⟩ : ∃ r, W.heap.size = r := ⟨_, rfl⟩
  obtain ⟨W0, hW0⟩ : ∃ W', W.alloc (.cells #[.pointer (some ⟨t, 0, none⟩), VO] 63) = W' := ⟨_, rfl⟩
  have t0 : Turn [] W W0 := by rw [← hW0]; exact (Turn.refl [] W).alloc _
  have c0 : W0.cell? ⟨r0, 0, none⟩ = some (.pointer (some ⟨t, 0, none⟩)) := by rw [← hW0, ← hr0]; exact cell_of_row _ W.heap.size 0 _ _ _ (heap_alloc_new W _)
  have HC := Lib.hid (cut_any s W0 hs)
  have HT := Lib.hid t0
  have HW0 := Lib.hid hW0
  have HR0 := Lib.hid hr0
  obtain ⟨o, ho⟩ : ∃ o, cutB s = o := ⟨_, rfl⟩
  rw [ho] at HC
  cases o with
  | none =>
    have HE : Hid (elI l s = none) := Lib.hid (by unfold elI; rw [ho]; rfl)
    clear b t0 hW0 hr0 ho
    go_enter Tryd.func24, Tryd.ntmps24
    go_upto_region 1 with fail
    rw [HR0.out, HW0.out]
    go_wp2_with fail
    refine HC.out.mono ?_
    rintro e w1 ⟨rfl, rfl⟩
    go_wp2_with fail
    go_ret2
    exact ⟨by rw [HE.out]; rfl, HT.out⟩
  | some q =>
    have hq : q.size ≤ 562949953421312 := by
      obtain ⟨h1, h2⟩ := cutB_size ho
      rw [h2]
      simp
      omega
    have HI := Lib.hid (bk_index W0 (b.turn t0) q hq)
    have HE : Hid (elI l s = fstF l l.length q) := Lib.hid (by unfold elI; rw [ho]; rfl)
    obtain ⟨y, hy⟩ : ∃ y, (fstF l l.length q).getD 0 = y := ⟨_, rfl⟩
    obtain ⟨k, hk⟩ : ∃ k, (fstF l l.length q).isSome = k := ⟨_, rfl⟩
    rw [hy, hk] at HI
    have HYK := Lib.hid (And.intro hy hk)
    clear b t0 hW0 hr0 ho hy hk hq
    go_enter Tryd.func24, Tryd.ntmps24
    go_upto_region 1 with fail
    rw [HR0.out, HW0.out]
    go_wp2_with fail
    refine HC.out.mono ?_
    rintro e w1 ⟨rfl, rfl⟩
    go_wp2_with fail
    refine HI.out.mono ?_
    rintro e w2 ⟨rfl, t2⟩
    have HT2 := Lib.hid t2
    clear t2
    go_wp2_with fail
    go_ret2
    exact ⟨by rw [HE.out, HYK.out.1, HYK.out.2]; rfl, HT.out.trans' HT2.out⟩
set_option maxHeartbeats 1600000 in
theorem nclass_any (W : World) (b : Bk A B l r t m sz V W) (s : ByteArray) (hs : s.size ≤ 562949953421312) : Calls Tryd.prog 33 #[.agg #[.pointer (some ⟨t, 0, none⟩), VO], .string s] W fun e w' => e = .returned (.tuple #[.int .i64 (((clI l s).getD 0 : Nat) : Int), .bool (clI l s).isSome]) ∧ Turn [] W w' := by
  obtain ⟨r0, hr0⟩ : ∃ r, W.heap.size = r := ⟨_, rfl⟩
  obtain ⟨W0, hW0⟩ : ∃ W', W.alloc (.cells #[.pointer (some ⟨t, 0, none⟩), VO] 63) = W' := ⟨_, rfl⟩
  have t0 : Turn [] W W0 := by rw [← hW0]; exact (Turn.refl [] W).alloc _
  have b0 : W0.heap[r0]? = some (.cells #[.pointer (some ⟨t, 0, none⟩), VO] 63 (0, 0)) := by rw [← hW0, ← hr0]; exact heap_alloc_new W _
  have c0 : W0.cell? ⟨r0, 0, none⟩ = some (.pointer (some ⟨t, 0, none⟩)) := cell_of_row _ r0 0 _ _ _ b0
  have c1 : W0.cell? ⟨r0, 1, none⟩ = some VO := cell_of_row _ r0 1 _ _ _ b0
  have HC := Lib.hid (nelem_any (VO := VO) W0 (b.turn t0) s hs)
  have HT := Lib.hid t0
  have HW0 := Lib.hid hW0
  have HR0 := Lib.hid hr0
  have HBx : Hid (∀ w, Turn [] W0 w → w.cell? ⟨r0, 0, none⟩ = some (.pointer (some ⟨t, 0, none⟩))) := Lib.hid fun w k => cell_of_row _ r0 0 _ _ _ (k.heap b0 (by simp))
  have HI : Hid (∀ w, Turn [] W0 w → Calls Tryd.prog 42 #[.pointer (some ⟨t, 0, none⟩), .string s] w fun e w' => e = .returned (.tuple #[.int .i64 (((fstF l l.length s).getD 0 : Nat) : Int), .bool (fstF l l.length s).isSome]) ∧ Turn [] w w') := Lib.hid fun w k => bk_index w (b.turn (t0.trans' k)) s hs
  obtain ⟨y, hy⟩ : ∃ y, (elI l s).getD 0 = y := ⟨_, rfl⟩
  obtain ⟨k, hk⟩ : ∃ k, (elI l s).isSome = k := ⟨_, rfl⟩
  obtain ⟨i, hi⟩ : ∃ i, decide (s = tInt) = i := ⟨_, rfl⟩
  obtain ⟨u, hu⟩ : ∃ u, decide (s = tNull) = u := ⟨_, rfl⟩
  have e1 : (s.toList == [105, 110, 116]) = i := by rw [lit_list]; exact hi
  have e2 : (s.toList == [110, 117, 108, 108]) = u := by rw [lit_list]; exact hu
  have HE : Hid (clI l s = if (k || i || u) = true then none else fstF l l.length s) := Lib.hid (by unfold clI; rw [hk, hi, hu])
  rw [hy, hk] at HC
  clear b t0 hW0 hr0 hy hk hi hu b0
  go_enter Tryd.func33, Tryd.ntmps33
  go_upto_region 1 with fail
  rw [HR0.out, HW0.out]
  go_wp2_with fail
  refine HC.out.mono ?_
  rintro e w1 ⟨rfl, t1⟩
  have HT1 := Lib.hid t1
  have d0 := HBx.out w1 t1
  have HI1 := Lib.hid (HI.out w1 t1)
  clear t1 c0 c1
  cases k with
  | true =>
    go_wp2_with fail
    go_ret2
    exact ⟨by rw [HE.out]; rfl, HT.out.trans' HT1.out⟩
  | false =>
    cases i with
    | true =>
      go_wp2_with fail
      go_ret2
      exact ⟨by rw [HE.out]; rfl, HT.out.trans' HT1.out⟩
    | false =>
      cases u with
      | true =>
        go_wp2_with fail
        go_ret2
        exact ⟨by rw [HE.out]; rfl, HT.out.trans' HT1.out⟩
      | false =>
        obtain ⟨y, hy⟩ : ∃ y, (fstF l l.length s).getD 0 = y := ⟨_, rfl⟩
        obtain ⟨k, hk⟩ : ∃ k, (fstF l l.length s).isSome = k := ⟨_, rfl⟩
        rw [hy, hk] at HI1
        have HYK := Lib.hid (And.intro hy hk)
        clear hy hk
        go_wp2_with fail
        refine HI1.out.mono ?_
        rintro e w2 ⟨rfl, t2⟩
        have HT2 := Lib.hid t2
        clear t2
        go_wp2_with fail
        go_ret2
        refine ⟨?_, (HT.out.trans' HT1.out).trans' HT2.out⟩
        rw [HE.out, if_neg (by simp), HYK.out.1, HYK.out.2]
        rfl
end
end Go.Proofs.YtbocejiclellfaaDoor
