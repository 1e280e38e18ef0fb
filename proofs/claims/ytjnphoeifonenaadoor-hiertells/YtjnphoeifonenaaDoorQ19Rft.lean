/- The reference's Fault. -/
import Derived.Test.YtjnphoeifonenaaDoorQ18Rfd
import Derived.Test.YtjnphoeifonenaaDoorQ06Flt
import Derived.StillTailTactics
import Derived.Deep.DeepCutAuto

set_option linter.unusedSimpArgs false
set_option linter.unusedVariables false
set_option maxRecDepth 100000
namespace Go.Proofs.YtjnphoeifonenaaDoor
open Go.RowKit

theorem ret_rf {w : World} {g : Nat} {e p q : Int} {tmps : Array Value} (h : w.heap[g]? = some (.cells (ftC e p q) 36 (0, 0))) (h2 : tmps.getD 2 undef = .pointer (some ⟨g, 0, none⟩)) :
    (results Tryd.f11 tmps).run Tryd.prog w = .ok (.agg (ftC e p q)) w := by
  rw [results_cell1 (p := 2) (ty := 36) rfl, h2]
  simp [asAddr, load_fault h, Result.andThen]
/-- What Fault answers. -/
inductive FtR (l : List K8) (e : Ending) : Prop
  | bad (k : Nat) (c : K8) (hc : l[k]? = some c) (hk : sndB l k c = false) (hall : ∀ j x, j < k → l[j]? = some x → sndB l j x = true) (he : e = .returned (.agg (ftC 11 c.p c.q)))
  | rnd (k : Nat) (c : K8) (hc : l[k]? = some c) (hall : ∀ j x, l[j]? = some x → sndB l j x = true) (hk : Cyc (esL l) k) (hno : ∀ j, j < k → ¬ Cyc (esL l) j) (he : e = .returned (.agg (ftC 11 c.p c.q)))
  | ok (hall : ∀ j x, l[j]? = some x → sndB l j x = true) (hno : ∀ j, ¬ Cyc (esL l) j) (he : e = .returned (.agg (ftC 0 0 0)))
set_option maxHeartbeats 25600000 in
theorem rfault_any (A : Option Addr) (c B : Nat) (l : List K8) (m0 m1 m2 m3 m4 m5 m6 m7 m8 : Value) (w : World) (hr : RdKs B w A l) (hl : l.length ≤ 1000) (hfl : ∀ x ∈ l, x.fcs.length ≤ 999) :
    Calls Tryd.prog 11 #[.agg #[.slice A l.length c, m0, m1, m2, m3, m4, m5, m6, m7, m8]] w fun e w' => FtR l e ∧ Turn [] w w' := by
  obtain ⟨n, hn⟩ : ∃ n, l.length = n := ⟨_, rfl⟩
  obtain ⟨r, hrr⟩ : ∃ r, w.heap.size = r := ⟨_, rfl⟩
  obtain ⟨W0, hW0⟩ : ∃ W, (w.alloc (.cells #[.slice A n c, m0, m1, m2, m3, m4, m5, m6, m7, m8] 30)).alloc (.cells #[.int .i64 0, .int .i64 0, .int .i64 0] 36) = W := ⟨_, rfl⟩
  have t0 : Turn [] w W0 := by rw [← hW0]; exact ((Turn.refl [] w).alloc _).alloc _
  have s0 : W0.heap.size = r + 2 := by rw [← hW0, ← hrr]; simp
  have b0 : W0.heap[r]? = some (.cells #[.slice A n c, m0, m1, m2, m3, m4, m5, m6, m7, m8] 30 (0, 0)) := by rw [← hW0, ← hrr]; exact ((Turn.refl [] _).alloc _).heap (heap_alloc_new w _) (by simp)
  have b1 : W0.heap[r + 1]? = some (.cells (ftC 0 0 0) 36 (0, 0)) := by
    rw [← hW0, ← hrr]
    have := heap_alloc_new (w.alloc (.cells #[.slice A n c, m0, m1, m2, m3, m4, m5, m6, m7, m8] 30)) (.cells #[.int .i64 0, .int .i64 0, .int .i64 0] 36)
    rwa [World.size_alloc] at this
  have hr0 := hr.turn t0 (by simp)
  have HSn : Hid (∀ W (j : Nat) (x : K8), Turn [] W0 W → l[j]? = some x → Calls Tryd.prog 30 #[.agg #[.slice A n c, m0, m1, m2, m3, m4, m5, m6, m7, m8], .int .i64 (j : Int)] W fun e w' => e = .returned (.bool (sndB l j x)) ∧ Turn [] W w') := Lib.hid fun W j x t hx => by
    rw [← hn]
    exact rsound_any A c B l m0 m1 m2 m3 m4 m5 m6 m7 m8 j x W (hr0.turn t (by simp)) hl hx (hfl x (List.mem_of_getElem? hx))
  have HMk : Hid (∀ W (j : Nat), Turn [] W0 W → j < n → (∀ j x, l[j]? = some x → sndB l j x = true) → Calls Tryd.prog 31 #[.agg #[.slice A n c, m0, m1, m2, m3, m4, m5, m6, m7, m8], .int .i64 (j : Int)] W fun e w' => ∃ g ms, e = .returned (.slice (some ⟨g, 0, none⟩) n n) ∧ OwnB w' 0 (.slice (some ⟨g, 0, none⟩) n n) ms ∧ ms.length = n ∧ (∀ k : Nat, ms[k]? = some true ↔ Ab1 (esL l) j k) ∧ Turn [] W w') := Lib.hid fun W j t hj hall => by
    have := rmarks_any A c B l m0 m1 m2 m3 m4 m5 m6 m7 m8 j W (hr0.turn t (by simp)) hl hfl (fun k x hx => rt_is hl (hall k x hx) hx) (by omega)
    rw [hn] at this
    exact this
  have hpc : ∀ W, Turn [] W0 W → ∀ (q : Nat) (v : Value), (#[Value.slice A n c, m0, m1, m2, m3, m4, m5, m6, m7, m8] : Array Value)[q]? = some v → W.cell? ⟨r, q, none⟩ = some v := fun W t q v hv => (cell_of_row W r q _ _ _ (t.heap b0 (by simp))).trans hv
  have hen : (esL l).length = n := by rw [esL_len, hn]
  have HEN := Lib.hid hen
  have HT0 := Lib.hid t0
  have HS0 := Lib.hid s0
  have HB1 := Lib.hid b1
  have HP := Lib.hid hpc
  have HR := Lib.hid hr0
  have HN := Lib.hid hn
  have HRR := Lib.hid hrr
  have HW0 := Lib.hid hW0
  have hn1 : n ≤ 1000 := by omega
  rw [hn]
  clear hr t0 s0 b0 b1 hr0 hpc hn hrr hW0 hen hl hfl
  go_enter Tryd.func11, Tryd.ntmps11
  go_upto_region 1 with fail
  rw [HRR.out, HW0.out]
  go_wp2_with fail
  go_loopw [3] (fun v3 wr => ∃ k : Nat, k ≤ n ∧ v3 = .int .i64 (k : Int) ∧ Hid ((∀ j x, j < k → l[j]? = some x → sndB l j x = true) ∧ Turn [] W0 wr)) (fun v3 _ => n - (intOf v3).toNat)
  case atStart => exact ⟨0, Nat.zero_le _, rfl, Lib.hid ⟨fun j x hj => absurd hj (Nat.not_lt_zero j), Turn.refl _ _⟩⟩
  case round =>
    obtain ⟨k, hk, rfl, HO⟩ := hrel
    have q0 : wr.cell? ⟨r, 0, none⟩ = some (.slice A n c) := HP.out wr HO.out.2 0 _ rfl
    by_cases hkn : k < n
    · have d1 : decide ((k : Int) < (n : Int)) = true := by simp; omega
      have d2 : (k : Int) < (n : Int) := by omega
      obtain ⟨x, hx⟩ := at_lt (show k < l.length by have := HN.out; omega)
      obtain ⟨b, off, cs, rfl, hb, hbl, hcell, A3, c3, A4, n4, c4, A5, n5, c5, A6, n6, c6, I, rfl, hst⟩ := HR.out k x hx
      have HKC : Hid (∀ W, Turn [] W0 W → W.cell? ⟨b, off + k * 10 + 8, none⟩ = some (.int .i64 x.p) ∧ W.cell? ⟨b, off + k * 10 + 9, none⟩ = some (.int .i64 x.q)) := Lib.hid fun W t => ⟨(t.cell (p := ⟨b, off + k * 10 + 8, none⟩) hbl (by simp)).trans (hcell 8 _ rfl), (t.cell (p := ⟨b, off + k * 10 + 9, none⟩) hbl (by simp)).trans (hcell 9 _ rfl)⟩
      have HSx := Lib.hid (HSn.out wr k x HO.out.2 hx)
      have HX := Lib.hid hx
      clear hcell hst hb hbl q0 hx
      have q0 : wr.cell? ⟨r, 0, none⟩ = some (.slice (some ⟨b, off, none⟩) n c) := HP.out wr (HO.out.2) 0 _ rfl
      have q1 : wr.cell? ⟨r, 1, none⟩ = some m0 := HP.out wr (HO.out.2) 1 _ rfl
      have q2 : wr.cell? ⟨r, 2, none⟩ = some m1 := HP.out wr (HO.out.2) 2 _ rfl
      have q3 : wr.cell? ⟨r, 3, none⟩ = some m2 := HP.out wr (HO.out.2) 3 _ rfl
      have q4 : wr.cell? ⟨r, 4, none⟩ = some m3 := HP.out wr (HO.out.2) 4 _ rfl
      have q5 : wr.cell? ⟨r, 5, none⟩ = some m4 := HP.out wr (HO.out.2) 5 _ rfl
      have q6 : wr.cell? ⟨r, 6, none⟩ = some m5 := HP.out wr (HO.out.2) 6 _ rfl
      have q7 : wr.cell? ⟨r, 7, none⟩ = some m6 := HP.out wr (HO.out.2) 7 _ rfl
      have q8 : wr.cell? ⟨r, 8, none⟩ = some m7 := HP.out wr (HO.out.2) 8 _ rfl
      have q9 : wr.cell? ⟨r, 9, none⟩ = some m8 := HP.out wr (HO.out.2) 9 _ rfl
      go_wp2_with fail
      refine HSx.out.mono ?_
      rintro e w4 ⟨rfl, t4⟩
      have tt4 := HO.out.2.trans' t4
      clear t4 q0 q1 q2 q3 q4 q5 q6 q7 q8 q9 HSx
      obtain ⟨sn, hsn⟩ : ∃ sn, sndB l k x = sn := ⟨_, rfl⟩
      rw [hsn]
      have HSN := Lib.hid hsn
      clear hsn
      cases sn with
      | true =>
        have HN2 : Hid ((∀ j y, j < k + 1 → l[j]? = some y → sndB l j y = true) ∧ Turn [] W0 w4) := Lib.hid ⟨fun j y hj hy => by
          by_cases e : j = k
          · subst e
            rw [HX.out] at hy
            injection hy with hy
            rw [← hy]
            exact HSN.out
          · exact HO.out.1 j y (by omega) hy, tt4⟩
        clear tt4
        go_wp2_with fail
        go_roundw
        case rel => exact ⟨k + 1, by omega, by go_num, HN2⟩
        case measure => simp [intOf]; omega
      | false =>
        have HT4 := Lib.hid tt4
        clear tt4
        obtain ⟨cp, cq⟩ := HKC.out w4 HT4.out
        have p0 : w4.cell? ⟨r, 0, none⟩ = some (.slice (some ⟨b, off, none⟩) n c) := HP.out w4 (HT4.out) 0 _ rfl
        have b4 := (HT4.out).heap HB1.out (by simp)
        have f0 : w4.cell? ⟨r + 1, 0, none⟩ = some (.int .i64 0) := cell_of_row w4 _ 0 _ _ _ b4
        have f1 : w4.cell? ⟨r + 1, 1, none⟩ = some (.int .i64 0) := cell_of_row w4 _ 1 _ _ _ b4
        have f2 : w4.cell? ⟨r + 1, 2, none⟩ = some (.int .i64 0) := cell_of_row w4 _ 2 _ _ _ b4
        have f0' : w4.frozen? ⟨r + 1, 0, none⟩ = false := frozen_of_row w4 _ 0 _ _ b4
        have f1' : w4.frozen? ⟨r + 1, 1, none⟩ = false := frozen_of_row w4 _ 1 _ _ b4
        have f2' : w4.frozen? ⟨r + 1, 2, none⟩ = false := frozen_of_row w4 _ 2 _ _ b4
        have HB4 := Lib.hid b4
        clear b4
        go_wp2_with fail
        go_region
        go_wp2_with fail
        have hfs := ft_set 11 x.p x.q HB4.out
        refine bodyPost_ret (ret_rf ((Turn.refl [] _).drew.heap hfs.1 (by simp)) rfl) rfl ⟨.bad k x HX.out HSN.out HO.out.1 rfl, ?_⟩
        refine ((HT0.out.trans' (HT4.out)).trans hfs.2 (fun g hg => .inr (by simp at hg; have := HRR.out; omega))).drew
    · obtain rfl : k = n := by omega
      have d1 : decide ((k : Int) < (k : Int)) = false := by simp
      have HALL : Hid (∀ j x, l[j]? = some x → sndB l j x = true) := Lib.hid fun j x hx => HO.out.1 j x (by have := (List.getElem?_eq_some_iff.1 hx).1; have := HN.out; omega) hx
      go_wp2_with fail
      go_loopw [4] (fun v4 wr => ∃ i : Nat, i ≤ k ∧ v4 = .int .i64 (i : Int) ∧ Hid ((∀ j, j < i → ¬ Cyc (esL l) j) ∧ Turn [] W0 wr)) (fun v4 _ => k - (intOf v4).toNat)
      case atStart => exact ⟨0, Nat.zero_le _, rfl, Lib.hid ⟨fun j hj => absurd hj (Nat.not_lt_zero j), HO.out.2⟩⟩
      case round =>
        obtain ⟨i, hi, rfl, HQ⟩ := hrel
        have q0 : wr.cell? ⟨r, 0, none⟩ = some (.slice A k c) := HP.out wr HQ.out.2 0 _ rfl
        by_cases hik : i < k
        · have d3 : decide ((i : Int) < (k : Int)) = true := by simp; omega
          have d4 : (i : Int) < (k : Int) := by omega
          obtain ⟨x, hx⟩ := at_lt (show i < l.length by have := HN.out; omega)
          obtain ⟨b, off, cs, rfl, hb, hbl, hcell, A3, c3, A4, n4, c4, A5, n5, c5, A6, n6, c6, I, rfl, hst⟩ := HR.out i x hx
          have HKC : Hid (∀ W, Turn [] W0 W → W.cell? ⟨b, off + i * 10 + 8, none⟩ = some (.int .i64 x.p) ∧ W.cell? ⟨b, off + i * 10 + 9, none⟩ = some (.int .i64 x.q)) := Lib.hid fun W t => ⟨(t.cell (p := ⟨b, off + i * 10 + 8, none⟩) hbl (by simp)).trans (hcell 8 _ rfl), (t.cell (p := ⟨b, off + i * 10 + 9, none⟩) hbl (by simp)).trans (hcell 9 _ rfl)⟩
          have HMx := Lib.hid (HMk.out wr i HQ.out.2 hik HALL.out)
          have HX := Lib.hid hx
          clear hcell hst hb hbl q0 hx
          have q0 : wr.cell? ⟨r, 0, none⟩ = some (.slice (some ⟨b, off, none⟩) k c) := HP.out wr (HQ.out.2) 0 _ rfl
          have q1 : wr.cell? ⟨r, 1, none⟩ = some m0 := HP.out wr (HQ.out.2) 1 _ rfl
          have q2 : wr.cell? ⟨r, 2, none⟩ = some m1 := HP.out wr (HQ.out.2) 2 _ rfl
          have q3 : wr.cell? ⟨r, 3, none⟩ = some m2 := HP.out wr (HQ.out.2) 3 _ rfl
          have q4 : wr.cell? ⟨r, 4, none⟩ = some m3 := HP.out wr (HQ.out.2) 4 _ rfl
          have q5 : wr.cell? ⟨r, 5, none⟩ = some m4 := HP.out wr (HQ.out.2) 5 _ rfl
          have q6 : wr.cell? ⟨r, 6, none⟩ = some m5 := HP.out wr (HQ.out.2) 6 _ rfl
          have q7 : wr.cell? ⟨r, 7, none⟩ = some m6 := HP.out wr (HQ.out.2) 7 _ rfl
          have q8 : wr.cell? ⟨r, 8, none⟩ = some m7 := HP.out wr (HQ.out.2) 8 _ rfl
          have q9 : wr.cell? ⟨r, 9, none⟩ = some m8 := HP.out wr (HQ.out.2) 9 _ rfl
          go_wp2_with fail
          refine HMx.out.mono ?_
          rintro e w4 ⟨g, ms, rfl, hom, hml, hmi, t4⟩
          have tt4 := HQ.out.2.trans' t4
          clear t4 q0 q1 q2 q3 q4 q5 q6 q7 q8 q9 HMx
          obtain ⟨mb, hmb⟩ := at_lt (show i < ms.length by rw [hml]; exact hik)
          have cm : w4.cell? ⟨g, i, none⟩ = some (.bool mb) := hom.at.1 i mb hmb
          have hcy : mb = true ↔ Cyc (esL l) i := by
            rw [Cyc, HEN.out]
            constructor
            · intro h
              subst h
              exact ⟨hik, (hmi i).1 hmb⟩
            · rintro ⟨_, h⟩
              have := (hmi i).2 h
              rw [hmb] at this
              injection this
          have HCY := Lib.hid hcy
          clear hom hml hmi hmb hcy
          cases mb with
          | false =>
            have HN2 : Hid ((∀ j, j < i + 1 → ¬ Cyc (esL l) j) ∧ Turn [] W0 w4) := Lib.hid ⟨fun j hj hy => by
              by_cases e : j = i
              · subst e
                have := HCY.out.2 hy
                cases this
              · exact HQ.out.1 j (by omega) hy, tt4⟩
            clear tt4
            go_wp2_with fail
            go_roundw
            case rel => exact ⟨i + 1, by omega, by go_num, HN2⟩
            case measure => simp [intOf]; omega
          | true =>
            have HT4 := Lib.hid tt4
            clear tt4
            obtain ⟨cp, cq⟩ := HKC.out w4 HT4.out
            have p0 : w4.cell? ⟨r, 0, none⟩ = some (.slice (some ⟨b, off, none⟩) k c) := HP.out w4 (HT4.out) 0 _ rfl
            have b4 := (HT4.out).heap HB1.out (by simp)
            have f0 : w4.cell? ⟨r + 1, 0, none⟩ = some (.int .i64 0) := cell_of_row w4 _ 0 _ _ _ b4
            have f1 : w4.cell? ⟨r + 1, 1, none⟩ = some (.int .i64 0) := cell_of_row w4 _ 1 _ _ _ b4
            have f2 : w4.cell? ⟨r + 1, 2, none⟩ = some (.int .i64 0) := cell_of_row w4 _ 2 _ _ _ b4
            have f0' : w4.frozen? ⟨r + 1, 0, none⟩ = false := frozen_of_row w4 _ 0 _ _ b4
            have f1' : w4.frozen? ⟨r + 1, 1, none⟩ = false := frozen_of_row w4 _ 1 _ _ b4
            have f2' : w4.frozen? ⟨r + 1, 2, none⟩ = false := frozen_of_row w4 _ 2 _ _ b4
            have HB4 := Lib.hid b4
            clear b4
            go_wp2_with fail
            go_region
            go_wp2_with fail
            have hfs := ft_set 11 x.p x.q HB4.out
            refine bodyPost_ret (ret_rf ((Turn.refl [] _).drew.heap hfs.1 (by simp)) rfl) rfl ⟨.rnd i x HX.out HALL.out (HCY.out.1 (by trivial)) HQ.out.1 rfl, ?_⟩
            refine ((HT0.out.trans' (HT4.out)).trans hfs.2 (fun g hg => .inr (by simp at hg; have := HRR.out; omega))).drew
        · obtain rfl : i = k := by omega
          have d3 : decide ((i : Int) < (i : Int)) = false := by simp
          have HNO : Hid (∀ j, ¬ Cyc (esL l) j) := Lib.hid fun j hj => by
            have h1 := hj.1
            rw [HEN.out] at h1
            exact HQ.out.1 j h1 hj
          have b4 := HQ.out.2.heap HB1.out (by simp)
          have f0 : wr.cell? ⟨r + 1, 0, none⟩ = some (.int .i64 0) := cell_of_row wr _ 0 _ _ _ b4
          have f1 : wr.cell? ⟨r + 1, 1, none⟩ = some (.int .i64 0) := cell_of_row wr _ 1 _ _ _ b4
          have f2 : wr.cell? ⟨r + 1, 2, none⟩ = some (.int .i64 0) := cell_of_row wr _ 2 _ _ _ b4
          have f0' : wr.frozen? ⟨r + 1, 0, none⟩ = false := frozen_of_row wr _ 0 _ _ b4
          have f1' : wr.frozen? ⟨r + 1, 1, none⟩ = false := frozen_of_row wr _ 1 _ _ b4
          have f2' : wr.frozen? ⟨r + 1, 2, none⟩ = false := frozen_of_row wr _ 2 _ _ b4
          have HB4 := Lib.hid b4
          clear b4
          go_wp2_with fail
          have hfs := ft_set 0 0 0 HB4.out
          refine bodyPost_ret (ret_rf hfs.1 rfl) rfl ⟨.ok HALL.out HNO.out rfl, ?_⟩
          exact (HT0.out.trans' HQ.out.2).trans hfs.2 (fun g hg => .inr (by simp at hg; have := HRR.out; omega))
end Go.Proofs.YtjnphoeifonenaaDoor
