/- The reference's Tokens. -/
import Derived.Test.YthdoihemjndmlaaDoorSm
import Derived.Deep.DeepCutAuto
set_option linter.unusedSimpArgs false
set_option linter.unusedVariables false
namespace Go.Proofs.YthdoihemjndmlaaDoor
open Go.RowKit

theorem tok_cs (kd l c : Nat) (X : ByteArray) : (⟨kd, X.data.toList, l, c⟩ : Tok).cs.toArray = #[.int .i64 (kd : Int), .string X, .int .i64 (l : Int), .int .i64 (c : Int)] := by
  simp [Tok.cs, Lib.mk_data]

set_option maxHeartbeats 8000000 in
set_option maxRecDepth 100000 in
theorem refTokens_any (s : ByteArray) (w : World) (hs : s.size ≤ 20000) :
    Calls Tryd.prog 10 #[.string s] w fun e w' => Turn [] w w' ∧
      ((∃ x l c, tokR s.data.toList = .bad x l c ∧ x ≠ 0 ∧ e = .returned (badV x l c)) ∨ (∃ ts p V, tokR s.data.toList = .good ts p ∧ OwnT w' V ts ∧ (∀ g, V.ownBlock = some g → w.heap.size ≤ g) ∧ e = .returned (goodV V p))) := by
  have hl : s.data.toList.length = s.size := (Lib.size_eq s).symm
  have htk : tokR s.data.toList = lxa s.data.toList 0 := by
    unfold tokR
    rw [if_neg (by omega), lxa_zero]
  have HTK := Lib.hid htk
  have HL := Lib.hid hl
  have d0 : decide ((20000 : Int) < (s.size : Int)) = false := by simp; omega
  have d0' : ¬ (20000 : Int) < (s.size : Int) := by omega
  clear htk hl
  go_enter Tryd.func10, Tryd.ntmps10
  go_upto_region 1 with (fail)
  obtain ⟨W, hW⟩ : ∃ W, (w.alloc (.cells #[.int .i64 0, .int .i64 0] 25)).alloc (.cells #[.int .i64 0, .int .i64 0, .int .i64 0] 28) = W := ⟨_, rfl⟩
  obtain ⟨r, hr⟩ : ∃ r, w.heap.size = r := ⟨_, rfl⟩
  rw [hW, hr]
  have hr0 : W.heap[r]? = some (.cells #[.int .i64 0, .int .i64 0] 25 (0, 0)) := by
    rw [← hW, ← hr]
    exact ((Turn.refl [] _).alloc _).heap (heap_alloc_new w _) (by simp)
  have hr1 : W.heap[r + 1]? = some (.cells #[.int .i64 0, .int .i64 0, .int .i64 0] 28 (0, 0)) := by
    rw [← hW, ← hr]
    have := heap_alloc_new (w.alloc (.cells #[.int .i64 0, .int .i64 0] 25)) (.cells #[.int .i64 0, .int .i64 0, .int .i64 0] 28)
    rwa [World.size_alloc] at this
  have hT : Turn [] w W := by rw [← hW]; exact ((Turn.refl [] w).alloc _).alloc _
  have HR0 := Lib.hid hr0
  have HR1 := Lib.hid hr1
  have HT := Lib.hid hT
  have HRr := Lib.hid hr
  clear hW hr hr0 hr1 hT
  go_wp2_with fail
  go_loopw [5, 6] (fun tv tn wr => ∃ (n : Nat) (V : Value) (ts : List Tok), V = tv ∧ tn = .int .i64 (n : Int) ∧ n ≤ s.size ∧ ts.length ≤ n ∧ Hid (OwnT wr V ts) ∧ Hid (∀ g, V.ownBlock = some g → r + 2 ≤ g) ∧ Hid (lxa s.data.toList 0 = preT ts (lxa s.data.toList n)) ∧ Hid (wr.heap[r]? = some (.cells #[.int .i64 0, .int .i64 0] 25 (0, 0))) ∧ Hid (wr.heap[r + 1]? = some (.cells #[.int .i64 0, .int .i64 0, .int .i64 0] 28 (0, 0))) ∧ Hid (Turn [] w wr)) (fun _ tn _ => s.size - (intOf tn).toNat)
  case atStart => exact ⟨0, _, [], rfl, rfl, by omega, by simp, Lib.hid (OwnT.nil _), Lib.hid (fun g e => by cases e), Lib.hid (by rw [preT_nil]), HR0, HR1, HT⟩
  case round =>
    obtain ⟨n, V, ts, rfl, rfl, hn, htn, HO, HV, HLX, HC0, HC1, HTw⟩ := hrel
    have hrl : r + 1 < wr.heap.size := (Array.getElem?_eq_some_iff.1 HC1.out).1
    by_cases hlt : n < s.size
    · have d1 : decide ((n : Int) < (s.size : Int)) = true := by simp; omega
      have d2 : (n : Int) < (s.size : Int) := by omega
      have hsm := rs_small (T := s.data.toList.drop n)
      have HE := Lib.hid (end_any s n wr hlt (by omega))
      have HPL := Lib.hid (fun W => refPlace_any s n W (by omega) (by omega))
      obtain ⟨pl, hpl⟩ : ∃ x, (plc s.data.toList n).1 = x := ⟨_, rfl⟩
      obtain ⟨pc, hpc⟩ : ∃ x, (plc s.data.toList n).2 = x := ⟨_, rfl⟩
      rw [hpl, hpc] at HPL
      have HPP : Hid ((plc s.data.toList n).1 = pl ∧ (plc s.data.toList n).2 = pc) := Lib.hid ⟨hpl, hpc⟩
      clear hpl hpc
      by_cases he : (rs (s.data.toList.drop n)).2.2 = 0
      · obtain ⟨hk0, hkn, hcase⟩ := step_good (by have := HL.out; omega) he
        rw [he] at HE
        rw [HL.out] at hkn
        obtain ⟨k, hk⟩ : ∃ k, (rs (s.data.toList.drop n)).1 = k := ⟨_, rfl⟩
        rw [hk] at HE hk0 hkn hcase
        rcases hcase with ⟨hkd, hstep⟩ | ⟨kd, hkd, hstep⟩
        · rw [hkd] at HE
          have HST := Lib.hid hstep
          clear hstep he hk hkd hsm
          go_wp2_with fail
          refine HE.out.mono ?_
          rintro e w1 ⟨rfl, rfl⟩
          go_wp2_with fail
          go_roundw
          case rel =>
            exact ⟨n + k, V, ts, rfl, by go_num, by omega, by omega, HO, HV, Lib.hid (by rw [HLX.out, HST.out]), HC0, HC1, HTw⟩
          case measure => simp [intOf]; omega
        · rw [hkd] at HE
          rw [hkd] at hsm
          obtain ⟨X, hX⟩ : ∃ X, s.extract n (n + k) = X := ⟨_, rfl⟩
          have hXd : X.data.toList = (s.data.toList.drop n).take k := by
            rw [← hX, Lib.extract_data, show n + k - n = k by omega]
          rw [← hXd, HPP.out.1, HPP.out.2] at hstep
          obtain ⟨K, hK⟩ : ∃ K, n + k = K := ⟨_, rfl⟩
          rw [hK] at HE hstep hkn hX
          have hnK : n < K := by omega
          have hsl : ∀ W : World, (Instr.slice 9 (.string s) (some (.int .i64 (n : Int))) (some (.int .i64 (K : Int))) none).run Tryd.prog W = .ok (.string X) W := fun W => by
            rw [run_slice_string W 9 s .i64 .i64 (n : Int) (K : Int) Tryd.underlying9 (by omega) (by omega) (by omega)]
            simp [hX]
          have HXX := Lib.hid hX
          clear hX hK
          have HST := Lib.hid hstep
          have hkd2 : kd ≤ 2 := by omega
          have e1 : decide ((0 : Int) ≤ (kd : Int)) = true := by simp
          have e2 : (0 : Int) ≤ (kd : Int) := by omega
          have g0 : (0 : Int) ≤ (n : Int) := by omega
          have g1 : (n : Int) ≤ (K : Int) := by omega
          have g2 : (K : Int) ≤ (s.size : Int) := by omega
          have HPW := Lib.hid (HPL.out wr.drew)
          clear hstep he hk hkd hsm hXd
          go_wp2_with fail
          refine HE.out.mono ?_
          rintro e w1 ⟨rfl, rfl⟩
          go_wp2_with fail
          go_region_held3 (fun _ => True)
            (first | trivial | go_keep)
            (first
              | (refine step_appT rfl (.tmp 41) (.tmp 51) rfl _ V ts ⟨kd, X.data.toList, pl, pc⟩ w5.heap.size 1 (by simp [Act.eval, Act.put]) (by simp [Act.eval, Act.put]) (by exact Turn.owns ((Turn.refl [] w5).alloc _) HO5.out (by simp)) (by rw [tok_cs]; exact heap_alloc_new w5 _) (by omega) ?_
                 intro v6 w6 ho6 ht6 hm6)
              | (go_at_call 16; (with_reducible refine HPW.out.mono ?_); rintro e w5 ⟨rfl, t5⟩
                 have t5' : Turn [] w1 w5 := (Turn.refl [] w1).drew.trans' t5
                 have HO5 : Hid (OwnT w5 V ts) := Lib.hid (Turn.owns t5' HO.out (by simp))
                 clear t5))
          have hblk : ∀ g, V.ownBlock = some g → r + 2 ≤ g := HV.out
          have ta : Turn [] w1 (w5.alloc (.cells #[.int .i64 (kd : Int), .string X, .int .i64 (pl : Int), .int .i64 (pc : Int)] 37)) := t5'.alloc _
          have hb0 := ht6.heap (ta.heap HC0.out (by simp)) (fun hg => by have := hblk r (by simpa using hg); omega)
          have hb1 := ht6.heap (ta.heap HC1.out (by simp)) (fun hg => by have := hblk (r + 1) (by simpa using hg); omega)
          have HTn : Hid (Turn [] w w6) := Lib.hid ((HTw.out.trans' ta).trans ht6 (fun g hg => by
            have := hblk g (by simpa using hg)
            have := HRr.out
            exact .inr (by omega)))
          have HV6 : Hid (∀ g, v6.ownBlock = some g → r + 2 ≤ g) := Lib.hid (fun g e => by
            rcases hm6 with h | ⟨g', h, hh⟩
            · exact hblk g (by rw [← h]; exact e)
            · rw [h] at e
              injection e with e
              subst e
              have := ta.size
              omega)
          have HO6 := Lib.hid ho6
          have HB0 := Lib.hid hb0
          have HB1 := Lib.hid hb1
          clear hb0 hb1 ho6 ht6 hm6 ta t5' hblk
          go_wp2_with fail
          go_roundw
          case rel =>
            refine ⟨K, v6, ts ++ [⟨kd, X.data.toList, pl, pc⟩], rfl, by go_num, by omega, by simp; omega, HO6, HV6, Lib.hid ?_, HB0, HB1, HTn⟩
            rw [HLX.out, HST.out, preT_preT]
          case measure => simp [intOf]; omega
      · have hst := step_bad (by have := HL.out; omega) he
        obtain ⟨x, hx⟩ : ∃ x, (rs (s.data.toList.drop n)).2.2 = x := ⟨_, rfl⟩
        rw [hx] at HE hst he
        rw [HPP.out.1, HPP.out.2] at hst
        have e0 : decide ((x : Int) = 0) = false := by simp; omega
        have e1 : ((x : Int) == 0) = false := by simp; omega
        have e2 : ¬ (x : Int) = 0 := by omega
        have e4 : decide (x = 0) = false := by simpa using he
        have HST := Lib.hid hst
        have HPW := Lib.hid (HPL.out wr)
        clear hst hx hsm
        go_wp2_with fail
        refine HE.out.mono ?_
        rintro e w1 ⟨rfl, rfl⟩
        go_wp2_with fail
        refine HPW.out.mono ?_
        rintro e w2 ⟨rfl, t2⟩
        go_upto_region 9 with (fail)
        obtain ⟨W3, hW3⟩ : ∃ W3, w2.alloc (.cells #[.int .i64 (pl : Int), .int .i64 (pc : Int)] 25) = W3 := ⟨_, rfl⟩
        obtain ⟨pb, hpb⟩ : ∃ pb, w2.heap.size = pb := ⟨_, rfl⟩
        rw [hW3, hpb]
        have hB3 : W3.heap[pb]? = some (.cells #[.int .i64 (pl : Int), .int .i64 (pc : Int)] 25 (0, 0)) := by rw [← hW3, ← hpb]; exact heap_alloc_new w2 _
        have t3 : Turn [] w1 W3 := t2.trans' (by rw [← hW3]; exact (Turn.refl [] w2).alloc _)
        have hpbl : r + 1 < pb := by
          have := t2.size
          omega
        have hz0 := t3.heap HC0.out (by simp)
        have hz1 := t3.heap HC1.out (by simp)
        have p0 : W3.cell? ⟨r, 0, none⟩ = some (.int .i64 0) := cell_of_row W3 r 0 _ 25 (0, 0) hz0
        have pf0 : W3.frozen? ⟨r, 0, none⟩ = false := frozen_of_row W3 r 0 _ 25 hz0
        have p1 : W3.cell? ⟨r, 1, none⟩ = some (.int .i64 0) := cell_of_row W3 r 1 _ 25 (0, 0) hz0
        have pf1 : W3.frozen? ⟨r, 1, none⟩ = false := frozen_of_row W3 r 1 _ 25 hz0
        have q0 : W3.cell? ⟨r + 1, 0, none⟩ = some (.int .i64 0) := cell_of_row W3 (r + 1) 0 _ 28 (0, 0) hz1
        have qf0 : W3.frozen? ⟨r + 1, 0, none⟩ = false := frozen_of_row W3 (r + 1) 0 _ 28 hz1
        have q1 : W3.cell? ⟨r + 1, 1, none⟩ = some (.int .i64 0) := cell_of_row W3 (r + 1) 1 _ 28 (0, 0) hz1
        have qf1 : W3.frozen? ⟨r + 1, 1, none⟩ = false := frozen_of_row W3 (r + 1) 1 _ 28 hz1
        have q2 : W3.cell? ⟨r + 1, 2, none⟩ = some (.int .i64 0) := cell_of_row W3 (r + 1) 2 _ 28 (0, 0) hz1
        have qf2 : W3.frozen? ⟨r + 1, 2, none⟩ = false := frozen_of_row W3 (r + 1) 2 _ 28 hz1
        have b0 : W3.cell? ⟨pb, 0, none⟩ = some (.int .i64 (pl : Int)) := cell_of_row W3 pb 0 _ 25 (0, 0) hB3
        have b1 : W3.cell? ⟨pb, 1, none⟩ = some (.int .i64 (pc : Int)) := cell_of_row W3 pb 1 _ 25 (0, 0) hB3
        have HT3 := Lib.hid (HTw.out.trans' t3)
        have hn1 : r ≠ pb := by omega
        have hn2 : r + 1 ≠ pb := by omega
        have hn3 : pb ≠ r := by omega
        have hn4 : pb ≠ r + 1 := by omega
        clear hW3 hpb t2 t3 hz0 hz1 hB3
        go_region_held3 (fun w' => w'.cell? ⟨pb, 0, none⟩ = some (.int .i64 (pl : Int)) ∧ w'.cell? ⟨pb, 1, none⟩ = some (.int .i64 (pc : Int)))
          (first | go_keep)
          (first | fail)
        go_wp2_with fail
        refine bodyPost_ret (v := badV x pl pc) (by simp [results, Tryd.results10, go_sem, badV, p0, p1, q0, q1, q2]) rfl ⟨?_, .inl ⟨x, pl, pc, ?_, he, rfl⟩⟩
        · have hrr := HRr.out
          have tS : Turn [r, r + 1] W3 (((((W3.setCell ⟨r, 0, none⟩ (.int .i64 0)).setCell ⟨r, 1, none⟩ (.int .i64 0)).setCell ⟨r + 1, 0, none⟩ (.int .i64 (x : Int))).setCell ⟨r + 1, 1, none⟩ (.int .i64 (pl : Int))).setCell ⟨r + 1, 2, none⟩ (.int .i64 (pc : Int))).drew :=
            ((((((Turn.refl [r, r + 1] W3).setCell (.inl (by simp)) _).setCell (.inl (by simp)) _).setCell (.inl (by simp)) _).setCell (.inl (by simp)) _).setCell (.inl (by simp)) _).drew
          exact HT3.out.trans tS (fun g hg => .inr (by simp at hg; omega))
        · rw [HTK.out, HLX.out, HST.out]
          rfl
    · obtain rfl : n = s.size := by omega
      have d1 : decide ((s.size : Int) < (s.size : Int)) = false := by simp
      have HPL := Lib.hid (refPlace_any s s.size wr (by omega) (by omega))
      go_wp2_with fail
      refine HPL.out.mono ?_
      rintro e w2 ⟨rfl, t2⟩
      have hz0 := t2.heap HC0.out (by simp)
      have hz1 := t2.heap HC1.out (by simp)
      have p0 : w2.cell? ⟨r, 0, none⟩ = some (.int .i64 0) := cell_of_row w2 r 0 _ 25 (0, 0) hz0
      have pf0 : w2.frozen? ⟨r, 0, none⟩ = false := frozen_of_row w2 r 0 _ 25 hz0
      have p1 : w2.cell? ⟨r, 1, none⟩ = some (.int .i64 0) := cell_of_row w2 r 1 _ 25 (0, 0) hz0
      have pf1 : w2.frozen? ⟨r, 1, none⟩ = false := frozen_of_row w2 r 1 _ 25 hz0
      have q0 : w2.cell? ⟨r + 1, 0, none⟩ = some (.int .i64 0) := cell_of_row w2 (r + 1) 0 _ 28 (0, 0) hz1
      have qf0 : w2.frozen? ⟨r + 1, 0, none⟩ = false := frozen_of_row w2 (r + 1) 0 _ 28 hz1
      have q1 : w2.cell? ⟨r + 1, 1, none⟩ = some (.int .i64 0) := cell_of_row w2 (r + 1) 1 _ 28 (0, 0) hz1
      have qf1 : w2.frozen? ⟨r + 1, 1, none⟩ = false := frozen_of_row w2 (r + 1) 1 _ 28 hz1
      have q2 : w2.cell? ⟨r + 1, 2, none⟩ = some (.int .i64 0) := cell_of_row w2 (r + 1) 2 _ 28 (0, 0) hz1
      have qf2 : w2.frozen? ⟨r + 1, 2, none⟩ = false := frozen_of_row w2 (r + 1) 2 _ 28 hz1
      have HZ0 := Lib.hid hz0
      have HZ1 := Lib.hid hz1
      have HO2 : Hid (OwnT w2 V ts) := Lib.hid (Turn.owns t2 HO.out (by simp))
      have HT2 := Lib.hid (HTw.out.trans' t2)
      clear hz0 hz1 t2
      obtain ⟨pl, hpl⟩ : ∃ x, (plc s.data.toList s.size).1 = x := ⟨_, rfl⟩
      obtain ⟨pc, hpc⟩ : ∃ x, (plc s.data.toList s.size).2 = x := ⟨_, rfl⟩
      have HPP : Hid (plc s.data.toList s.size = (pl, pc)) := Lib.hid (by rw [← hpl, ← hpc])
      rw [hpl, hpc]
      clear hpl hpc
      go_wp2_with fail
      have tS : Turn [r, r + 1] w2 (((((w2.setCell ⟨r, 0, none⟩ (.int .i64 (pl : Int))).setCell ⟨r, 1, none⟩ (.int .i64 (pc : Int))).setCell ⟨r + 1, 0, none⟩ (.int .i64 0)).setCell ⟨r + 1, 1, none⟩ (.int .i64 0)).setCell ⟨r + 1, 2, none⟩ (.int .i64 0)) :=
        (((((Turn.refl [r, r + 1] w2).setCell (.inl (by simp)) _).setCell (.inl (by simp)) _).setCell (.inl (by simp)) _).setCell (.inl (by simp)) _).setCell (.inl (by simp)) _
      refine bodyPost_ret (v := goodV V (pl, pc)) (by simp [results, Tryd.results10, go_sem, goodV, p0, p1, q0, q1, q2]) rfl ⟨?_, .inr ⟨ts, (pl, pc), V, ?_, ?_, ?_, rfl⟩⟩
      · have hrr := HRr.out
        exact HT2.out.trans tS (fun g hg => .inr (by simp at hg; omega))
      · rw [HTK.out, HLX.out, lxa_end (List.drop_of_length_le (by have := HL.out; omega)), HPP.out]
        simp [preT]
      · refine Turn.owns tS HO2.out (fun g e hg => ?_)
        have := HV.out g e
        simp at hg
        omega
      · intro g e
        have := HV.out g e
        have := HRr.out
        omega
end Go.Proofs.YthdoihemjndmlaaDoor
