/- LexNames: which words are keywords, and which are names; a name is one token. -/
import Derived.Test.YthdoihemjndmlaaDoorNm
import Derived.Test.YthdoihemjndmlaaDoorAw
set_option linter.unusedSimpArgs false
set_option linter.unusedVariables false
namespace Go.Proofs.YthdoihemjndmlaaDoor
open Go.RowKit

theorem name_tok {T : List UInt8} (h : nameB T = true) : tokR T = .good [⟨0, T, 1, 1⟩] (pss (1, 1) T) := by
  unfold nameB at h
  simp only [Bool.and_eq_true, Bool.not_eq_true', decide_eq_true_eq] at h
  obtain ⟨⟨⟨h1, h2⟩, h3⟩, h4⟩ := h
  cases T with
  | nil => simp at h1
  | cons c r =>
    obtain ⟨hc, hr⟩ := (wdN_full c r).1 h3
    rw [isL_kN, decide_eq_true_eq] at hc
    have hb : isB c = false := by rw [isB_kN]; simp [hc]
    have hh : isH c = false := by rw [isH_kN]; simp [hc]
    have hg : gpN (c :: r) = 0 := by simp [gpN, runN, hb, hh]
    have hl : 0 < (c :: r).length := by simp
    have hf : fst3 (c :: r) = (0, (c :: r).length, 0) := by
      unfold fst3
      rw [h3, if_neg (by omega), if_pos hl]
    unfold tokR
    rw [if_neg (by omega), lxs_tok (1, 1) (by simp) hg (by rw [hf]), hf]
    simp only [List.take_length, List.drop_length, lxs_nil]
    rfl

set_option maxHeartbeats 3200000 in
set_option maxRecDepth 100000 in
theorem names_law (hr : ReadSaid) (s : ByteArray) (w : World) (hSK : Sg w ∧ Kw w) :
    Calls Tryd.prog 6 #[.string s] w fun e w' => e = .returned (.bool true) ∧ Turn [] w w' := by
  have HS := Lib.hid hSK.1
  have HK := Lib.hid hSK.2
  have HR := Lib.hid hr
  clear hSK hr
  by_cases hbig : 100 < s.size
  · have d1 : decide ((100 : Int) < (s.size : Int)) = true := by simp; omega
    have d2 : (100 : Int) < (s.size : Int) := by omega
    go_enter Tryd.func6, Tryd.ntmps6
    go_wp2_with fail
    refine (awake_any HR.out w HS.out).mono ?_
    rintro e w1 ⟨rfl, t1⟩
    have HT1 := Lib.hid t1
    clear t1
    go_wp2_with fail
    refine (awake_any HR.out w1 (HS.out.turn HT1.out (by simp))).mono ?_
    rintro e w2 ⟨rfl, t2⟩
    have HT2 := Lib.hid (HT1.out.trans' t2)
    clear t2
    go_wp2_with fail
    go_ret
    exact ⟨rfl, HT2.out⟩
  · have d1 : decide ((100 : Int) < (s.size : Int)) = false := by simp; omega
    have d2 : ¬ (100 : Int) < (s.size : Int) := by omega
    have hss : s.size ≤ 1000000 := by omega
    obtain ⟨kb, hkb⟩ : ∃ kb, kwL.contains s.data.toList = kb := ⟨_, rfl⟩
    have HKB := Lib.hid hkb
    clear hkb
    go_enter Tryd.func6, Tryd.ntmps6
    go_wp2_with fail
    refine (awake_any HR.out w HS.out).mono ?_
    rintro e w1 ⟨rfl, t1⟩
    have HT1 := Lib.hid t1
    clear t1
    go_wp2_with fail
    refine (keyword_any s w1 (HK.out.turn HT1.out (by simp))).mono ?_
    rintro e w2 ⟨rfl, rfl⟩
    rw [HKB.out]
    go_wp2_with fail
    refine (refKeyword_any s w2).mono ?_
    rintro e w3 ⟨rfl, t3⟩
    have HT3 := Lib.hid (HT1.out.trans' t3)
    clear t3
    rw [HKB.out]
    have ekb : (kb != kb) = false := by cases kb <;> rfl
    go_wp2_with fail
    obtain ⟨nb, hnb⟩ : ∃ nb, nameB s.data.toList = nb := ⟨_, rfl⟩
    have HNB := Lib.hid hnb
    clear hnb
    refine (name_any s w3 (HK.out.turn HT3.out (by simp)) hss).mono ?_
    rintro e w4 ⟨rfl, t4⟩
    rw [HNB.out]
    have HT4 := Lib.hid (HT3.out.trans' t4)
    clear t4
    go_wp2_with fail
    refine (refName_any s w4 hss).mono ?_
    rintro e w5 ⟨rfl, t5⟩
    rw [HNB.out]
    have HT5 := Lib.hid (HT4.out.trans' t5)
    clear t5
    have HS5 := Lib.hid (HS.out.turn HT5.out (by simp))
    cases nb with
    | true =>
      have HTK := Lib.hid (name_tok HNB.out)
      go_wp2_with fail
      refine (tokens_good HR.out s w5 HS5.out _ _ HTK.out).mono ?_
      rintro e w6 ⟨V, rfl, t6, hV, hg⟩
      have HT6 := Lib.hid (HT5.out.trans' t6)
      obtain ⟨A, c, rfl, hc, hrow⟩ := hV.form
      obtain ⟨g, rfl, hgl, hcell⟩ := hrow 0 _ rfl
      have k0 : w6.cell? ⟨g, 0, none⟩ = some (.int .i64 0) := hcell 0 _ rfl
      have k1 : w6.cell? ⟨g, 1, none⟩ = some (.string ⟨s.data.toList.toArray⟩) := hcell 1 _ rfl
      rw [Lib.mk_data] at k1
      clear hcell hrow hV t6 hg
      have n0 := World.new_ne w6 ⟨g, 0, none⟩ k0
      have es := bytes_t (rfl : s = s)
      simp only [goodV, List.length_cons, List.length_nil]
      have hrn := refName_any s ((w6.alloc (.cells #[.int .i64 ((pss (1, 1) s.data.toList).1 : Int), .int .i64 ((pss (1, 1) s.data.toList).2 : Int)] 25)).alloc (.cells #[.int .i64 0, .int .i64 0, .int .i64 0] 28)) hss
      rw [HNB.out] at hrn
      have HRN := Lib.hid hrn
      clear hrn
      go_wp2_with fail
      refine HRN.out.mono ?_
      rintro e w7 ⟨rfl, t7⟩
      have tw : Turn [] w6 w7 := (((Turn.refl [] w6).alloc _).alloc _).trans' t7
      have hb7 : w7.heap[w6.heap.size + 1]? = some (.cells #[.int .i64 0, .int .i64 0, .int .i64 0] 28 (0, 0)) := by
        refine t7.heap ?_ (by simp)
        have := heap_alloc_new (w6.alloc (.cells #[.int .i64 ((pss (1, 1) s.data.toList).1 : Int), .int .i64 ((pss (1, 1) s.data.toList).2 : Int)] 25)) (.cells #[.int .i64 0, .int .i64 0, .int .i64 0] 28)
        rwa [World.size_alloc] at this
      have f0 : w7.cell? ⟨w6.heap.size + 1, 0, none⟩ = some (.int .i64 0) := cell_of_row w7 _ 0 _ 28 (0, 0) hb7
      have j0 : w7.cell? ⟨g, 0, none⟩ = some (.int .i64 0) := (tw.cell (p := ⟨g, 0, none⟩) hgl (by simp)).trans k0
      have j1 : w7.cell? ⟨g, 1, none⟩ = some (.string s) := (tw.cell (p := ⟨g, 1, none⟩) hgl (by simp)).trans k1
      have HT7 := Lib.hid (HT6.out.trans' tw)
      clear tw hb7 t7
      go_wp2_with fail
      go_ret
      exact ⟨rfl, HT7.out⟩
    | false =>
      go_wp2_with fail
      refine (tokens_any HR.out s w5 HS5.out).mono ?_
      rintro e w6 ⟨t6, hcase⟩
      have HT6 := Lib.hid (HT5.out.trans' t6)
      clear t6
      have hrn := fun W => refName_any s W hss
      rw [HNB.out] at hrn
      have HRN := Lib.hid hrn
      clear hrn
      rcases hcase with ⟨x, l, c, _, _, rfl⟩ | ⟨ts, p, V, _, hV, _, rfl⟩
      · simp only [badV]
        go_wp2_with fail
        refine (HRN.out _).mono ?_
        rintro e w7 ⟨rfl, t7⟩
        have HT7 := Lib.hid ((((HT6.out).alloc _).alloc _).trans' t7)
        clear t7
        go_wp2_with fail
        go_ret
        exact ⟨rfl, HT7.out⟩
      · obtain ⟨A, c, rfl, hc, hrow⟩ := hV.form
        clear hrow hV
        simp only [goodV]
        go_wp2_with fail
        refine (HRN.out _).mono ?_
        rintro e w7 ⟨rfl, t7⟩
        have HT7 := Lib.hid ((((HT6.out).alloc _).alloc _).trans' t7)
        clear t7
        go_wp2_with fail
        go_ret
        exact ⟨rfl, HT7.out⟩
end Go.Proofs.YthdoihemjndmlaaDoor
