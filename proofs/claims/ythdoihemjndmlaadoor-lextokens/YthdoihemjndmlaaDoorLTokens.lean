/- LexTokens: the tokens of any text, their places, or the first fault, are the document's. -/
import Derived.Test.YthdoihemjndmlaaDoorRt
import Derived.Test.YthdoihemjndmlaaDoorOf
import Derived.Test.YthdoihemjndmlaaDoorLPlaces
set_option linter.unusedSimpArgs false
set_option linter.unusedVariables false
namespace Go.Proofs.YthdoihemjndmlaaDoor
open Go.RowKit

theorem refTokens_good (s : ByteArray) (w : World) (hs : s.size ≤ 20000) (ts : List Tok) (p : Nat × Nat) (h : tokR s.data.toList = .good ts p) :
    Calls Tryd.prog 10 #[.string s] w fun e w' => ∃ V, e = .returned (goodV V p) ∧ Turn [] w w' ∧ OwnT w' V ts := by
  refine (refTokens_any s w hs).mono ?_
  rintro e w' ⟨t, ⟨x, l, c, h1, _, _⟩ | ⟨ts', p', V, h1, h2, h3, rfl⟩⟩
  · rw [h] at h1
    cases h1
  · rw [h] at h1
    injection h1 with h1 h1'
    subst h1 h1'
    exact ⟨V, rfl, t, h2⟩
theorem refTokens_bad (s : ByteArray) (w : World) (hs : s.size ≤ 20000) (x l c : Nat) (h : tokR s.data.toList = .bad x l c) :
    Calls Tryd.prog 10 #[.string s] w fun e w' => e = .returned (badV x l c) ∧ Turn [] w w' := by
  refine (refTokens_any s w hs).mono ?_
  rintro e w' ⟨t, ⟨x', l', c', h1, h2, rfl⟩ | ⟨ts', p', V, h1, h2, h3, rfl⟩⟩
  · rw [h] at h1
    injection h1 with e1 e2 e3
    subst e1 e2 e3
    exact ⟨rfl, t⟩
  · rw [h] at h1
    cases h1

set_option maxHeartbeats 3200000 in
set_option maxRecDepth 100000 in
theorem tokens_law (hr : ReadSaid) (s : ByteArray) (w : World) (hS : Sg w) :
    Calls Tryd.prog 3 #[.string s] w fun e w' => e = .returned (.bool true) ∧ Turn [] w w' := by
  have HS := Lib.hid hS
  have HR := Lib.hid hr
  clear hS hr
  by_cases hbig : 600 < s.size
  · have d1 : decide ((600 : Int) < (s.size : Int)) = true := by simp; omega
    have d2 : (600 : Int) < (s.size : Int) := by omega
    go_enter Tryd.func3, Tryd.ntmps3
    go_wp2_with fail
    refine (awake_any HR.out w HS.out).mono ?_
    rintro e w1 ⟨rfl, t1⟩
    have HT1 := Lib.hid t1
    clear t1
    go_wp2_with fail
    refine (awake_any HR.out w1 (HS.out.turn HT1.out (by simp))).mono ?_
    rintro e w2 ⟨rfl, t2⟩
    have HT2 := Lib.hid (HT1.out.trans' t2)
    clear t2
    go_wp2_with fail
    go_ret
    exact ⟨rfl, HT2.out⟩
  · have d1 : decide ((600 : Int) < (s.size : Int)) = false := by simp; omega
    have d2 : ¬ (600 : Int) < (s.size : Int) := by omega
    have hss : s.size ≤ 20000 := by omega
    have hl : s.data.toList.length = s.size := (Lib.size_eq s).symm
    cases htk : tokR s.data.toList with
    | bad x l c =>
      have HTK := Lib.hid htk
      clear htk hl
      go_enter Tryd.func3, Tryd.ntmps3
      go_wp2_with fail
      refine (awake_any HR.out w HS.out).mono ?_
      rintro e w1 ⟨rfl, t1⟩
      have HT1 := Lib.hid t1
      clear t1
      go_wp2_with fail
      refine (tokens_bad HR.out s w1 (HS.out.turn HT1.out (by simp)) x l c HTK.out).mono ?_
      rintro e w2 ⟨rfl, t2, _⟩
      have HT2 := Lib.hid (HT1.out.trans' t2)
      clear t2
      simp only [badV]
      go_upto_region 4 with (fail)
      obtain ⟨W, hW⟩ : ∃ W, (w2.alloc (.cells #[.int .i64 0, .int .i64 0] 25)).alloc (.cells #[.int .i64 (x : Int), .int .i64 (l : Int), .int .i64 (c : Int)] 28) = W := ⟨_, rfl⟩
      obtain ⟨r, hr⟩ : ∃ r, w2.heap.size = r := ⟨_, rfl⟩
      rw [hW, hr]
      have hr0 : W.heap[r]? = some (.cells #[.int .i64 0, .int .i64 0] 25 (0, 0)) := by
        rw [← hW, ← hr]
        exact ((Turn.refl [] _).alloc _).heap (heap_alloc_new w2 _) (by simp)
      have hr1 : W.heap[r + 1]? = some (.cells #[.int .i64 (x : Int), .int .i64 (l : Int), .int .i64 (c : Int)] 28 (0, 0)) := by
        rw [← hW, ← hr]
        have := heap_alloc_new (w2.alloc (.cells #[.int .i64 0, .int .i64 0] 25)) (.cells #[.int .i64 (x : Int), .int .i64 (l : Int), .int .i64 (c : Int)] 28)
        rwa [World.size_alloc] at this
      have HTW : Hid (Turn [] w W) := Lib.hid (by rw [← hW]; exact ((HT2.out).alloc _).alloc _)
      have HR0 := Lib.hid hr0
      have HR1 := Lib.hid hr1
      clear hW hr hr0 hr1
      go_wp2_with fail
      refine (refTokens_bad s W hss x l c HTK.out).mono ?_
      rintro e w3 ⟨rfl, t3⟩
      have HT3 := Lib.hid (HTW.out.trans' t3)
      have hz0 := t3.heap HR0.out (by simp)
      have hz1 := t3.heap HR1.out (by simp)
      clear t3
      have hrl : r + 1 < w3.heap.size := (Array.getElem?_eq_some_iff.1 hz1).1
      have HZ0 := Lib.hid hz0
      have HZ1 := Lib.hid hz1
      clear hz0 hz1
      simp only [badV]
      go_upto_region 5 with (fail)
      obtain ⟨W4, hW4⟩ : ∃ W4, (w3.alloc (.cells #[.int .i64 0, .int .i64 0] 25)).alloc (.cells #[.int .i64 (x : Int), .int .i64 (l : Int), .int .i64 (c : Int)] 28) = W4 := ⟨_, rfl⟩
      obtain ⟨r2, hr2⟩ : ∃ r2, w3.heap.size = r2 := ⟨_, rfl⟩
      rw [hW4, hr2]
      have t4 : Turn [] w3 W4 := by rw [← hW4]; exact ((Turn.refl [] w3).alloc _).alloc _
      have hs0 : W4.heap[r2]? = some (.cells #[.int .i64 0, .int .i64 0] 25 (0, 0)) := by
        rw [← hW4, ← hr2]
        exact ((Turn.refl [] _).alloc _).heap (heap_alloc_new w3 _) (by simp)
      have hs1 : W4.heap[r2 + 1]? = some (.cells #[.int .i64 (x : Int), .int .i64 (l : Int), .int .i64 (c : Int)] 28 (0, 0)) := by
        rw [← hW4, ← hr2]
        have := heap_alloc_new (w3.alloc (.cells #[.int .i64 0, .int .i64 0] 25)) (.cells #[.int .i64 (x : Int), .int .i64 (l : Int), .int .i64 (c : Int)] 28)
        rwa [World.size_alloc] at this
      have HT4 := Lib.hid (HT3.out.trans' t4)
      have hz0 := t4.heap HZ0.out (by simp)
      have hz1 := t4.heap HZ1.out (by simp)
      have HSM := Lib.hid (refSame_any none none 0 0 [] W4 (OwnT.nil _) (OwnT.nil _) (by simp))
      have Z0 := Lib.hid hz0
      have Z1 := Lib.hid hz1
      have S0 := Lib.hid hs0
      have S1 := Lib.hid hs1
      clear hW4 hr2 t4 hz0 hz1 hs0 hs1
      go_wp2_with fail
      refine HSM.out.mono ?_
      rintro e w5 ⟨rfl, m, hm⟩
      have hh : w5.heap = W4.heap := by rw [hm]; rfl
      have HT5 : Hid (Turn [] w w5) := Lib.hid (by rw [hm]; exact (HT4.out).drewN m)
      have a0 : w5.cell? ⟨r, 0, none⟩ = some (.int .i64 0) := cell_of_row w5 r 0 _ 25 (0, 0) (by rw [hh]; exact Z0.out)
      have a1 : w5.cell? ⟨r, 1, none⟩ = some (.int .i64 0) := cell_of_row w5 r 1 _ 25 (0, 0) (by rw [hh]; exact Z0.out)
      have b0 : w5.cell? ⟨r + 1, 0, none⟩ = some (.int .i64 (x : Int)) := cell_of_row w5 (r + 1) 0 _ 28 (0, 0) (by rw [hh]; exact Z1.out)
      have b1 : w5.cell? ⟨r + 1, 1, none⟩ = some (.int .i64 (l : Int)) := cell_of_row w5 (r + 1) 1 _ 28 (0, 0) (by rw [hh]; exact Z1.out)
      have b2 : w5.cell? ⟨r + 1, 2, none⟩ = some (.int .i64 (c : Int)) := cell_of_row w5 (r + 1) 2 _ 28 (0, 0) (by rw [hh]; exact Z1.out)
      have c0 : w5.cell? ⟨r2, 0, none⟩ = some (.int .i64 0) := cell_of_row w5 r2 0 _ 25 (0, 0) (by rw [hh]; exact S0.out)
      have c1 : w5.cell? ⟨r2, 1, none⟩ = some (.int .i64 0) := cell_of_row w5 r2 1 _ 25 (0, 0) (by rw [hh]; exact S0.out)
      have e0 : w5.cell? ⟨r2 + 1, 0, none⟩ = some (.int .i64 (x : Int)) := cell_of_row w5 (r2 + 1) 0 _ 28 (0, 0) (by rw [hh]; exact S1.out)
      have e1 : w5.cell? ⟨r2 + 1, 1, none⟩ = some (.int .i64 (l : Int)) := cell_of_row w5 (r2 + 1) 1 _ 28 (0, 0) (by rw [hh]; exact S1.out)
      have e2 : w5.cell? ⟨r2 + 1, 2, none⟩ = some (.int .i64 (c : Int)) := cell_of_row w5 (r2 + 1) 2 _ 28 (0, 0) (by rw [hh]; exact S1.out)
      clear hh hm
      go_wp2_with fail
      go_ret
      exact ⟨rfl, HT5.out⟩
    | good ts p =>
      have hln := Offs.len ts 0 (by omega) (offs_tok htk)
      rw [hl] at hln
      have HTK := Lib.hid htk
      clear htk hl
      obtain ⟨pl, pc⟩ := p
      go_enter Tryd.func3, Tryd.ntmps3
      go_wp2_with fail
      refine (awake_any HR.out w HS.out).mono ?_
      rintro e w1 ⟨rfl, t1⟩
      have HT1 := Lib.hid t1
      clear t1
      go_wp2_with fail
      refine (tokens_good HR.out s w1 (HS.out.turn HT1.out (by simp)) ts (pl, pc) HTK.out).mono ?_
      rintro e w2 ⟨V, rfl, t2, hV, _⟩
      have HT2 := Lib.hid (HT1.out.trans' t2)
      obtain ⟨A, cp, rfl, _, _⟩ := hV.form
      have HV := Lib.hid hV
      clear t2 hV
      simp only [goodV]
      go_upto_region 4 with (fail)
      obtain ⟨W, hW⟩ : ∃ W, (w2.alloc (.cells #[.int .i64 (pl : Int), .int .i64 (pc : Int)] 25)).alloc (.cells #[.int .i64 0, .int .i64 0, .int .i64 0] 28) = W := ⟨_, rfl⟩
      obtain ⟨r, hr⟩ : ∃ r, w2.heap.size = r := ⟨_, rfl⟩
      rw [hW, hr]
      have hr0 : W.heap[r]? = some (.cells #[.int .i64 (pl : Int), .int .i64 (pc : Int)] 25 (0, 0)) := by
        rw [← hW, ← hr]
        exact ((Turn.refl [] _).alloc _).heap (heap_alloc_new w2 _) (by simp)
      have hr1 : W.heap[r + 1]? = some (.cells #[.int .i64 0, .int .i64 0, .int .i64 0] 28 (0, 0)) := by
        rw [← hW, ← hr]
        have := heap_alloc_new (w2.alloc (.cells #[.int .i64 (pl : Int), .int .i64 (pc : Int)] 25)) (.cells #[.int .i64 0, .int .i64 0, .int .i64 0] 28)
        rwa [World.size_alloc] at this
      have tW : Turn [] w2 W := by rw [← hW]; exact ((Turn.refl [] w2).alloc _).alloc _
      have HTW := Lib.hid (HT2.out.trans' tW)
      have HVW : Hid (OwnT W (.slice A ts.length cp) ts) := Lib.hid (Turn.owns tW HV.out (by simp))
      have HR0 := Lib.hid hr0
      have HR1 := Lib.hid hr1
      clear hW hr hr0 hr1 tW
      go_wp2_with fail
      refine (refTokens_good s W hss ts (pl, pc) HTK.out).mono ?_
      rintro e w3 ⟨V2, rfl, t3, hV2⟩
      have HT3 := Lib.hid (HTW.out.trans' t3)
      obtain ⟨A2, cp2, rfl, _, _⟩ := hV2.form
      have HV3 : Hid (OwnT w3 (.slice A ts.length cp) ts) := Lib.hid (Turn.owns t3 HVW.out (by simp))
      have HV2 := Lib.hid hV2
      have hz0 := t3.heap HR0.out (by simp)
      have hz1 := t3.heap HR1.out (by simp)
      clear t3 hV2
      have hrl : r + 1 < w3.heap.size := (Array.getElem?_eq_some_iff.1 hz1).1
      have HZ0 := Lib.hid hz0
      have HZ1 := Lib.hid hz1
      clear hz0 hz1
      simp only [goodV]
      go_upto_region 5 with (fail)
      obtain ⟨W4, hW4⟩ : ∃ W4, (w3.alloc (.cells #[.int .i64 (pl : Int), .int .i64 (pc : Int)] 25)).alloc (.cells #[.int .i64 0, .int .i64 0, .int .i64 0] 28) = W4 := ⟨_, rfl⟩
      obtain ⟨r2, hr2⟩ : ∃ r2, w3.heap.size = r2 := ⟨_, rfl⟩
      rw [hW4, hr2]
      have t4 : Turn [] w3 W4 := by rw [← hW4]; exact ((Turn.refl [] w3).alloc _).alloc _
      have hs0 : W4.heap[r2]? = some (.cells #[.int .i64 (pl : Int), .int .i64 (pc : Int)] 25 (0, 0)) := by
        rw [← hW4, ← hr2]
        exact ((Turn.refl [] _).alloc _).heap (heap_alloc_new w3 _) (by simp)
      have hs1 : W4.heap[r2 + 1]? = some (.cells #[.int .i64 0, .int .i64 0, .int .i64 0] 28 (0, 0)) := by
        rw [← hW4, ← hr2]
        have := heap_alloc_new (w3.alloc (.cells #[.int .i64 (pl : Int), .int .i64 (pc : Int)] 25)) (.cells #[.int .i64 0, .int .i64 0, .int .i64 0] 28)
        rwa [World.size_alloc] at this
      have HT4 := Lib.hid (HT3.out.trans' t4)
      have hz0 := t4.heap HZ0.out (by simp)
      have hz1 := t4.heap HZ1.out (by simp)
      have HSM := Lib.hid (refSame_any A A2 cp cp2 ts W4 (Turn.owns t4 HV3.out (by simp)) (Turn.owns t4 HV2.out (by simp)) (by omega))
      have Z0 := Lib.hid hz0
      have Z1 := Lib.hid hz1
      have S0 := Lib.hid hs0
      have S1 := Lib.hid hs1
      clear hW4 hr2 t4 hz0 hz1 hs0 hs1
      go_wp2_with fail
      refine HSM.out.mono ?_
      rintro e w5 ⟨rfl, m, hm⟩
      have hh : w5.heap = W4.heap := by rw [hm]; rfl
      have HT5 : Hid (Turn [] w w5) := Lib.hid (by rw [hm]; exact (HT4.out).drewN m)
      have a0 : w5.cell? ⟨r, 0, none⟩ = some (.int .i64 (pl : Int)) := cell_of_row w5 r 0 _ 25 (0, 0) (by rw [hh]; exact Z0.out)
      have a1 : w5.cell? ⟨r, 1, none⟩ = some (.int .i64 (pc : Int)) := cell_of_row w5 r 1 _ 25 (0, 0) (by rw [hh]; exact Z0.out)
      have b0 : w5.cell? ⟨r + 1, 0, none⟩ = some (.int .i64 0) := cell_of_row w5 (r + 1) 0 _ 28 (0, 0) (by rw [hh]; exact Z1.out)
      have b1 : w5.cell? ⟨r + 1, 1, none⟩ = some (.int .i64 0) := cell_of_row w5 (r + 1) 1 _ 28 (0, 0) (by rw [hh]; exact Z1.out)
      have b2 : w5.cell? ⟨r + 1, 2, none⟩ = some (.int .i64 0) := cell_of_row w5 (r + 1) 2 _ 28 (0, 0) (by rw [hh]; exact Z1.out)
      have c0 : w5.cell? ⟨r2, 0, none⟩ = some (.int .i64 (pl : Int)) := cell_of_row w5 r2 0 _ 25 (0, 0) (by rw [hh]; exact S0.out)
      have c1 : w5.cell? ⟨r2, 1, none⟩ = some (.int .i64 (pc : Int)) := cell_of_row w5 r2 1 _ 25 (0, 0) (by rw [hh]; exact S0.out)
      have e0 : w5.cell? ⟨r2 + 1, 0, none⟩ = some (.int .i64 0) := cell_of_row w5 (r2 + 1) 0 _ 28 (0, 0) (by rw [hh]; exact S1.out)
      have e1 : w5.cell? ⟨r2 + 1, 1, none⟩ = some (.int .i64 0) := cell_of_row w5 (r2 + 1) 1 _ 28 (0, 0) (by rw [hh]; exact S1.out)
      have e2 : w5.cell? ⟨r2 + 1, 2, none⟩ = some (.int .i64 0) := cell_of_row w5 (r2 + 1) 2 _ 28 (0, 0) (by rw [hh]; exact S1.out)
      clear hh hm
      go_wp2_with fail
      go_ret
      exact ⟨rfl, HT5.out⟩
end Go.Proofs.YthdoihemjndmlaaDoor
