/- Tokens, from what read does. -/
import Derived.Test.YthdoihemjndmlaaDoorRa
import Derived.Deep.DeepCutAuto
set_option linter.unusedSimpArgs false
set_option linter.unusedVariables false
namespace Go.Proofs.YthdoihemjndmlaaDoor
open Go.RowKit

/-- What Tokens tells of a text. -/
def tokR (T : List UInt8) : LR := if 20000 < T.length then .bad 13 1 1 else lxs T (1, 1)
def badV (x l c : Nat) : Value := .tuple #[.slice none 0 0, .agg #[.int .i64 0, .int .i64 0], .agg #[.int .i64 (x : Int), .int .i64 (l : Int), .int .i64 (c : Int)]]
def goodV (V : Value) (p : Nat × Nat) : Value := .tuple #[V, .agg #[.int .i64 (p.1 : Int), .int .i64 (p.2 : Int)], .agg #[.int .i64 0, .int .i64 0, .int .i64 0]]
theorem lxa_zero (T : List UInt8) : lxa T 0 = lxs T (1, 1) := rfl

set_option maxHeartbeats 3200000 in
theorem tokens_any (hr : ReadSaid) (s : ByteArray) (w : World) (hS : Sg w) :
    Calls Tryd.prog 9 #[.string s] w fun e w' => Turn [] w w' ∧
      ((∃ x l c, tokR s.data.toList = .bad x l c ∧ x ≠ 0 ∧ e = .returned (badV x l c)) ∨ (∃ ts p V, tokR s.data.toList = .good ts p ∧ OwnT w' V ts ∧ (∀ g, V.ownBlock = some g → w.heap.size ≤ g) ∧ e = .returned (goodV V p))) := by
  have HS := Lib.hid hS
  have HR := Lib.hid hr
  clear hS hr
  go_enter Tryd.func9, Tryd.ntmps9
  go_wp2_with fail
  obtain ⟨W0, hW0⟩ : ∃ W0, (w.alloc (.cells #[.int .i64 0, .int .i64 0] 25)).alloc (.cells #[.int .i64 0, .int .i64 0, .int .i64 0] 28) = W0 := ⟨_, rfl⟩
  rw [hW0]
  have HP0 : Hid (Turn [] w W0 ∧ W0.heap.size = w.heap.size + 2 ∧ W0.heap[w.heap.size]? = some (.cells #[.int .i64 0, .int .i64 0] 25 (0, 0)) ∧ W0.heap[w.heap.size + 1]? = some (.cells #[.int .i64 0, .int .i64 0, .int .i64 0] 28 (0, 0))) := by
    refine Lib.hid ?_
    rw [← hW0]
    refine ⟨((Turn.refl [] w).alloc _).alloc _, by simp, ?_, ?_⟩
    · exact ((Turn.refl [] _).alloc _).heap (heap_alloc_new w _) (by simp)
    · have := heap_alloc_new (w.alloc (.cells #[.int .i64 0, .int .i64 0] 25)) (.cells #[.int .i64 0, .int .i64 0, .int .i64 0] 28)
      rwa [World.size_alloc] at this
  clear hW0
  refine (start_any s W0).mono ?_
  rintro e w1 ⟨rfl, t1⟩
  have HT1 := Lib.hid t1
  clear t1
  go_upto_region 2 with (fail)
  obtain ⟨W, hW⟩ : ∃ W, w1.alloc (.cells #[.int .i64 1, .int .i64 1, .string s, .slice none 0 0] 46) = W := ⟨_, rfl⟩
  obtain ⟨b, hb⟩ : ∃ b, w1.heap.size = b := ⟨_, rfl⟩
  obtain ⟨r, hr⟩ : ∃ r, w.heap.size = r := ⟨_, rfl⟩
  rw [hW, hb, hr]
  have hWb : W.heap[b]? = some (.cells #[.int .i64 1, .int .i64 1, .string s, .slice none 0 0] 46 (0, 0)) := by rw [← hW, ← hb]; exact heap_alloc_new w1 _
  have hWt : Turn [] w1 W := by rw [← hW]; exact (Turn.refl [] w1).alloc _
  have hT : Turn [] w W := (HP0.out.1.trans' HT1.out).trans' hWt
  have hr0 : W.heap[r]? = some (.cells #[.int .i64 0, .int .i64 0] 25 (0, 0)) := by rw [← hr]; exact (HT1.out.trans' hWt).heap HP0.out.2.2.1 (by simp)
  have hr1 : W.heap[r + 1]? = some (.cells #[.int .i64 0, .int .i64 0, .int .i64 0] 28 (0, 0)) := by rw [← hr]; exact (HT1.out.trans' hWt).heap HP0.out.2.2.2 (by simp)
  have hrb : r + 2 ≤ b := by
    have h1 := HP0.out.2.1
    have h2 := HT1.out.size
    omega
  have hbl : b < W.heap.size := (Array.getElem?_eq_some_iff.1 hWb).1
  have hRP : RP W b [b] s.data.toList 0 (.slice none 0 0) s [] := ⟨hWb, by simp, by omega, OwnT.nil W, by simp, fun g e => (by cases e), by simpa using hbl⟩
  have HT := Lib.hid hT
  have HRP := Lib.hid hRP
  have HR0 := Lib.hid hr0
  have HR1 := Lib.hid hr1
  have HRr := Lib.hid hr
  have hszl : s.data.toList.length = s.size := (Lib.size_eq s).symm
  have HSL := Lib.hid hszl
  have HWB := Lib.hid hWb
  clear hW hb hr
  by_cases hbig : 20000 < s.size
  · have d1 : decide ((20000 : Int) < (s.size : Int)) = true := by simp; omega
    have d2 : (20000 : Int) < (s.size : Int) := by omega
    have htk : tokR s.data.toList = .bad 13 1 1 := by
      unfold tokR
      rw [if_pos (by omega)]
    have HTK := Lib.hid htk
    clear htk hRP hT hr0 hr1 hszl
    clear hWb hWt
    go_wp2_with fail
    refine (fault_any b 1 1 (.string s) (.slice none 0 0) 13 W HWB.out).mono ?_
    rintro e w3 ⟨rfl, t3⟩
    have HT3 := Lib.hid t3
    have hz0 := t3.heap HR0.out (by simp)
    have hz1 := t3.heap HR1.out (by simp)
    have p0 : w3.cell? ⟨r, 0, none⟩ = some (.int .i64 0) := cell_of_row w3 r 0 _ 25 (0, 0) hz0
    have pf0 : w3.frozen? ⟨r, 0, none⟩ = false := frozen_of_row w3 r 0 _ 25 hz0
    have p1 : w3.cell? ⟨r, 1, none⟩ = some (.int .i64 0) := cell_of_row w3 r 1 _ 25 (0, 0) hz0
    have pf1 : w3.frozen? ⟨r, 1, none⟩ = false := frozen_of_row w3 r 1 _ 25 hz0
    have q0 : w3.cell? ⟨r + 1, 0, none⟩ = some (.int .i64 0) := cell_of_row w3 (r + 1) 0 _ 28 (0, 0) hz1
    have qf0 : w3.frozen? ⟨r + 1, 0, none⟩ = false := frozen_of_row w3 (r + 1) 0 _ 28 hz1
    have q1 : w3.cell? ⟨r + 1, 1, none⟩ = some (.int .i64 0) := cell_of_row w3 (r + 1) 1 _ 28 (0, 0) hz1
    have qf1 : w3.frozen? ⟨r + 1, 1, none⟩ = false := frozen_of_row w3 (r + 1) 1 _ 28 hz1
    have q2 : w3.cell? ⟨r + 1, 2, none⟩ = some (.int .i64 0) := cell_of_row w3 (r + 1) 2 _ 28 (0, 0) hz1
    have qf2 : w3.frozen? ⟨r + 1, 2, none⟩ = false := frozen_of_row w3 (r + 1) 2 _ 28 hz1
    clear hz0 hz1 t3
    go_wp2_with fail
    refine bodyPost_ret (v := badV 13 1 1) (by simp [results, Tryd.results9, go_sem, badV, p0, p1, q0, q1, q2]) rfl ⟨?_, .inl ⟨13, 1, 1, HTK.out, by omega, rfl⟩⟩
    have hrr := HRr.out
    have := HT3.out
    refine (((((HT.out.trans' HT3.out).setCell (.inr ?_) _).setCell (.inr ?_) _).setCell (.inr ?_) _).setCell (.inr ?_) _).setCell (.inr ?_) _ <;> (simp; try omega)
  · have d1 : decide ((20000 : Int) < (s.size : Int)) = false := by simp; omega
    have d2 : ¬ (20000 : Int) < (s.size : Int) := by omega
    have htk : tokR s.data.toList = lxa s.data.toList 0 := by
      unfold tokR
      rw [if_neg (by omega), lxa_zero]
    have HTK := Lib.hid htk
    have HSW := Lib.hid (HS.out.turn hT (by simp))
    have h1b : 1 ∉ [b] := by
      have := HS.out.1
      simp
      omega
    clear htk hRP hT hr0 hr1
    clear hWb hWt
    go_wp2_with fail
    refine (readAll_any HR.out b [b] s.data.toList W ⟨_, _, HRP.out⟩ HSW.out h1b (by omega)).mono ?_
    rintro e w3 ⟨F3, n3, ts, hF3, t3, hR3, hcase⟩
    have HT3 := Lib.hid t3
    have HF3 := Lib.hid hF3
    have hz0 := t3.heap HR0.out (by simp; omega)
    have hz1 := t3.heap HR1.out (by simp; omega)
    obtain ⟨V, s3, hR3⟩ := hR3
    have HR3 := Lib.hid hR3
    have HZ0 := Lib.hid hz0
    have HZ1 := Lib.hid hz1
    have hTT : Turn [] w w3 := HT.out.trans t3 (fun g hg => by simp at hg; have := HRr.out; exact .inr (by omega))
    have HTT := Lib.hid hTT
    clear hz0 hz1 t3 hR3 hF3 hTT hszl
    rcases hcase with ⟨x, hx, rfl, hx0, hx13⟩ | ⟨hx, hn, rfl⟩
    · have HX := Lib.hid hx
      clear hx
      have e0 : decide ((x : Int) = 0) = false := by simp; omega
      have e1 : ((x : Int) == 0) = false := by simp; omega
      have e2 : ¬ (x : Int) = 0 := by omega
      have e4 : decide (x = 0) = false := by simpa using hx0
      go_wp2_with fail
      refine (fault_any b _ _ _ _ x w3 HR3.out.blk).mono ?_
      rintro e w4 ⟨rfl, t4⟩
      have HT4 := Lib.hid t4
      have hz0 := t4.heap HZ0.out (by simp)
      have hz1 := t4.heap HZ1.out (by simp)
      have p0 : w4.cell? ⟨r, 0, none⟩ = some (.int .i64 0) := cell_of_row w4 r 0 _ 25 (0, 0) hz0
      have pf0 : w4.frozen? ⟨r, 0, none⟩ = false := frozen_of_row w4 r 0 _ 25 hz0
      have p1 : w4.cell? ⟨r, 1, none⟩ = some (.int .i64 0) := cell_of_row w4 r 1 _ 25 (0, 0) hz0
      have pf1 : w4.frozen? ⟨r, 1, none⟩ = false := frozen_of_row w4 r 1 _ 25 hz0
      have q0 : w4.cell? ⟨r + 1, 0, none⟩ = some (.int .i64 0) := cell_of_row w4 (r + 1) 0 _ 28 (0, 0) hz1
      have qf0 : w4.frozen? ⟨r + 1, 0, none⟩ = false := frozen_of_row w4 (r + 1) 0 _ 28 hz1
      have q1 : w4.cell? ⟨r + 1, 1, none⟩ = some (.int .i64 0) := cell_of_row w4 (r + 1) 1 _ 28 (0, 0) hz1
      have qf1 : w4.frozen? ⟨r + 1, 1, none⟩ = false := frozen_of_row w4 (r + 1) 1 _ 28 hz1
      have q2 : w4.cell? ⟨r + 1, 2, none⟩ = some (.int .i64 0) := cell_of_row w4 (r + 1) 2 _ 28 (0, 0) hz1
      have qf2 : w4.frozen? ⟨r + 1, 2, none⟩ = false := frozen_of_row w4 (r + 1) 2 _ 28 hz1
      clear hz0 hz1 t4
      go_wp2_with fail
      refine bodyPost_ret (v := badV x (plc s.data.toList n3).1 (plc s.data.toList n3).2) (by simp [results, Tryd.results9, go_sem, badV, p0, p1, q0, q1, q2]) rfl ⟨?_, .inl ⟨x, _, _, HTK.out.trans HX.out, hx0, rfl⟩⟩
      have hrr := HRr.out
      refine (((((HTT.out.trans' HT4.out).setCell (.inr ?_) _).setCell (.inr ?_) _).setCell (.inr ?_) _).setCell (.inr ?_) _).setCell (.inr ?_) _ <;> (simp; try omega)
    · have HX := Lib.hid hx
      have HN := Lib.hid hn
      clear hn
      have b0 : w3.cell? ⟨b, 0, none⟩ = some (.int .i64 ((plc s.data.toList n3).1 : Int)) := cell_of_row w3 b 0 _ 46 (0, 0) HR3.out.blk
      have b1 : w3.cell? ⟨b, 1, none⟩ = some (.int .i64 ((plc s.data.toList n3).2 : Int)) := cell_of_row w3 b 1 _ 46 (0, 0) HR3.out.blk
      have b3 : w3.cell? ⟨b, 3, none⟩ = some V := cell_of_row w3 b 3 _ 46 (0, 0) HR3.out.blk
      have p0 : w3.cell? ⟨r, 0, none⟩ = some (.int .i64 0) := cell_of_row w3 r 0 _ 25 (0, 0) HZ0.out
      have pf0 : w3.frozen? ⟨r, 0, none⟩ = false := frozen_of_row w3 r 0 _ 25 HZ0.out
      have p1 : w3.cell? ⟨r, 1, none⟩ = some (.int .i64 0) := cell_of_row w3 r 1 _ 25 (0, 0) HZ0.out
      have pf1 : w3.frozen? ⟨r, 1, none⟩ = false := frozen_of_row w3 r 1 _ 25 HZ0.out
      have q0 : w3.cell? ⟨r + 1, 0, none⟩ = some (.int .i64 0) := cell_of_row w3 (r + 1) 0 _ 28 (0, 0) HZ1.out
      have qf0 : w3.frozen? ⟨r + 1, 0, none⟩ = false := frozen_of_row w3 (r + 1) 0 _ 28 HZ1.out
      have q1 : w3.cell? ⟨r + 1, 1, none⟩ = some (.int .i64 0) := cell_of_row w3 (r + 1) 1 _ 28 (0, 0) HZ1.out
      have qf1 : w3.frozen? ⟨r + 1, 1, none⟩ = false := frozen_of_row w3 (r + 1) 1 _ 28 HZ1.out
      have q2 : w3.cell? ⟨r + 1, 2, none⟩ = some (.int .i64 0) := cell_of_row w3 (r + 1) 2 _ 28 (0, 0) HZ1.out
      have qf2 : w3.frozen? ⟨r + 1, 2, none⟩ = false := frozen_of_row w3 (r + 1) 2 _ 28 HZ1.out
      clear hx
      go_wp2_with fail
      have hn1 : r ≠ b := by omega
      have hn2 : r + 1 ≠ b := by omega
      have hn3 : b ≠ r := by omega
      have hn4 : b ≠ r + 1 := by omega
      obtain ⟨l, hl⟩ : ∃ l, (plc s.data.toList n3).1 = l := ⟨_, rfl⟩
      obtain ⟨c, hc⟩ : ∃ c, (plc s.data.toList n3).2 = c := ⟨_, rfl⟩
      rw [hl] at b0
      rw [hc] at b1
      have HLC : Hid (plc s.data.toList n3 = (l, c)) := Lib.hid (by rw [← hl, ← hc])
      clear hl hc
      go_region_held3 (fun w' => w'.cell? ⟨b, 0, none⟩ = some (.int .i64 (l : Int)) ∧ w'.cell? ⟨b, 1, none⟩ = some (.int .i64 (c : Int)) ∧ w'.cell? ⟨b, 3, none⟩ = some V)
        (first | go_keep)
        (first | fail)
      go_wp2_with fail
      have tS : Turn [r, r + 1] w3 (((((w3.setCell ⟨r, 0, none⟩ (.int .i64 (l : Int))).setCell ⟨r, 1, none⟩ (.int .i64 (c : Int))).setCell ⟨r + 1, 0, none⟩ (.int .i64 0)).setCell ⟨r + 1, 1, none⟩ (.int .i64 0)).setCell ⟨r + 1, 2, none⟩ (.int .i64 0)).drew :=
        ((((((Turn.refl [r, r + 1] w3).setCell (.inl (by simp)) _).setCell (.inl (by simp)) _).setCell (.inl (by simp)) _).setCell (.inl (by simp)) _).setCell (.inl (by simp)) _).drew
      refine bodyPost_ret (v := goodV V (plc s.data.toList n3)) (by rw [HLC.out]; simp [results, Tryd.results9, go_sem, goodV, p0, p1, q0, q1, q2]) rfl ⟨?_, .inr ⟨ts, _, V, HTK.out.trans HX.out, ?_, ?_, rfl⟩⟩
      · have hrr := HRr.out
        exact HTT.out.trans tS (fun g hg => .inr (by simp at hg; omega))
      · refine Turn.owns tS HR3.out.row (fun g e hg => ?_)
        obtain ⟨cs, hcs⟩ := ownsRow_blk HR3.out.row e
        simp at hg
        rcases hg with rfl | rfl
        · rw [HZ0.out] at hcs
          cases hcs
        · rw [HZ1.out] at hcs
          cases hcs
      · intro g hg
        rcases HF3.out g (HR3.out.fv g hg) with h | h
        · simp at h
          have := HRr.out
          omega
        · have := HT.out.size
          omega
end Go.Proofs.YthdoihemjndmlaaDoor
