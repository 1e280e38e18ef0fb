/- text: the whole as one text. -/
import Derived.Test.YtoekaehpcjhhaaaGreatDoorPps
import Derived.Shelf.Strings.BuilderK
import Derived.Shelf.Strings.Repeat
set_option linter.unusedSimpArgs false
set_option linter.unusedVariables false
namespace Go.Proofs.YtoekaehpcjhhaaaGreatDoor
open Go.RowKit

theorem lays166 : Go.Proofs.Lays.n166 Tryz.prog lays156_ren := { lays156 with }
theorem write_any (B b : Nat) (cs : List Value) (s : ByteArray) (w : World) (h : Lib.IsBuilderF 75 5 B b cs w) (hlen : cs.length + s.size ≤ 140737488355328) (hBw : B ≤ w.heap.size) :
    Calls Tryz.prog 26 #[.pointer (some ⟨b, 0, none⟩), .string s] w fun e w' => e = .returned (.tuple #[.int .i64 s.size, .nilIface]) ∧ (Lib.BuilderAtF 75 5 B b (.pointer (some ⟨b, 0, none⟩)) (cs ++ Lib.strCells s) w' ∧ Below B w w' ∧ Lib.OthersKept 5 (some b) w w') :=
  Any.Builder_WriteString_k lays166 Builder_Extra_156 B b cs s w h hlen hBw
theorem string_any (B b : Nat) (l : List UInt8) (w : World) (h : Lib.IsBuilderF 75 5 B b (Lib.byteCells l) w) (h0 : l ≠ []) :
    Calls Tryz.prog 28 #[.pointer (some ⟨b, 0, none⟩)] w fun e w' => e = .returned (.string ⟨l.toArray⟩) ∧ Below B w w' := by
  refine (show Calls Tryz.prog 28 _ w _ from Any.Builder_String_k lays169 Builder_Extra_169 B b l w h h0).mono ?_
  rintro e w' ⟨rfl, _, hb, _⟩
  exact ⟨rfl, hb⟩
theorem repeat_any (c : Nat) (w : World) (hc : c ≤ 10000000) :
    Calls Tryz.prog 27 #[.string ⟨#[32, 32]⟩, .int .i64 (c : Int)] w fun e w' => e = .returned (.string (mk (List.replicate (2 * c) 32))) ∧ Turn [] w w' := by
  refine (show Calls Tryz.prog 27 _ w _ from Any.strings_Repeat lays105 Builder_Extra_105 ⟨#[32, 32]⟩ c w (by omega) (by simp only [sz_lit, List.size_toArray, List.length_cons, List.length_nil]; omega)).mono ?_
  rintro e w' ⟨rfl, hb⟩
  refine ⟨ret_s ?_, Turn.below hb⟩
  have key : ∀ c : Nat, Lib.repeatL [32, 32] c = List.replicate (2 * c) 32 := by
    intro c
    induction c with
    | zero => rfl
    | succ c ih =>
      rw [Lib.repeatL, ih, show 2 * (c + 1) = 2 * c + 1 + 1 by omega, List.replicate_succ, List.replicate_succ]
      rfl
  unfold mk
  rw [← key c]

theorem IsBuilderF.turn' {T e : TypeId} {B b : Nat} {cs : List Value} {w w' : World} (h : Lib.IsBuilderF T e B b cs w) (t : Turn [] w w') : Lib.IsBuilderF T e B b cs w' := by
  have key : ∀ p, Lib.BuilderAtF T e B b p cs w → Lib.BuilderAtF T e B b p cs w' := by
    rintro p ⟨hB, v, hb, hown, hne⟩
    refine ⟨hB, v, t.heap hb (by simp), ⟨hown.1, ?_⟩, hne⟩
    rcases hown.2 with h0 | ⟨g, cap, cur, fz, rfl, h1, h2, h3⟩
    · exact .inl h0
    · exact .inr ⟨g, cap, cur, fz, rfl, h1, t.heap h2 (by simp), h3⟩
  rcases h with h | h
  · exact .inl (key _ h)
  · exact .inr (key _ h)
theorem Turn.belowB {w a c : World} (h : Turn [] w a) (k : Below w.heap.size a c) : Turn [] w c :=
  ⟨k.os.trans h.os, k.tape.trans h.tape, k.output.trans h.output, Nat.le_trans h.size k.size, fun i hi _ => (k.block i hi).trans (h.block i hi (by simp))⟩
theorem kept_cell {b : Nat} {w w' : World} (h : Lib.OthersKept 5 (some b) w w') {k : Nat} {C : Array Value} (hk : w.heap[k]? = some (.cells C 77 (0, 0))) (hb : k ≠ b) : w'.heap[k]? = some (.cells C 77 (0, 0)) :=
  h k _ hk (fun e => hb (by injection e)) (fun c fz e => by injection e with _ e; exact absurd e (by decide))

/-- Rows as a text. -/
def txL (R : List Row) : List UInt8 := R.flatMap fun r => bs (ln r) ++ [10]
theorem txL_take {R : List Row} {k : Nat} {r : Row} (h : R[k]? = some r) : txL (R.take (k + 1)) = txL (R.take k) ++ (List.replicate (2 * r.1) 32 ++ bs r.2 ++ [10]) := by
  unfold txL
  rw [take_snoc h, List.flatMap_append, List.flatMap_cons, List.flatMap_nil, List.append_nil]
  unfold ln
  rw [bs_mk]
theorem txL_take_le (R : List Row) (k : Nat) : (txL (R.take k)).length ≤ (txL R).length := by
  conv => rhs; rw [← List.take_append_drop k R]
  unfold txL
  rw [List.flatMap_append, List.length_append]
  omega

set_option maxHeartbeats 8000000 in
set_option maxRecDepth 100000 in
theorem text_any (T b : Nat) (F : List Nat) (R : List Row) (D : Nat) (w : World) (h : Sh T w b F R D) (hR : R.length ≤ 100000000) (hne : R ≠ []) (hd : ∀ r ∈ R, r.1 ≤ 10000000) (hz : (txL R).length ≤ 100000000000000) :
    Calls Tryz.prog 15 #[.pointer (some ⟨b, 0, none⟩)] w fun e w' => e = .returned (.string (mk (txL R))) ∧ Turn [] w w' := by
  obtain ⟨V, h⟩ := h
  have hrow := h.row
  have hbl : b < w.heap.size := h.fl b h.fb
  obtain ⟨AV, cV, rfl, hVc, hVm⟩ := owns_form hrow
  have c0 : w.cell? ⟨b, 0, none⟩ = some (.slice AV R.length cV) := cell_of_row w b 0 _ T (0, 0) h.blk
  have tA := bx w #[.pointer none, .slice none 0 0] 75
  have c0' : (w.alloc (.cells #[.pointer none, .slice none 0 0] 75)).cell? ⟨b, 0, none⟩ = some (.slice AV R.length cV) := (tA.cell (p := ⟨b, 0, none⟩) hbl (by simp)).trans c0
  have HB0 : Hid (Lib.IsBuilderF 75 5 w.heap.size w.heap.size (Lib.byteCells (txL (R.take 0))) (w.alloc (.cells #[.pointer none, .slice none 0 0] 75)) ∧ Turn [] w (w.alloc (.cells #[.pointer none, .slice none 0 0] 75))) := Lib.hid ⟨Lib.IsBuilderF.of (Lib.fresh_isBuilder 75 5 w), tA⟩
  have HR := Lib.hid hrow
  have HZ := Lib.hid hz
  have HD := Lib.hid hd
  have HNE : Hid (txL R ≠ []) := Lib.hid (by
    cases R with
    | nil => exact absurd rfl hne
    | cons r R => unfold txL; rw [List.flatMap_cons]; simp)
  obtain ⟨n, hn⟩ : ∃ n, R.length = n := ⟨_, rfl⟩
  have HN := Lib.hid hn
  rw [hn] at c0' hR
  clear h hrow hz hn hVc hVm c0 hd hne tA
  go_enter Tryz.func15, Tryz.ntmps15
  go_wp2_with fail
  go_loopw [11] (fun i wr => ∃ k : Nat, k ≤ n ∧ i = .int .i64 (k : Int) ∧ Hid (Lib.IsBuilderF 75 5 w.heap.size w.heap.size (Lib.byteCells (txL (R.take k))) wr ∧ Turn [] w wr)) (fun i _ => n - (intOf i).toNat)
  case atStart => exact ⟨0, Nat.zero_le _, rfl, HB0⟩
  case round =>
    obtain ⟨k, hk, rfl, HW⟩ := hrel
    by_cases hlt : k < n
    · obtain ⟨r, hr⟩ := at_lt (l := R) (k := k) (by rw [HN.out]; exact hlt)
      obtain ⟨g, rfl, hgl, q0, q1⟩ := row_at (Turn.owns HW.out.2 HR.out (by simp)) hr
      have hdr := HD.out r (List.mem_of_getElem? hr)
      have hlen := txL_take_le R (k + 1)
      rw [txL_take hr] at hlen
      simp only [List.length_append, List.length_replicate, List.length_cons, List.length_nil] at hlen
      have hz := HZ.out
      have HX := Lib.hid (txL_take hr)
      obtain ⟨D0, x⟩ := r
      simp only at q0 q1 hdr hlen HX
      have tA := bx wr #[.int .i64 (D0 : Int), .string x] 77
      obtain ⟨W, hW⟩ : ∃ W, wr.alloc (.cells #[.int .i64 (D0 : Int), .string x] 77) = W := ⟨_, rfl⟩
      have hg' : W.heap[wr.heap.size]? = some (.cells #[.int .i64 (D0 : Int), .string x] 77 (0, 0)) := by rw [← hW]; exact heap_alloc_new wr _
      rw [hW] at tA
      have HRep := Lib.hid (repeat_any D0 W hdr)
      obtain ⟨S0, hS0⟩ : ∃ q, txL (R.take k) = q := ⟨_, rfl⟩
      rw [hS0] at HX hlen HW
      have hxb : (bs x).length = x.size := (size_bs x).symm
      rw [hxb] at hlen
      have hbw : w.heap.size < wr.heap.size := by
        rcases HW.out.1 with h | h
        · exact h.lt
        · exact h.lt
      have HBW : Hid (Lib.IsBuilderF 75 5 w.heap.size w.heap.size (Lib.byteCells S0) W ∧ Turn [] w W) := Lib.hid ⟨IsBuilderF.turn' HW.out.1 tA, HW.out.2.trans' tA⟩
      have HG := Lib.hid hg'
      have HWW := Lib.hid hW
      have hszb : (mk (List.replicate (2 * D0) (32 : UInt8))).size = 2 * D0 := by rw [size_bs, bs_mk, List.length_replicate]
      have HSB := Lib.hid hszb
      have HLEN := Lib.hid (Nat.le_trans hlen hz)
      obtain ⟨BL, hBL⟩ : ∃ q, mk (List.replicate (2 * D0) (32 : UInt8)) = q := ⟨_, rfl⟩
      have HBL : Hid (bs BL = List.replicate (2 * D0) 32) := Lib.hid (by rw [← hBL, bs_mk])
      rw [hBL] at HRep HSB
      clear hr hW tA hg' hS0 hxb hlen hz hszb hBL HW
      go_wp2_with fail
      rw [HWW.out]
      refine HRep.out.mono ?_
      rintro e w1 ⟨rfl, t1⟩
      have HC := Lib.hid (write_any w.heap.size w.heap.size (Lib.byteCells S0) BL w1 (IsBuilderF.turn' HBW.out.1 t1) (by rw [Lib.byteCells_length, HSB.out]; have := HLEN.out; omega) (HBW.out.2.trans' t1).size)
      have HT1 := Lib.hid (And.intro (HBW.out.2.trans' t1) (t1.heap HG.out (by simp)))
      clear t1
      go_wp2_with fail
      refine HC.out.mono ?_
      rintro e w2 ⟨rfl, hb2, hbe2, hok2⟩
      have hk2 := kept_cell hok2 HT1.out.2 (by omega)
      have m1 : w2.cell? ⟨wr.heap.size, 1, none⟩ = some (.string x) := cell_of_row w2 _ 1 _ _ _ hk2
      have ht2 := Turn.belowB HT1.out.1 hbe2
      have HC2 := Lib.hid (write_any w.heap.size w.heap.size (Lib.byteCells S0 ++ Lib.strCells BL) x w2 (.inr hb2) (by rw [List.length_append, Lib.byteCells_length, Lib.strCells_length, HSB.out]; have := HLEN.out; omega) ht2.size)
      have HT2 := Lib.hid ht2
      clear hb2 hbe2 hok2 hk2 ht2 HC
      go_wp2_with fail
      refine HC2.out.mono ?_
      rintro e w3 ⟨rfl, hb3, hbe3, _⟩
      have ht3 := Turn.belowB HT2.out hbe3
      have HC3 := Lib.hid (write_any w.heap.size w.heap.size (Lib.byteCells S0 ++ Lib.strCells BL ++ Lib.strCells x) ⟨#[10]⟩ w3 (.inr hb3) (by rw [List.length_append, List.length_append, Lib.byteCells_length, Lib.strCells_length, Lib.strCells_length, HSB.out, show (⟨#[10]⟩ : ByteArray).size = 1 from rfl]; have := HLEN.out; omega) ht3.size)
      have HT3 := Lib.hid ht3
      clear hb3 hbe3 ht3 HC2 m1
      go_wp2_with fail
      refine HC3.out.mono ?_
      rintro e w4 ⟨rfl, hb4, hbe4, _⟩
      have HW4 : Hid (Lib.IsBuilderF 75 5 w.heap.size w.heap.size (Lib.byteCells (txL (R.take (k + 1)))) w4 ∧ Turn [] w w4) := Lib.hid ⟨.inr (by
        have e : Lib.byteCells (txL (R.take (k + 1))) = Lib.byteCells S0 ++ Lib.strCells BL ++ Lib.strCells x ++ Lib.strCells ⟨#[10]⟩ := by
          rw [HX.out, ← HBL.out, Lib.byteCells_append, Lib.byteCells_append, Lib.byteCells_append]
          simp only [List.append_assoc]
          rfl
        rw [e]
        exact hb4), Turn.belowB HT3.out hbe4⟩
      clear hb4 hbe4 HC3
      go_wp2_with fail
      go_roundw
      case rel => exact ⟨k + 1, by omega, by go_num, HW4⟩
      case measure => simp [intOf]; omega
    · have hkn : k = n := by omega
      subst hkn
      have hb := HW.out
      rw [List.take_of_length_le (by rw [HN.out]; exact Nat.le_refl _)] at hb
      have HS := Lib.hid (string_any w.heap.size w.heap.size (txL R) wr hb.1 HNE.out)
      have HT := Lib.hid hb.2
      clear hb HW
      go_wp2_with fail
      refine HS.out.mono ?_
      rintro e w5 ⟨rfl, t5⟩
      have HT5 := Lib.hid (Turn.belowB HT.out t5)
      clear t5
      go_wp2_with fail
      go_ret
      exact ⟨rfl, HT5.out⟩
end Go.Proofs.YtoekaehpcjhhaaaGreatDoor
