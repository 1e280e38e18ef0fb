/- stmt: a statement's rows; all statements. -/
import Derived.Test.YtoekaehpcjhhaaaGreatDoorStp
set_option linter.unusedSimpArgs false
set_option linter.unusedVariables false
namespace Go.Proofs.YtoekaehpcjhhaaaGreatDoor
open Go.RowKit

theorem pl_len (d : Int) (x y z t f : ByteArray) (ag : List ByteArray) (n : Int) (D : Nat) : ((pl d x y z t f ag n).toList.map fun s => ((D, s) : Row)).length ≤ 1 := by
  cases pl d x y z t f ag n <;> simp

/-- nest whose head was laid in a new slice. -/
theorem nest_new (T b : Nat) (F : List Nat) (R : List Row) (D : Nat) (A : Option Addr) (c B : Nat) (l : List St) (xs : List ByteArray) (C : Array Value) (hC : C = (xs.map Value.string).toArray) (w : World) (hl : SaidL l) (h : Sh T w b F R D) (hr : RdL B w A 0 l) (hF : ∀ g ∈ F, B ≤ g) (hE : Env B w)
    (hn : xs.length ≤ 1000) (hxl : (cat xs).size ≤ 1000000) (hz : D + R.length + (rwL (D + 1) l).length + 2 ≤ 1000000000) (hlen : l.length ≤ 1000000000) :
    Calls Tryz.prog 68 #[.pointer (some ⟨b, 0, none⟩), .slice A l.length c, .slice (some ⟨w.heap.size, 0, none⟩) xs.length xs.length] (w.alloc (.cells C 9)) fun e w' => e = .returned (.tuple #[]) ∧ Wr T w b F (R ++ [(D, cat xs)] ++ rwL (D + 1) l) D w' := by
  have tA : Turn [] w (w.alloc (.cells C 9)) := (Turn.refl [] w).alloc _
  refine (nest_any T b F R D A _ c _ B l xs _ hl (h.turn' tA) (hr.turn tA (by simp) l) hF (hE.turn tA (by simp)) (sts_new w xs C hC) (Nat.le_refl _) hn hxl hz hlen).mono ?_
  rintro e w1 ⟨rfl, hW⟩
  exact ⟨rfl, Wr.after tA hW⟩

theorem bx (w : World) (C : Array Value) (t : TypeId) : Turn [] w (w.alloc (.cells C t)) := (Turn.refl [] w).alloc _

set_option maxHeartbeats 4000000 in
set_option maxRecDepth 100000 in
theorem stmt_of (s : St) (hf : FtS s) (hb : ∀ d x y z t f ag n bd ot ln cl, s = .mk d x y z t f ag n bd ot ln cl → SaidL bd ∧ SaidL ot ∧ bd.length ≤ 1000000 ∧ ot.length ≤ 1000000) : SaidS s := by
  obtain ⟨d, x, y, z, t, f, ag, n, bd, ot, ln, cl⟩ := s
  intro T b F R D cs B w h hr hF hE hz
  obtain ⟨hB, hO, hlb, hlo⟩ := hb _ _ _ _ _ _ _ _ _ _ _ _ rfl
  obtain ⟨hn, hsz, ha, _, _⟩ := hf.parts
  obtain ⟨A1, c1, A2, c2, A3, c3, rfl, k1, k2, k3, r1, r1B, r2, r3⟩ := hr.cells
  have tA := bx w #[.int .i64 d, .string x, .string y, .string z, .string t, .string f, .slice A1 ag.length c1, .int .i64 n, .slice A2 bd.length c2, .slice A3 ot.length c3, .int .i64 ln, .int .i64 cl] 38
  obtain ⟨W, hW⟩ : ∃ W, w.alloc (.cells #[.int .i64 d, .string x, .string y, .string z, .string t, .string f, .slice A1 ag.length c1, .int .i64 n, .slice A2 bd.length c2, .slice A3 ot.length c3, .int .i64 ln, .int .i64 cl] 38) = W := ⟨_, rfl⟩
  have hg : W.heap[w.heap.size]? = some (.cells #[.int .i64 d, .string x, .string y, .string z, .string t, .string f, .slice A1 ag.length c1, .int .i64 n, .slice A2 bd.length c2, .slice A3 ot.length c3, .int .i64 ln, .int .i64 cl] 38 (0, 0)) := by rw [← hW]; exact heap_alloc_new w _
  rw [hW] at tA
  have hgF : w.heap.size ∉ F := fun hg => Nat.lt_irrefl _ (h.lt.2.2 _ hg)
  have hgB : B ≤ w.heap.size := hE.lt
  have hgl : w.heap.size < W.heap.size := (Array.getElem?_eq_some_iff.1 hg).1
  have hbl := h.lt.1
  have hWs : W.heap.size = w.heap.size + 1 := by rw [← hW]; simp
  have HW := Lib.hid hW
  have HG := Lib.hid hg
  have HT := Lib.hid tA
  have hWS := Lib.hid (h.turn' tA)
  have hWE := Lib.hid (hE.turn tA (by simp))
  have R2 := Lib.hid (r2.turn tA (by simp) bd)
  have R3 := Lib.hid (r3.turn tA (by simp) ot)
  have R1 := Lib.hid (r1.turn' tA)
  have HF := Lib.hid hF
  have HSB := Lib.hid hB
  have HSO := Lib.hid hO
  by_cases h19 : d = 19
  · subst h19
    rw [rw1_try] at hz ⊢
    simp only [List.length_append, List.length_cons, List.length_nil] at hz
    have HN := Lib.hid (nest_new T b F R D A2 c2 B bd [⟨#[116, 114, 121, 32, 123]⟩] _ rfl W hB hWS.out R2.out hF hWE.out (by simp) (by rw [size_cat]; decide) (by omega) (by omega))
    have HN2 : Hid (∀ w1 F1, Sh T w1 b F1 (R ++ [(D, tryT)] ++ rwL (D + 1) bd) D → Foot W.heap.size F F1 → Turn F W w1 → Calls Tryz.prog 68 #[.pointer (some ⟨b, 0, none⟩), .slice A3 ot.length c3, .slice (some ⟨w1.heap.size, 0, none⟩) 5 5] (w1.alloc (.cells #[.string ⟨#[125, 32, 99, 97, 116, 99, 104, 32, 40]⟩, .string t, .string ⟨#[32]⟩, .string x, .string ⟨#[41, 32, 123]⟩] 9))
        fun e w' => e = .returned (.tuple #[]) ∧ Wr T w1 b F1 (R ++ [(D, tryT)] ++ rwL (D + 1) bd ++ [(D, catchT t x)] ++ rwL (D + 1) ot) D w') := Lib.hid (fun w1 F1 hs1 hf1 ht1 =>
      nest_new T b F1 _ D A3 c3 B ot [⟨#[125, 32, 99, 97, 116, 99, 104, 32, 40]⟩, t, ⟨#[32]⟩, x, ⟨#[41, 32, 123]⟩] _ rfl w1 hO hs1 (R3.out.turn ht1 hF ot) (Foot.above hf1 hF (by omega)) (hWE.out.turn ht1 hF) (by simp) (by rw [size_cat]; simp [sz_lit]; omega) (by simp; omega) (by omega))
    have HZ := Lib.hid hz
    rw [hWs] at HN
    clear hz h hr hE tA hg hW r1 r2 r3 hF hB hO r1B hn hsz ha hWs hf hb
    go_enter Tryz.func50, Tryz.ntmps50
    go_wp2_with fail
    rw [HW.out]
    refine HN.out.mono ?_
    rintro e w1 ⟨rfl, hW1⟩
    have e9 : w1.cell? ⟨w.heap.size, 9, none⟩ = some (.slice A3 ot.length c3) := (hW1.cell hgl hgF).trans (cell_of_row W _ 9 _ _ _ HG.out)
    have e4 : w1.cell? ⟨w.heap.size, 4, none⟩ = some (.string t) := (hW1.cell hgl hgF).trans (cell_of_row W _ 4 _ _ _ HG.out)
    have e1 : w1.cell? ⟨w.heap.size, 1, none⟩ = some (.string x) := (hW1.cell hgl hgF).trans (cell_of_row W _ 1 _ _ _ HG.out)
    obtain ⟨F1, hs1, hf1, ht1⟩ := hW1
    have HN3 := Lib.hid (HN2.out w1 F1 hs1 hf1 ht1)
    have HF1 := Lib.hid (And.intro hf1 ht1)
    clear hs1 hf1 ht1 HN2 HN
    go_wp2_with fail
    refine HN3.out.mono ?_
    rintro e w2 ⟨rfl, hW2⟩
    obtain ⟨F2, hs2, hf2, ht2⟩ := hW2
    have HC := Lib.hid (shut_any T b F2 _ D w2 hs2 (by have := HZ.out; simp; omega))
    have HF2 := Lib.hid (And.intro hf2 ht2)
    clear hs2 hf2 ht2 HN3 e9 e4 e1
    go_wp2_with fail
    refine HC.out.mono ?_
    rintro e w3 ⟨rfl, hW3⟩
    have HW3 := Lib.hid hW3
    clear hW3
    go_wp2_with fail
    go_end0
    have := Wr.after HT.out (Wr.trans HF1.out.1 HF1.out.2 (Wr.trans HF2.out.1 HF2.out.2 HW3.out))
    exact ⟨rfl, by simpa [List.append_assoc] using this⟩
  by_cases h20 : d = 20
  · subst h20
    rw [rw1_if] at hz ⊢
    by_cases hot : ot.length = 0
    · rw [if_pos hot] at hz ⊢
      simp only [List.length_append, List.length_cons, List.length_nil] at hz
      have HN := Lib.hid (nest_new T b F R D A2 c2 B bd [⟨#[105, 102, 32, 40]⟩, y, ⟨#[32, 60, 32]⟩, z, ⟨#[41, 32, 123]⟩] _ rfl W hB hWS.out R2.out hF hWE.out (by simp) (by rw [size_cat]; simp [sz_lit]; omega) (by omega) (by omega))
      have HZ := Lib.hid hz
      rw [hWs] at HN
      rw [hot] at HW HG
      have hgw : hot = hot := rfl
      clear hz h hr hE tA hg hW r1 r2 r3 hF hB hO r1B hn hsz ha hWs hf hb
      clear h19 hgw
      go_enter Tryz.func50, Tryz.ntmps50
      rw [hot]
      go_wp2_with fail
      rw [HW.out]
      refine HN.out.mono ?_
      rintro e w1 ⟨rfl, hW1⟩
      have e9 : w1.cell? ⟨w.heap.size, 9, none⟩ = some (.slice A3 0 c3) := (hW1.cell hgl hgF).trans (cell_of_row W _ 9 _ _ _ HG.out)
      obtain ⟨F1, hs1, hf1, ht1⟩ := hW1
      have HC := Lib.hid (shut_any T b F1 _ D w1 hs1 (by have := HZ.out; simp; omega))
      have HF1 := Lib.hid (And.intro hf1 ht1)
      clear hs1 hf1 ht1 HN
      go_wp2_with fail
      refine HC.out.mono ?_
      rintro e w3 ⟨rfl, hW3⟩
      have HW3 := Lib.hid hW3
      clear hW3
      go_wp2_with fail
      go_end0
      have := Wr.after HT.out (Wr.trans HF1.out.1 HF1.out.2 HW3.out)
      exact ⟨rfl, by simpa [List.append_assoc, ifT] using this⟩
    · rw [if_neg hot] at hz ⊢
      simp only [List.length_append, List.length_cons, List.length_nil] at hz
      have HN := Lib.hid (nest_new T b F R D A2 c2 B bd [⟨#[105, 102, 32, 40]⟩, y, ⟨#[32, 60, 32]⟩, z, ⟨#[41, 32, 123]⟩] _ rfl W hB hWS.out R2.out hF hWE.out (by simp) (by rw [size_cat]; simp [sz_lit]; omega) (by omega) (by omega))
      have HN2 : Hid (∀ w1 F1, Sh T w1 b F1 (R ++ [(D, ifT y z)] ++ rwL (D + 1) bd) D → Foot W.heap.size F F1 → Turn F W w1 → Calls Tryz.prog 68 #[.pointer (some ⟨b, 0, none⟩), .slice A3 ot.length c3, .slice (some ⟨w1.heap.size, 0, none⟩) 1 1] (w1.alloc (.cells #[.string ⟨#[125, 32, 101, 108, 115, 101, 32, 123]⟩] 9))
          fun e w' => e = .returned (.tuple #[]) ∧ Wr T w1 b F1 (R ++ [(D, ifT y z)] ++ rwL (D + 1) bd ++ [(D, elseT)] ++ rwL (D + 1) ot) D w') := Lib.hid (fun w1 F1 hs1 hf1 ht1 =>
        nest_new T b F1 _ D A3 c3 B ot [⟨#[125, 32, 101, 108, 115, 101, 32, 123]⟩] _ rfl w1 hO hs1 (R3.out.turn ht1 hF ot) (Foot.above hf1 hF (by omega)) (hWE.out.turn ht1 hF) (by simp) (by rw [size_cat]; decide) (by simp; omega) (by omega))
      have HZ := Lib.hid hz
      rw [hWs] at HN
      have hpos : 0 < ot.length := by omega
      have hposI : (0 : Int) < (ot.length : Int) := by omega
      clear hz h hr hE tA hg hW r1 r2 r3 hF hB hO r1B hn hsz ha hWs hf hb
      clear h19 hot
      go_enter Tryz.func50, Tryz.ntmps50
      go_wp2_with fail
      rw [HW.out]
      refine HN.out.mono ?_
      rintro e w1 ⟨rfl, hW1⟩
      have e9 : w1.cell? ⟨w.heap.size, 9, none⟩ = some (.slice A3 ot.length c3) := (hW1.cell hgl hgF).trans (cell_of_row W _ 9 _ _ _ HG.out)
      obtain ⟨F1, hs1, hf1, ht1⟩ := hW1
      have HN3 := Lib.hid (HN2.out w1 F1 hs1 hf1 ht1)
      have HF1 := Lib.hid (And.intro hf1 ht1)
      clear hs1 hf1 ht1 HN2 HN
      go_wp2_with fail
      refine HN3.out.mono ?_
      rintro e w2 ⟨rfl, hW2⟩
      obtain ⟨F2, hs2, hf2, ht2⟩ := hW2
      have HC := Lib.hid (shut_any T b F2 _ D w2 hs2 (by have := HZ.out; simp; omega))
      have HF2 := Lib.hid (And.intro hf2 ht2)
      clear hs2 hf2 ht2 HN3 e9
      go_wp2_with fail
      refine HC.out.mono ?_
      rintro e w3 ⟨rfl, hW3⟩
      have HW3 := Lib.hid hW3
      clear hW3
      go_wp2_with fail
      go_end0
      have := Wr.after HT.out (Wr.trans HF1.out.1 HF1.out.2 (Wr.trans HF2.out.1 HF2.out.2 HW3.out))
      exact ⟨rfl, by simpa [List.append_assoc] using this⟩
  by_cases h21 : d = 21
  · subst h21
    rw [rw1_while] at hz ⊢
    simp only [List.length_append, List.length_cons, List.length_nil] at hz
    have HN := Lib.hid (nest_new T b F R D A2 c2 B bd [⟨#[119, 104, 105, 108, 101, 32, 40]⟩, y, ⟨#[32, 60, 32]⟩, z, ⟨#[41, 32, 123]⟩] _ rfl W hB hWS.out R2.out hF hWE.out (by simp) (by rw [size_cat]; simp [sz_lit]; omega) (by omega) (by omega))
    have HZ := Lib.hid hz
    rw [hWs] at HN
    clear hz h hr hE tA hg hW r1 r2 r3 hF hB hO r1B hn hsz ha hWs hf hb
    clear h19
    go_enter Tryz.func50, Tryz.ntmps50
    go_wp2_with fail
    rw [HW.out]
    refine HN.out.mono ?_
    rintro e w1 ⟨rfl, hW1⟩
    obtain ⟨F1, hs1, hf1, ht1⟩ := hW1
    have HC := Lib.hid (shut_any T b F1 _ D w1 hs1 (by have := HZ.out; simp; omega))
    have HF1 := Lib.hid (And.intro hf1 ht1)
    clear hs1 hf1 ht1 HN
    go_wp2_with fail
    refine HC.out.mono ?_
    rintro e w3 ⟨rfl, hW3⟩
    have HW3 := Lib.hid hW3
    clear hW3
    go_wp2_with fail
    go_end0
    have := Wr.after HT.out (Wr.trans HF1.out.1 HF1.out.2 HW3.out)
    exact ⟨rfl, by simpa [List.append_assoc, whileT] using this⟩
  rw [rw1_plain h19 h20 h21] at hz ⊢
  have HP := Lib.hid (plain_any T b F R D d x y z t f ag n A1 A2 A3 c1 bd.length c2 ot.length c3 ln cl W hWS.out hsz (by omega) ha k1 R1.out hn hWE.out.pow (by have := hWE.out.gl; have := hWE.out.lt; omega))
  have q19 : ¬ d = 19 := h19
  have q20 : ¬ d = 20 := h20
  have q21 : ¬ d = 21 := h21
  clear hz h hr hE tA hg hW r1 r2 r3 hF hB hO r1B hn hsz ha hWs hf hb h19 h20 h21
  go_enter Tryz.func50, Tryz.ntmps50
  go_wp2_with fail
  rw [HW.out]
  refine HP.out.mono ?_
  rintro e w3 ⟨rfl, hW3⟩
  have HW3 := Lib.hid hW3
  clear hW3
  go_wp2_with fail
  go_end0
  exact ⟨rfl, Wr.after HT.out HW3.out⟩

mutual
/-- Blocks are short lists. -/
def LnS : St → Prop
  | .mk d x y z t f ag n bd ot ln cl => bd.length ≤ 1000 ∧ ot.length ≤ 1000 ∧ LnL bd ∧ LnL ot
def LnL : List St → Prop
  | [] => True
  | s :: l => LnS s ∧ LnL l
end
mutual
theorem saidS : ∀ (s : St), FtS s → LnS s → SaidS s
  | .mk d x y z t f ag n bd ot ln cl, hf, hl => by
    have hp := hf.parts
    rw [LnS] at hl
    refine stmt_of _ hf ?_
    intro d' x' y' z' t' f' ag' n' bd' ot' ln' cl' e
    injection e with _ _ _ _ _ _ _ _ e1 e2
    subst e1 e2
    exact ⟨stmts_of _ (saidL bd hp.2.2.2.1 hl.2.2.1), stmts_of _ (saidL ot hp.2.2.2.2 hl.2.2.2), by omega, by omega⟩
theorem saidL : ∀ (l : List St), FtL l → LnL l → ∀ s ∈ l, SaidS s
  | [], _, _ => by simp
  | s :: l, hf, hl => by
    rw [FtL] at hf
    rw [LnL] at hl
    intro u hu
    rcases List.mem_cons.1 hu with e | hu
    · rw [e]
      exact saidS s hf.1 hl.1
    · exact saidL l hf.2 hl.2 u hu
end
theorem stmts_any (l : List St) (hf : FtL l) (hl : LnL l) : SaidL l := stmts_of l (saidL l hf hl)
end Go.Proofs.YtoekaehpcjhhaaaGreatDoor
