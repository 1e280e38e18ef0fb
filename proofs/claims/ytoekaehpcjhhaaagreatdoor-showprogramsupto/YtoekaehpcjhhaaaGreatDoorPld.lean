/- plain: rows of statements without blocks (printed by mkplain.py). -/
import Derived.Test.YtoekaehpcjhhaaaGreatDoorAns
import Derived.Lib.ItoaLen
set_option linter.unusedSimpArgs false
set_option linter.unusedVariables false
namespace Go.Proofs.YtoekaehpcjhhaaaGreatDoor
open Go.RowKit

set_option maxHeartbeats 2000000 in
set_option maxRecDepth 100000 in
theorem plain_11 (T b : Nat) (F : List Nat) (R : List Row) (D : Nat) (x y z t f : ByteArray) (ag : List ByteArray) (n : Int) (A1 A3 A4 : Option Addr) (c1 l3 c3 l4 c4 : Nat) (ln cl : Int) (w : World) (h : Sh T w b F R D) (hs : x.size ≤ 1000 ∧ y.size ≤ 1000 ∧ z.size ≤ 1000 ∧ t.size ≤ 1000 ∧ f.size ≤ 1000) (hR : R.length ≤ 1000000000) (ha : ag.length ≤ 1000 ∧ ∀ a ∈ ag, a.size ≤ 1000) (hac : ag.length ≤ c1) (h1 : Sts w A1 ag) :
    Calls Tryz.prog 69 #[.pointer (some ⟨b, 0, none⟩), .agg #[.int .i64 11, .string x, .string y, .string z, .string t, .string f, .slice A1 ag.length c1, .int .i64 n, .slice A3 l3 c3, .slice A4 l4 c4, .int .i64 ln, .int .i64 cl]] w fun e w' => e = .returned (.tuple #[]) ∧ Wr T w b F (R ++ [(D, callT x [y, ⟨#[46]⟩, f] ag)]) D w' := by
  obtain ⟨hx, hy, hz, ht, hf⟩ := hs
  have tB : Turn [] w ((w.alloc (.cells #[.int .i64 11, .string x, .string y, .string z, .string t, .string f, .slice A1 ag.length c1, .int .i64 n, .slice A3 l3 c3, .slice A4 l4 c4, .int .i64 ln, .int .i64 cl] 38)).alloc (.cells #[.string y, .string ⟨#[46]⟩, .string f] 9)) := ((Turn.refl [] w).alloc _).alloc _
  have hst : Sts ((w.alloc (.cells #[.int .i64 11, .string x, .string y, .string z, .string t, .string f, .slice A1 ag.length c1, .int .i64 n, .slice A3 l3 c3, .slice A4 l4 c4, .int .i64 ln, .int .i64 cl] 38)).alloc (.cells #[.string y, .string ⟨#[46]⟩, .string f] 9)) (some ⟨w.heap.size + 1, 0, none⟩) [y, ⟨#[46]⟩, f] := by
    have := sts_new (w.alloc (.cells #[.int .i64 11, .string x, .string y, .string z, .string t, .string f, .slice A1 ag.length c1, .int .i64 n, .slice A3 l3 c3, .slice A4 l4 c4, .int .i64 ln, .int .i64 cl] 38)) [y, ⟨#[46]⟩, f] _ rfl
    rwa [World.size_alloc] at this
  have HC := Lib.hid (call_any T b F R D 11 x y z t f ag n A1 A3 A4 c1 l3 c3 l4 c4 ln cl _ 3 [y, ⟨#[46]⟩, f] _ (h.turn' tB) hx ha hac (h1.turn' tB) hst (by simp) (by simp) (by rw [size_cat]; simp [sz_lit]; omega) hR)
  have HT := Lib.hid tB
  clear h tB hst hx hy hz ht hf ha hac h1 hR
  go_enter Tryz.func69, Tryz.ntmps69
  go_wp2_with fail
  refine HC.out.mono ?_
  rintro e w3 ⟨rfl, hW⟩
  have HW := Lib.hid hW
  clear hW
  go_wp2_with fail
  go_end0
  exact ⟨rfl, Wr.after HT.out HW.out⟩

set_option maxHeartbeats 2000000 in
set_option maxRecDepth 100000 in
theorem plain_12 (T b : Nat) (F : List Nat) (R : List Row) (D : Nat) (x y z t f : ByteArray) (ag : List ByteArray) (n : Int) (A1 A3 A4 : Option Addr) (c1 l3 c3 l4 c4 : Nat) (ln cl : Int) (w : World) (h : Sh T w b F R D) (hs : x.size ≤ 1000 ∧ y.size ≤ 1000 ∧ z.size ≤ 1000 ∧ t.size ≤ 1000 ∧ f.size ≤ 1000) (hR : R.length ≤ 1000000000) (ha : ag.length ≤ 1000 ∧ ∀ a ∈ ag, a.size ≤ 1000) (hac : ag.length ≤ c1) (h1 : Sts w A1 ag) :
    Calls Tryz.prog 69 #[.pointer (some ⟨b, 0, none⟩), .agg #[.int .i64 12, .string x, .string y, .string z, .string t, .string f, .slice A1 ag.length c1, .int .i64 n, .slice A3 l3 c3, .slice A4 l4 c4, .int .i64 ln, .int .i64 cl]] w fun e w' => e = .returned (.tuple #[]) ∧ Wr T w b F (R ++ [(D, callT x [y, ⟨#[46]⟩, t, ⟨#[58, 58]⟩, f] ag)]) D w' := by
  obtain ⟨hx, hy, hz, ht, hf⟩ := hs
  have tB : Turn [] w ((w.alloc (.cells #[.int .i64 12, .string x, .string y, .string z, .string t, .string f, .slice A1 ag.length c1, .int .i64 n, .slice A3 l3 c3, .slice A4 l4 c4, .int .i64 ln, .int .i64 cl] 38)).alloc (.cells #[.string y, .string ⟨#[46]⟩, .string t, .string ⟨#[58, 58]⟩, .string f] 9)) := ((Turn.refl [] w).alloc _).alloc _
  have hst : Sts ((w.alloc (.cells #[.int .i64 12, .string x, .string y, .string z, .string t, .string f, .slice A1 ag.length c1, .int .i64 n, .slice A3 l3 c3, .slice A4 l4 c4, .int .i64 ln, .int .i64 cl] 38)).alloc (.cells #[.string y, .string ⟨#[46]⟩, .string t, .string ⟨#[58, 58]⟩, .string f] 9)) (some ⟨w.heap.size + 1, 0, none⟩) [y, ⟨#[46]⟩, t, ⟨#[58, 58]⟩, f] := by
    have := sts_new (w.alloc (.cells #[.int .i64 12, .string x, .string y, .string z, .string t, .string f, .slice A1 ag.length c1, .int .i64 n, .slice A3 l3 c3, .slice A4 l4 c4, .int .i64 ln, .int .i64 cl] 38)) [y, ⟨#[46]⟩, t, ⟨#[58, 58]⟩, f] _ rfl
    rwa [World.size_alloc] at this
  have HC := Lib.hid (call_any T b F R D 12 x y z t f ag n A1 A3 A4 c1 l3 c3 l4 c4 ln cl _ 5 [y, ⟨#[46]⟩, t, ⟨#[58, 58]⟩, f] _ (h.turn' tB) hx ha hac (h1.turn' tB) hst (by simp) (by simp) (by rw [size_cat]; simp [sz_lit]; omega) hR)
  have HT := Lib.hid tB
  clear h tB hst hx hy hz ht hf ha hac h1 hR
  go_enter Tryz.func69, Tryz.ntmps69
  go_wp2_with fail
  refine HC.out.mono ?_
  rintro e w3 ⟨rfl, hW⟩
  have HW := Lib.hid hW
  clear hW
  go_wp2_with fail
  go_end0
  exact ⟨rfl, Wr.after HT.out HW.out⟩

set_option maxHeartbeats 2000000 in
set_option maxRecDepth 100000 in
theorem plain_13 (T b : Nat) (F : List Nat) (R : List Row) (D : Nat) (x y z t f : ByteArray) (ag : List ByteArray) (n : Int) (A1 A3 A4 : Option Addr) (c1 l3 c3 l4 c4 : Nat) (ln cl : Int) (w : World) (h : Sh T w b F R D) (hs : x.size ≤ 1000 ∧ y.size ≤ 1000 ∧ z.size ≤ 1000 ∧ t.size ≤ 1000 ∧ f.size ≤ 1000) (hR : R.length ≤ 1000000000) (ha : ag.length ≤ 1000 ∧ ∀ a ∈ ag, a.size ≤ 1000) (hac : ag.length ≤ c1) (h1 : Sts w A1 ag) :
    Calls Tryz.prog 69 #[.pointer (some ⟨b, 0, none⟩), .agg #[.int .i64 13, .string x, .string y, .string z, .string t, .string f, .slice A1 ag.length c1, .int .i64 n, .slice A3 l3 c3, .slice A4 l4 c4, .int .i64 ln, .int .i64 cl]] w fun e w' => e = .returned (.tuple #[]) ∧ Wr T w b F (R ++ [(D, callT x [t, ⟨#[58, 58]⟩, f] ag)]) D w' := by
  obtain ⟨hx, hy, hz, ht, hf⟩ := hs
  have tB : Turn [] w ((w.alloc (.cells #[.int .i64 13, .string x, .string y, .string z, .string t, .string f, .slice A1 ag.length c1, .int .i64 n, .slice A3 l3 c3, .slice A4 l4 c4, .int .i64 ln, .int .i64 cl] 38)).alloc (.cells #[.string t, .string ⟨#[58, 58]⟩, .string f] 9)) := ((Turn.refl [] w).alloc _).alloc _
  have hst : Sts ((w.alloc (.cells #[.int .i64 13, .string x, .string y, .string z, .string t, .string f, .slice A1 ag.length c1, .int .i64 n, .slice A3 l3 c3, .slice A4 l4 c4, .int .i64 ln, .int .i64 cl] 38)).alloc (.cells #[.string t, .string ⟨#[58, 58]⟩, .string f] 9)) (some ⟨w.heap.size + 1, 0, none⟩) [t, ⟨#[58, 58]⟩, f] := by
    have := sts_new (w.alloc (.cells #[.int .i64 13, .string x, .string y, .string z, .string t, .string f, .slice A1 ag.length c1, .int .i64 n, .slice A3 l3 c3, .slice A4 l4 c4, .int .i64 ln, .int .i64 cl] 38)) [t, ⟨#[58, 58]⟩, f] _ rfl
    rwa [World.size_alloc] at this
  have HC := Lib.hid (call_any T b F R D 13 x y z t f ag n A1 A3 A4 c1 l3 c3 l4 c4 ln cl _ 3 [t, ⟨#[58, 58]⟩, f] _ (h.turn' tB) hx ha hac (h1.turn' tB) hst (by simp) (by simp) (by rw [size_cat]; simp [sz_lit]; omega) hR)
  have HT := Lib.hid tB
  clear h tB hst hx hy hz ht hf ha hac h1 hR
  go_enter Tryz.func69, Tryz.ntmps69
  go_wp2_with fail
  refine HC.out.mono ?_
  rintro e w3 ⟨rfl, hW⟩
  have HW := Lib.hid hW
  clear hW
  go_wp2_with fail
  go_end0
  exact ⟨rfl, Wr.after HT.out HW.out⟩

set_option maxHeartbeats 2000000 in
set_option maxRecDepth 100000 in
theorem plain_22 (T b : Nat) (F : List Nat) (R : List Row) (D : Nat) (x y z t f : ByteArray) (ag : List ByteArray) (n : Int) (A1 A3 A4 : Option Addr) (c1 l3 c3 l4 c4 : Nat) (ln cl : Int) (w : World) (h : Sh T w b F R D) (hs : x.size ≤ 1000 ∧ y.size ≤ 1000 ∧ z.size ≤ 1000 ∧ t.size ≤ 1000 ∧ f.size ≤ 1000) (hR : R.length ≤ 1000000000) :
    Calls Tryz.prog 69 #[.pointer (some ⟨b, 0, none⟩), .agg #[.int .i64 22, .string x, .string y, .string z, .string t, .string f, .slice A1 ag.length c1, .int .i64 n, .slice A3 l3 c3, .slice A4 l4 c4, .int .i64 ln, .int .i64 cl]] w fun e w' => e = .returned (.tuple #[]) ∧ Wr T w b F (R ++ [(D, retT x)]) D w' := by
  have tB : Turn [] w (w.alloc (.cells #[.int .i64 22, .string x, .string y, .string z, .string t, .string f, .slice A1 ag.length c1, .int .i64 n, .slice A3 l3 c3, .slice A4 l4 c4, .int .i64 ln, .int .i64 cl] 38)) := (Turn.refl [] w).alloc _
  have HC := Lib.hid (answer_any T b F R D x _ (h.turn' tB) hs.1 hR)
  have HT := Lib.hid tB
  clear h tB hs hR
  go_enter Tryz.func69, Tryz.ntmps69
  go_wp2_with fail
  refine HC.out.mono ?_
  rintro e w3 ⟨rfl, hW⟩
  have HW := Lib.hid hW
  clear hW
  go_wp2_with fail
  go_end0
  exact ⟨rfl, Wr.after HT.out HW.out⟩

set_option maxHeartbeats 2000000 in
set_option maxRecDepth 100000 in
theorem plain_14 (T b : Nat) (F : List Nat) (R : List Row) (D : Nat) (x y z t f : ByteArray) (ag : List ByteArray) (n : Int) (A1 A3 A4 : Option Addr) (c1 l3 c3 l4 c4 : Nat) (ln cl : Int) (w : World) (h : Sh T w b F R D) (hs : x.size ≤ 1000 ∧ y.size ≤ 1000 ∧ z.size ≤ 1000 ∧ t.size ≤ 1000 ∧ f.size ≤ 1000) (hR : R.length ≤ 1000000000) (hn : -9223372036854775808 ≤ n ∧ n ≤ 9223372036854775807) (hp : Pow w) (hp8 : 3 < w.heap.size) :
    Calls Tryz.prog 69 #[.pointer (some ⟨b, 0, none⟩), .agg #[.int .i64 14, .string x, .string y, .string z, .string t, .string f, .slice A1 ag.length c1, .int .i64 n, .slice A3 l3 c3, .slice A4 l4 c4, .int .i64 ln, .int .i64 cl]] w fun e w' => e = .returned (.tuple #[]) ∧ Wr T w b F (R ++ [(D, cat [x, ⟨#[32, 61, 32]⟩, mk (Lib.itoa n), ⟨#[59]⟩])]) D w' := by
  obtain ⟨hx, hy, hz, ht, hf⟩ := hs
  have hi : (mk (Lib.itoa n)).size ≤ 21 := by rw [size_bs, bs_mk]; exact Lib.itoa_length_le n hn.1 hn.2
  have HP : Hid (∀ W, Sh T W b F R D → Calls Tryz.prog 56 #[.pointer (some ⟨b, 0, none⟩), .slice (some ⟨W.heap.size, 0, none⟩) 4 4] (W.alloc (.cells #[.string x, .string ⟨#[32, 61, 32]⟩, .string (mk (Lib.itoa n)), .string ⟨#[59]⟩] 9)) fun e w' => e = .returned (.tuple #[]) ∧ Wr T W b F (R ++ [(D, cat [x, ⟨#[32, 61, 32]⟩, mk (Lib.itoa n), ⟨#[59]⟩])]) D w') :=
    Lib.hid (fun W hW => put_new T b F R D [x, ⟨#[32, 61, 32]⟩, mk (Lib.itoa n), ⟨#[59]⟩] _ rfl W hW (by simp) (by rw [size_cat]; simp [sz_lit]; omega) hR)
  have HI : Hid (∀ W, Turn [] w W → Calls Tryz.prog 81 #[.int .i64 n] W fun e w' => e = .returned (.string (mk (Lib.itoa n))) ∧ Turn [] W w') := Lib.hid (fun W hT => itoa_any n W hn.1 hn.2 (hp.turn hT (by simp) (by omega)))
  have HS := Lib.hid h
  have hgF : w.heap.size ∉ F := fun hg => Nat.lt_irrefl _ (h.lt.2.2 _ hg)
  clear h hx hy hz ht hf hR hi hn hp hp8
  go_enter Tryz.func69, Tryz.ntmps69
  go_wp2_with fail
  obtain ⟨W, hW⟩ : ∃ W, w.alloc (.cells #[.int .i64 14, .string x, .string y, .string z, .string t, .string f, .slice A1 ag.length c1, .int .i64 n, .slice A3 l3 c3, .slice A4 l4 c4, .int .i64 ln, .int .i64 cl] 38) = W := ⟨_, rfl⟩
  have hg : W.heap[w.heap.size]? = some (.cells #[.int .i64 14, .string x, .string y, .string z, .string t, .string f, .slice A1 ag.length c1, .int .i64 n, .slice A3 l3 c3, .slice A4 l4 c4, .int .i64 ln, .int .i64 cl] 38 (0, 0)) := by rw [← hW]; exact heap_alloc_new w _
  have HT : Hid (Turn [] w W) := Lib.hid (by rw [← hW]; exact (Turn.refl [] w).alloc _)
  rw [hW]
  have hgl : w.heap.size < W.heap.size := (Array.getElem?_eq_some_iff.1 hg).1
  have e1 : W.cell? ⟨w.heap.size, 1, none⟩ = some (.string x) := cell_of_row W _ 1 _ _ _ hg
  have e7 : W.cell? ⟨w.heap.size, 7, none⟩ = some (.int .i64 n) := cell_of_row W _ 7 _ _ _ hg
  clear hW hg
  go_region_held3 (fun w' => w'.cell? ⟨w.heap.size, 1, none⟩ = some (.string x) ∧ w'.cell? ⟨w.heap.size, 7, none⟩ = some (.int .i64 n))
    (first | exact ⟨e1, e7⟩ | exact ⟨i1, i7⟩ | exact ⟨k1, k7⟩ | go_keep)
    (first
      | (go_at_call 81; (with_reducible refine (HI.out W.drew (by exact HT.out.drew)).mono ?_); rintro e w2 ⟨rfl, t2⟩
         have i1 : w2.cell? ⟨w.heap.size, 1, none⟩ = some (.string x) := (t2.cell (p := ⟨w.heap.size, 1, none⟩) hgl (by simp)).trans e1
         have i7 : w2.cell? ⟨w.heap.size, 7, none⟩ = some (.int .i64 n) := (t2.cell (p := ⟨w.heap.size, 7, none⟩) hgl (by simp)).trans e7
         have hgl2 : w.heap.size < w2.heap.size := Nat.lt_of_lt_of_le hgl t2.size
         have HT2 := Lib.hid (HT.out.drew.trans' t2)
         clear t2)
      | (go_at_call 56; (with_reducible refine (HP.out w2 (by exact HS.out.turn' HT2.out)).mono ?_); rintro e w3 ⟨rfl, hW⟩
         have k1 : w3.cell? ⟨w.heap.size, 1, none⟩ = some (.string x) := (hW.cell hgl2 hgF).trans i1
         have k7 : w3.cell? ⟨w.heap.size, 7, none⟩ = some (.int .i64 n) := (hW.cell hgl2 hgF).trans i7
         have HW := Lib.hid hW
         clear hW))
  go_wp2_with fail
  go_end0
  exact ⟨rfl, Wr.after HT2.out HW.out⟩

set_option maxHeartbeats 2000000 in
set_option maxRecDepth 100000 in
theorem plain_other (T b : Nat) (F : List Nat) (R : List Row) (D : Nat) (d : Int) (x y z t f : ByteArray) (ag : List ByteArray) (n : Int) (A1 A3 A4 : Option Addr) (c1 l3 c3 l4 c4 : Nat) (ln cl : Int) (w : World) (h : Sh T w b F R D) (hd : ∀ k ∈ [0, 1, 2, 3, 4, 5, 6, 7, 8, 9, 10, 11, 12, 13, 14, 15, 16, 17, 18, 22], d ≠ (k : Int)) :
    Calls Tryz.prog 69 #[.pointer (some ⟨b, 0, none⟩), .agg #[.int .i64 d, .string x, .string y, .string z, .string t, .string f, .slice A1 ag.length c1, .int .i64 n, .slice A3 l3 c3, .slice A4 l4 c4, .int .i64 ln, .int .i64 cl]] w fun e w' => e = .returned (.tuple #[]) ∧ Wr T w b F R D w' := by
  have q0 : ¬ d = 0 := hd 0 (by decide)
  have q1 : ¬ d = 1 := hd 1 (by decide)
  have q2 : ¬ d = 2 := hd 2 (by decide)
  have q3 : ¬ d = 3 := hd 3 (by decide)
  have q4 : ¬ d = 4 := hd 4 (by decide)
  have q5 : ¬ d = 5 := hd 5 (by decide)
  have q6 : ¬ d = 6 := hd 6 (by decide)
  have q7 : ¬ d = 7 := hd 7 (by decide)
  have q8 : ¬ d = 8 := hd 8 (by decide)
  have q9 : ¬ d = 9 := hd 9 (by decide)
  have q10 : ¬ d = 10 := hd 10 (by decide)
  have q11 : ¬ d = 11 := hd 11 (by decide)
  have q12 : ¬ d = 12 := hd 12 (by decide)
  have q13 : ¬ d = 13 := hd 13 (by decide)
  have q14 : ¬ d = 14 := hd 14 (by decide)
  have q15 : ¬ d = 15 := hd 15 (by decide)
  have q16 : ¬ d = 16 := hd 16 (by decide)
  have q17 : ¬ d = 17 := hd 17 (by decide)
  have q18 : ¬ d = 18 := hd 18 (by decide)
  have q22 : ¬ d = 22 := hd 22 (by decide)
  have HS := Lib.hid h
  clear h hd
  go_enter Tryz.func69, Tryz.ntmps69
  go_wp2_with fail
  go_end0
  exact ⟨rfl, F, HS.out.turn' ((Turn.refl [] w).alloc _), fun g hg => .inl hg, (Turn.refl F w).alloc _⟩

end Go.Proofs.YtoekaehpcjhhaaaGreatDoor
