/- plain: rows of statements without blocks (printed by mkplain.py). -/
import Derived.Test.YtoekaehpcjhhaaaGreatDoorAns
set_option linter.unusedSimpArgs false
set_option linter.unusedVariables false
namespace Go.Proofs.YtoekaehpcjhhaaaGreatDoor
open Go.RowKit

set_option maxHeartbeats 2000000 in
set_option maxRecDepth 100000 in
theorem plain_0 (T b : Nat) (F : List Nat) (R : List Row) (D : Nat) (x y z t f : ByteArray) (ag : List ByteArray) (n : Int) (A1 A3 A4 : Option Addr) (c1 l3 c3 l4 c4 : Nat) (ln cl : Int) (w : World) (h : Sh T w b F R D) (hs : x.size ≤ 1000 ∧ y.size ≤ 1000 ∧ z.size ≤ 1000 ∧ t.size ≤ 1000 ∧ f.size ≤ 1000) (hR : R.length ≤ 1000000000) :
    Calls Tryz.prog 69 #[.pointer (some ⟨b, 0, none⟩), .agg #[.int .i64 0, .string x, .string y, .string z, .string t, .string f, .slice A1 ag.length c1, .int .i64 n, .slice A3 l3 c3, .slice A4 l4 c4, .int .i64 ln, .int .i64 cl]] w fun e w' => e = .returned (.tuple #[]) ∧ Wr T w b F (R ++ [(D, cat [x, ⟨#[32, 61, 32, 110, 101, 119, 32]⟩, t, ⟨#[59]⟩])]) D w' := by
  obtain ⟨hx, hy, hz, ht, hf⟩ := hs
  have HP : Hid (∀ W, Sh T W b F R D → Calls Tryz.prog 56 #[.pointer (some ⟨b, 0, none⟩), .slice (some ⟨W.heap.size, 0, none⟩) 4 4] (W.alloc (.cells #[.string x, .string ⟨#[32, 61, 32, 110, 101, 119, 32]⟩, .string t, .string ⟨#[59]⟩] 9)) fun e w' => e = .returned (.tuple #[]) ∧ Wr T W b F (R ++ [(D, cat [x, ⟨#[32, 61, 32, 110, 101, 119, 32]⟩, t, ⟨#[59]⟩])]) D w') :=
    Lib.hid (fun W hW => put_new T b F R D [x, ⟨#[32, 61, 32, 110, 101, 119, 32]⟩, t, ⟨#[59]⟩] _ rfl W hW (by simp) (by rw [size_cat]; simp [sz_lit]; omega) hR)
  have HPd : Hid (∀ W, Sh T W b F R D → Calls Tryz.prog 56 #[.pointer (some ⟨b, 0, none⟩), .slice (some ⟨W.heap.size, 0, none⟩) 4 4] (W.alloc (.cells #[.string x, .string ⟨#[32, 61, 32, 110, 101, 119, 32]⟩, .string t, .string ⟨#[59]⟩] 9)).drew fun e w' => e = .returned (.tuple #[]) ∧ Wr T W b F (R ++ [(D, cat [x, ⟨#[32, 61, 32, 110, 101, 119, 32]⟩, t, ⟨#[59]⟩])]) D w') :=
    Lib.hid (fun W hW => (HP.out W.drew (hW.turn' (Turn.refl [] W).drew)).mono (fun e w' ⟨h1, h2⟩ => ⟨h1, Wr.after (Turn.refl [] W).drew h2⟩))
  clear HP
  have HS := Lib.hid h
  have hgF : w.heap.size ∉ F := fun hg => Nat.lt_irrefl _ (h.lt.2.2 _ hg)
  clear h hx hy hz ht hf hR
  go_enter Tryz.func69, Tryz.ntmps69
  go_wp2_with fail
  obtain ⟨W, hW⟩ : ∃ W, w.alloc (.cells #[.int .i64 0, .string x, .string y, .string z, .string t, .string f, .slice A1 ag.length c1, .int .i64 n, .slice A3 l3 c3, .slice A4 l4 c4, .int .i64 ln, .int .i64 cl] 38) = W := ⟨_, rfl⟩
  have hg : W.heap[w.heap.size]? = some (.cells #[.int .i64 0, .string x, .string y, .string z, .string t, .string f, .slice A1 ag.length c1, .int .i64 n, .slice A3 l3 c3, .slice A4 l4 c4, .int .i64 ln, .int .i64 cl] 38 (0, 0)) := by rw [← hW]; exact heap_alloc_new w _
  have HT : Hid (Turn [] w W) := Lib.hid (by rw [← hW]; exact (Turn.refl [] w).alloc _)
  rw [hW]
  have hgl : w.heap.size < W.heap.size := (Array.getElem?_eq_some_iff.1 hg).1
  have e1 : W.cell? ⟨w.heap.size, 1, none⟩ = some (.string x) := cell_of_row W _ 1 _ _ _ hg
  have e4 : W.cell? ⟨w.heap.size, 4, none⟩ = some (.string t) := cell_of_row W _ 4 _ _ _ hg
  clear hW hg
  go_region_held3 (fun w' => w'.cell? ⟨w.heap.size, 1, none⟩ = some (.string x) ∧ w'.cell? ⟨w.heap.size, 4, none⟩ = some (.string t))
    (first | exact ⟨e1, e4⟩ | exact ⟨k1, k4⟩ | go_keep)
    (first
      | (go_at_call 56; (with_reducible refine (HPd.out W (by exact HS.out.turn' HT.out)).mono ?_); rintro e w3 ⟨rfl, hW⟩
         have k1 : w3.cell? ⟨w.heap.size, 1, none⟩ = some (.string x) := (hW.cell hgl hgF).trans e1
         have k4 : w3.cell? ⟨w.heap.size, 4, none⟩ = some (.string t) := (hW.cell hgl hgF).trans e4
         have HW := Lib.hid hW
         clear hW))
  go_wp2_with fail
  go_end0
  exact ⟨rfl, Wr.after HT.out HW.out⟩

set_option maxHeartbeats 2000000 in
set_option maxRecDepth 100000 in
theorem plain_1 (T b : Nat) (F : List Nat) (R : List Row) (D : Nat) (x y z t f : ByteArray) (ag : List ByteArray) (n : Int) (A1 A3 A4 : Option Addr) (c1 l3 c3 l4 c4 : Nat) (ln cl : Int) (w : World) (h : Sh T w b F R D) (hs : x.size ≤ 1000 ∧ y.size ≤ 1000 ∧ z.size ≤ 1000 ∧ t.size ≤ 1000 ∧ f.size ≤ 1000) (hR : R.length ≤ 1000000000) :
    Calls Tryz.prog 69 #[.pointer (some ⟨b, 0, none⟩), .agg #[.int .i64 1, .string x, .string y, .string z, .string t, .string f, .slice A1 ag.length c1, .int .i64 n, .slice A3 l3 c3, .slice A4 l4 c4, .int .i64 ln, .int .i64 cl]] w fun e w' => e = .returned (.tuple #[]) ∧ Wr T w b F (R ++ [(D, cat [x, ⟨#[32, 61, 32, 110, 101, 119, 32]⟩, t, ⟨#[91, 93, 59]⟩])]) D w' := by
  obtain ⟨hx, hy, hz, ht, hf⟩ := hs
  have HP : Hid (∀ W, Sh T W b F R D → Calls Tryz.prog 56 #[.pointer (some ⟨b, 0, none⟩), .slice (some ⟨W.heap.size, 0, none⟩) 4 4] (W.alloc (.cells #[.string x, .string ⟨#[32, 61, 32, 110, 101, 119, 32]⟩, .string t, .string ⟨#[91, 93, 59]⟩] 9)) fun e w' => e = .returned (.tuple #[]) ∧ Wr T W b F (R ++ [(D, cat [x, ⟨#[32, 61, 32, 110, 101, 119, 32]⟩, t, ⟨#[91, 93, 59]⟩])]) D w') :=
    Lib.hid (fun W hW => put_new T b F R D [x, ⟨#[32, 61, 32, 110, 101, 119, 32]⟩, t, ⟨#[91, 93, 59]⟩] _ rfl W hW (by simp) (by rw [size_cat]; simp [sz_lit]; omega) hR)
  have HPd : Hid (∀ W, Sh T W b F R D → Calls Tryz.prog 56 #[.pointer (some ⟨b, 0, none⟩), .slice (some ⟨W.heap.size, 0, none⟩) 4 4] (W.alloc (.cells #[.string x, .string ⟨#[32, 61, 32, 110, 101, 119, 32]⟩, .string t, .string ⟨#[91, 93, 59]⟩] 9)).drew fun e w' => e = .returned (.tuple #[]) ∧ Wr T W b F (R ++ [(D, cat [x, ⟨#[32, 61, 32, 110, 101, 119, 32]⟩, t, ⟨#[91, 93, 59]⟩])]) D w') :=
    Lib.hid (fun W hW => (HP.out W.drew (hW.turn' (Turn.refl [] W).drew)).mono (fun e w' ⟨h1, h2⟩ => ⟨h1, Wr.after (Turn.refl [] W).drew h2⟩))
  clear HP
  have HS := Lib.hid h
  have hgF : w.heap.size ∉ F := fun hg => Nat.lt_irrefl _ (h.lt.2.2 _ hg)
  clear h hx hy hz ht hf hR
  go_enter Tryz.func69, Tryz.ntmps69
  go_wp2_with fail
  obtain ⟨W, hW⟩ : ∃ W, w.alloc (.cells #[.int .i64 1, .string x, .string y, .string z, .string t, .string f, .slice A1 ag.length c1, .int .i64 n, .slice A3 l3 c3, .slice A4 l4 c4, .int .i64 ln, .int .i64 cl] 38) = W := ⟨_, rfl⟩
  have hg : W.heap[w.heap.size]? = some (.cells #[.int .i64 1, .string x, .string y, .string z, .string t, .string f, .slice A1 ag.length c1, .int .i64 n, .slice A3 l3 c3, .slice A4 l4 c4, .int .i64 ln, .int .i64 cl] 38 (0, 0)) := by rw [← hW]; exact heap_alloc_new w _
  have HT : Hid (Turn [] w W) := Lib.hid (by rw [← hW]; exact (Turn.refl [] w).alloc _)
  rw [hW]
  have hgl : w.heap.size < W.heap.size := (Array.getElem?_eq_some_iff.1 hg).1
  have e1 : W.cell? ⟨w.heap.size, 1, none⟩ = some (.string x) := cell_of_row W _ 1 _ _ _ hg
  have e4 : W.cell? ⟨w.heap.size, 4, none⟩ = some (.string t) := cell_of_row W _ 4 _ _ _ hg
  clear hW hg
  go_region_held3 (fun w' => w'.cell? ⟨w.heap.size, 1, none⟩ = some (.string x) ∧ w'.cell? ⟨w.heap.size, 4, none⟩ = some (.string t))
    (first | exact ⟨e1, e4⟩ | exact ⟨k1, k4⟩ | go_keep)
    (first
      | (go_at_call 56; (with_reducible refine (HPd.out W (by exact HS.out.turn' HT.out)).mono ?_); rintro e w3 ⟨rfl, hW⟩
         have k1 : w3.cell? ⟨w.heap.size, 1, none⟩ = some (.string x) := (hW.cell hgl hgF).trans e1
         have k4 : w3.cell? ⟨w.heap.size, 4, none⟩ = some (.string t) := (hW.cell hgl hgF).trans e4
         have HW := Lib.hid hW
         clear hW))
  go_wp2_with fail
  go_end0
  exact ⟨rfl, Wr.after HT.out HW.out⟩

set_option maxHeartbeats 2000000 in
set_option maxRecDepth 100000 in
theorem plain_2 (T b : Nat) (F : List Nat) (R : List Row) (D : Nat) (x y z t f : ByteArray) (ag : List ByteArray) (n : Int) (A1 A3 A4 : Option Addr) (c1 l3 c3 l4 c4 : Nat) (ln cl : Int) (w : World) (h : Sh T w b F R D) (hs : x.size ≤ 1000 ∧ y.size ≤ 1000 ∧ z.size ≤ 1000 ∧ t.size ≤ 1000 ∧ f.size ≤ 1000) (hR : R.length ≤ 1000000000) :
    Calls Tryz.prog 69 #[.pointer (some ⟨b, 0, none⟩), .agg #[.int .i64 2, .string x, .string y, .string z, .string t, .string f, .slice A1 ag.length c1, .int .i64 n, .slice A3 l3 c3, .slice A4 l4 c4, .int .i64 ln, .int .i64 cl]] w fun e w' => e = .returned (.tuple #[]) ∧ Wr T w b F (R ++ [(D, cat [x, ⟨#[32, 61, 32, 110, 117, 108, 108, 59]⟩])]) D w' := by
  obtain ⟨hx, hy, hz, ht, hf⟩ := hs
  have HP : Hid (∀ W, Sh T W b F R D → Calls Tryz.prog 56 #[.pointer (some ⟨b, 0, none⟩), .slice (some ⟨W.heap.size, 0, none⟩) 2 2] (W.alloc (.cells #[.string x, .string ⟨#[32, 61, 32, 110, 117, 108, 108, 59]⟩] 9)) fun e w' => e = .returned (.tuple #[]) ∧ Wr T W b F (R ++ [(D, cat [x, ⟨#[32, 61, 32, 110, 117, 108, 108, 59]⟩])]) D w') :=
    Lib.hid (fun W hW => put_new T b F R D [x, ⟨#[32, 61, 32, 110, 117, 108, 108, 59]⟩] _ rfl W hW (by simp) (by rw [size_cat]; simp [sz_lit]; omega) hR)
  have HPd : Hid (∀ W, Sh T W b F R D → Calls Tryz.prog 56 #[.pointer (some ⟨b, 0, none⟩), .slice (some ⟨W.heap.size, 0, none⟩) 2 2] (W.alloc (.cells #[.string x, .string ⟨#[32, 61, 32, 110, 117, 108, 108, 59]⟩] 9)).drew fun e w' => e = .returned (.tuple #[]) ∧ Wr T W b F (R ++ [(D, cat [x, ⟨#[32, 61, 32, 110, 117, 108, 108, 59]⟩])]) D w') :=
    Lib.hid (fun W hW => (HP.out W.drew (hW.turn' (Turn.refl [] W).drew)).mono (fun e w' ⟨h1, h2⟩ => ⟨h1, Wr.after (Turn.refl [] W).drew h2⟩))
  clear HP
  have HS := Lib.hid h
  have hgF : w.heap.size ∉ F := fun hg => Nat.lt_irrefl _ (h.lt.2.2 _ hg)
  clear h hx hy hz ht hf hR
  go_enter Tryz.func69, Tryz.ntmps69
  go_wp2_with fail
  obtain ⟨W, hW⟩ : ∃ W, w.alloc (.cells #[.int .i64 2, .string x, .string y, .string z, .string t, .string f, .slice A1 ag.length c1, .int .i64 n, .slice A3 l3 c3, .slice A4 l4 c4, .int .i64 ln, .int .i64 cl] 38) = W := ⟨_, rfl⟩
  have hg : W.heap[w.heap.size]? = some (.cells #[.int .i64 2, .string x, .string y, .string z, .string t, .string f, .slice A1 ag.length c1, .int .i64 n, .slice A3 l3 c3, .slice A4 l4 c4, .int .i64 ln, .int .i64 cl] 38 (0, 0)) := by rw [← hW]; exact heap_alloc_new w _
  have HT : Hid (Turn [] w W) := Lib.hid (by rw [← hW]; exact (Turn.refl [] w).alloc _)
  rw [hW]
  have hgl : w.heap.size < W.heap.size := (Array.getElem?_eq_some_iff.1 hg).1
  have e1 : W.cell? ⟨w.heap.size, 1, none⟩ = some (.string x) := cell_of_row W _ 1 _ _ _ hg
  clear hW hg
  go_region_held3 (fun w' => w'.cell? ⟨w.heap.size, 1, none⟩ = some (.string x))
    (first | exact e1 | exact k1 | go_keep)
    (first
      | (go_at_call 56; (with_reducible refine (HPd.out W (by exact HS.out.turn' HT.out)).mono ?_); rintro e w3 ⟨rfl, hW⟩
         have k1 : w3.cell? ⟨w.heap.size, 1, none⟩ = some (.string x) := (hW.cell hgl hgF).trans e1
         have HW := Lib.hid hW
         clear hW))
  go_wp2_with fail
  go_end0
  exact ⟨rfl, Wr.after HT.out HW.out⟩

set_option maxHeartbeats 2000000 in
set_option maxRecDepth 100000 in
theorem plain_3 (T b : Nat) (F : List Nat) (R : List Row) (D : Nat) (x y z t f : ByteArray) (ag : List ByteArray) (n : Int) (A1 A3 A4 : Option Addr) (c1 l3 c3 l4 c4 : Nat) (ln cl : Int) (w : World) (h : Sh T w b F R D) (hs : x.size ≤ 1000 ∧ y.size ≤ 1000 ∧ z.size ≤ 1000 ∧ t.size ≤ 1000 ∧ f.size ≤ 1000) (hR : R.length ≤ 1000000000) :
    Calls Tryz.prog 69 #[.pointer (some ⟨b, 0, none⟩), .agg #[.int .i64 3, .string x, .string y, .string z, .string t, .string f, .slice A1 ag.length c1, .int .i64 n, .slice A3 l3 c3, .slice A4 l4 c4, .int .i64 ln, .int .i64 cl]] w fun e w' => e = .returned (.tuple #[]) ∧ Wr T w b F (R ++ [(D, cat [x, ⟨#[32, 61, 32]⟩, y, ⟨#[59]⟩])]) D w' := by
  obtain ⟨hx, hy, hz, ht, hf⟩ := hs
  have HP : Hid (∀ W, Sh T W b F R D → Calls Tryz.prog 56 #[.pointer (some ⟨b, 0, none⟩), .slice (some ⟨W.heap.size, 0, none⟩) 4 4] (W.alloc (.cells #[.string x, .string ⟨#[32, 61, 32]⟩, .string y, .string ⟨#[59]⟩] 9)) fun e w' => e = .returned (.tuple #[]) ∧ Wr T W b F (R ++ [(D, cat [x, ⟨#[32, 61, 32]⟩, y, ⟨#[59]⟩])]) D w') :=
    Lib.hid (fun W hW => put_new T b F R D [x, ⟨#[32, 61, 32]⟩, y, ⟨#[59]⟩] _ rfl W hW (by simp) (by rw [size_cat]; simp [sz_lit]; omega) hR)
  have HPd : Hid (∀ W, Sh T W b F R D → Calls Tryz.prog 56 #[.pointer (some ⟨b, 0, none⟩), .slice (some ⟨W.heap.size, 0, none⟩) 4 4] (W.alloc (.cells #[.string x, .string ⟨#[32, 61, 32]⟩, .string y, .string ⟨#[59]⟩] 9)).drew fun e w' => e = .returned (.tuple #[]) ∧ Wr T W b F (R ++ [(D, cat [x, ⟨#[32, 61, 32]⟩, y, ⟨#[59]⟩])]) D w') :=
    Lib.hid (fun W hW => (HP.out W.drew (hW.turn' (Turn.refl [] W).drew)).mono (fun e w' ⟨h1, h2⟩ => ⟨h1, Wr.after (Turn.refl [] W).drew h2⟩))
  clear HP
  have HS := Lib.hid h
  have hgF : w.heap.size ∉ F := fun hg => Nat.lt_irrefl _ (h.lt.2.2 _ hg)
  clear h hx hy hz ht hf hR
  go_enter Tryz.func69, Tryz.ntmps69
  go_wp2_with fail
  obtain ⟨W, hW⟩ : ∃ W, w.alloc (.cells #[.int .i64 3, .string x, .string y, .string z, .string t, .string f, .slice A1 ag.length c1, .int .i64 n, .slice A3 l3 c3, .slice A4 l4 c4, .int .i64 ln, .int .i64 cl] 38) = W := ⟨_, rfl⟩
  have hg : W.heap[w.heap.size]? = some (.cells #[.int .i64 3, .string x, .string y, .string z, .string t, .string f, .slice A1 ag.length c1, .int .i64 n, .slice A3 l3 c3, .slice A4 l4 c4, .int .i64 ln, .int .i64 cl] 38 (0, 0)) := by rw [← hW]; exact heap_alloc_new w _
  have HT : Hid (Turn [] w W) := Lib.hid (by rw [← hW]; exact (Turn.refl [] w).alloc _)
  rw [hW]
  have hgl : w.heap.size < W.heap.size := (Array.getElem?_eq_some_iff.1 hg).1
  have e1 : W.cell? ⟨w.heap.size, 1, none⟩ = some (.string x) := cell_of_row W _ 1 _ _ _ hg
  have e2 : W.cell? ⟨w.heap.size, 2, none⟩ = some (.string y) := cell_of_row W _ 2 _ _ _ hg
  clear hW hg
  go_region_held3 (fun w' => w'.cell? ⟨w.heap.size, 1, none⟩ = some (.string x) ∧ w'.cell? ⟨w.heap.size, 2, none⟩ = some (.string y))
    (first | exact ⟨e1, e2⟩ | exact ⟨k1, k2⟩ | go_keep)
    (first
      | (go_at_call 56; (with_reducible refine (HPd.out W (by exact HS.out.turn' HT.out)).mono ?_); rintro e w3 ⟨rfl, hW⟩
         have k1 : w3.cell? ⟨w.heap.size, 1, none⟩ = some (.string x) := (hW.cell hgl hgF).trans e1
         have k2 : w3.cell? ⟨w.heap.size, 2, none⟩ = some (.string y) := (hW.cell hgl hgF).trans e2
         have HW := Lib.hid hW
         clear hW))
  go_wp2_with fail
  go_end0
  exact ⟨rfl, Wr.after HT.out HW.out⟩

set_option maxHeartbeats 2000000 in
set_option maxRecDepth 100000 in
theorem plain_4 (T b : Nat) (F : List Nat) (R : List Row) (D : Nat) (x y z t f : ByteArray) (ag : List ByteArray) (n : Int) (A1 A3 A4 : Option Addr) (c1 l3 c3 l4 c4 : Nat) (ln cl : Int) (w : World) (h : Sh T w b F R D) (hs : x.size ≤ 1000 ∧ y.size ≤ 1000 ∧ z.size ≤ 1000 ∧ t.size ≤ 1000 ∧ f.size ≤ 1000) (hR : R.length ≤ 1000000000) :
    Calls Tryz.prog 69 #[.pointer (some ⟨b, 0, none⟩), .agg #[.int .i64 4, .string x, .string y, .string z, .string t, .string f, .slice A1 ag.length c1, .int .i64 n, .slice A3 l3 c3, .slice A4 l4 c4, .int .i64 ln, .int .i64 cl]] w fun e w' => e = .returned (.tuple #[]) ∧ Wr T w b F (R ++ [(D, cat [x, ⟨#[32, 61, 32, 40]⟩, t, ⟨#[41, 32]⟩, y, ⟨#[59]⟩])]) D w' := by
  obtain ⟨hx, hy, hz, ht, hf⟩ := hs
  have HP : Hid (∀ W, Sh T W b F R D → Calls Tryz.prog 56 #[.pointer (some ⟨b, 0, none⟩), .slice (some ⟨W.heap.size, 0, none⟩) 6 6] (W.alloc (.cells #[.string x, .string ⟨#[32, 61, 32, 40]⟩, .string t, .string ⟨#[41, 32]⟩, .string y, .string ⟨#[59]⟩] 9)) fun e w' => e = .returned (.tuple #[]) ∧ Wr T W b F (R ++ [(D, cat [x, ⟨#[32, 61, 32, 40]⟩, t, ⟨#[41, 32]⟩, y, ⟨#[59]⟩])]) D w') :=
    Lib.hid (fun W hW => put_new T b F R D [x, ⟨#[32, 61, 32, 40]⟩, t, ⟨#[41, 32]⟩, y, ⟨#[59]⟩] _ rfl W hW (by simp) (by rw [size_cat]; simp [sz_lit]; omega) hR)
  have HPd : Hid (∀ W, Sh T W b F R D → Calls Tryz.prog 56 #[.pointer (some ⟨b, 0, none⟩), .slice (some ⟨W.heap.size, 0, none⟩) 6 6] (W.alloc (.cells #[.string x, .string ⟨#[32, 61, 32, 40]⟩, .string t, .string ⟨#[41, 32]⟩, .string y, .string ⟨#[59]⟩] 9)).drew fun e w' => e = .returned (.tuple #[]) ∧ Wr T W b F (R ++ [(D, cat [x, ⟨#[32, 61, 32, 40]⟩, t, ⟨#[41, 32]⟩, y, ⟨#[59]⟩])]) D w') :=
    Lib.hid (fun W hW => (HP.out W.drew (hW.turn' (Turn.refl [] W).drew)).mono (fun e w' ⟨h1, h2⟩ => ⟨h1, Wr.after (Turn.refl [] W).drew h2⟩))
  clear HP
  have HS := Lib.hid h
  have hgF : w.heap.size ∉ F := fun hg => Nat.lt_irrefl _ (h.lt.2.2 _ hg)
  clear h hx hy hz ht hf hR
  go_enter Tryz.func69, Tryz.ntmps69
  go_wp2_with fail
  obtain ⟨W, hW⟩ : ∃ W, w.alloc (.cells #[.int .i64 4, .string x, .string y, .string z, .string t, .string f, .slice A1 ag.length c1, .int .i64 n, .slice A3 l3 c3, .slice A4 l4 c4, .int .i64 ln, .int .i64 cl] 38) = W := ⟨_, rfl⟩
  have hg : W.heap[w.heap.size]? = some (.cells #[.int .i64 4, .string x, .string y, .string z, .string t, .string f, .slice A1 ag.length c1, .int .i64 n, .slice A3 l3 c3, .slice A4 l4 c4, .int .i64 ln, .int .i64 cl] 38 (0, 0)) := by rw [← hW]; exact heap_alloc_new w _
  have HT : Hid (Turn [] w W) := Lib.hid (by rw [← hW]; exact (Turn.refl [] w).alloc _)
  rw [hW]
  have hgl : w.heap.size < W.heap.size := (Array.getElem?_eq_some_iff.1 hg).1
  have e1 : W.cell? ⟨w.heap.size, 1, none⟩ = some (.string x) := cell_of_row W _ 1 _ _ _ hg
  have e2 : W.cell? ⟨w.heap.size, 2, none⟩ = some (.string y) := cell_of_row W _ 2 _ _ _ hg
  have e4 : W.cell? ⟨w.heap.size, 4, none⟩ = some (.string t) := cell_of_row W _ 4 _ _ _ hg
  clear hW hg
  go_region_held3 (fun w' => w'.cell? ⟨w.heap.size, 1, none⟩ = some (.string x) ∧ w'.cell? ⟨w.heap.size, 2, none⟩ = some (.string y) ∧ w'.cell? ⟨w.heap.size, 4, none⟩ = some (.string t))
    (first | exact ⟨e1, e2, e4⟩ | exact ⟨k1, k2, k4⟩ | go_keep)
    (first
      | (go_at_call 56; (with_reducible refine (HPd.out W (by exact HS.out.turn' HT.out)).mono ?_); rintro e w3 ⟨rfl, hW⟩
         have k1 : w3.cell? ⟨w.heap.size, 1, none⟩ = some (.string x) := (hW.cell hgl hgF).trans e1
         have k2 : w3.cell? ⟨w.heap.size, 2, none⟩ = some (.string y) := (hW.cell hgl hgF).trans e2
         have k4 : w3.cell? ⟨w.heap.size, 4, none⟩ = some (.string t) := (hW.cell hgl hgF).trans e4
         have HW := Lib.hid hW
         clear hW))
  go_wp2_with fail
  go_end0
  exact ⟨rfl, Wr.after HT.out HW.out⟩

end Go.Proofs.YtoekaehpcjhhaaaGreatDoor
