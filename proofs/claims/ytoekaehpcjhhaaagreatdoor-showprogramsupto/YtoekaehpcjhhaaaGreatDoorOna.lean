/- The reference's one: rows of statements without blocks (printed by mkone.py). -/
import Derived.Test.YtoekaehpcjhhaaaGreatDoorOnx
set_option linter.unusedSimpArgs false
set_option linter.unusedVariables false
namespace Go.Proofs.YtoekaehpcjhhaaaGreatDoor
open Go.RowKit

set_option maxHeartbeats 2000000 in
set_option maxRecDepth 100000 in
theorem one_0 (x y z t f : ByteArray) (ag : List ByteArray) (n : Int) (A1 A3 A4 : Option Addr) (c1 l3 c3 l4 c4 : Nat) (ln cl : Int) (w : World) (hs : x.size ≤ 1000 ∧ y.size ≤ 1000 ∧ z.size ≤ 1000 ∧ t.size ≤ 1000 ∧ f.size ≤ 1000) (ha : ag.length ≤ 1000 ∧ ∀ a ∈ ag, a.size ≤ 1000) (h1 : Sts w A1 ag) :
    Calls Tryz.prog 51 #[.agg #[.int .i64 0, .string x, .string y, .string z, .string t, .string f, .slice A1 ag.length c1, .int .i64 n, .slice A3 l3 c3, .slice A4 l4 c4, .int .i64 ln, .int .i64 cl]] w fun e w' => e = .returned (.string (cat [x, ⟨#[32, 61, 32, 110, 101, 119, 32]⟩, t, ⟨#[59]⟩])) ∧ Turn [] w w' := by
  obtain ⟨hx, hy, hz, ht, hf⟩ := hs
  have hjs : (jn ag ⟨#[44, 32]⟩).size ≤ 2000000 := jn_sz ag ha
  have HJ : Hid (∀ W, Sts W A1 ag → Calls Tryz.prog 13 #[.slice A1 ag.length c1, .string ⟨#[44, 32]⟩] W fun e w' => e = .returned (.string (jn ag ⟨#[44, 32]⟩)) ∧ W = w') := Lib.hid (fun W hW => rjoin_any A1 c1 ag ⟨#[44, 32]⟩ W hW (by omega) (by omega))
  obtain ⟨J, hJ⟩ : ∃ J, jn ag ⟨#[44, 32]⟩ = J := ⟨_, rfl⟩
  rw [hJ] at HJ hjs
  have HJJ := Lib.hid hJ
  have H1 := Lib.hid h1
  have b1 := add_run f ⟨#[40]⟩ (by rw [show (⟨#[40]⟩ : ByteArray).size = 1 from rfl]; omega)
  have b2 := add_run (f ++ ⟨#[40]⟩) J (by rw [size_app, show (⟨#[40]⟩ : ByteArray).size = 1 from rfl]; omega)
  have b3 := add_run (f ++ ⟨#[40]⟩ ++ J) ⟨#[41, 59]⟩ (by rw [size_app, size_app, show (⟨#[40]⟩ : ByteArray).size = 1 from rfl, show (⟨#[41, 59]⟩ : ByteArray).size = 2 from rfl]; omega)
  have d2 : x.size + 7 ≤ 9223372036854775807 := by omega
  have d3 : x.size + 7 + t.size ≤ 9223372036854775807 := by omega
  have d4 : x.size + 7 + t.size + 1 ≤ 9223372036854775807 := by omega
  clear hJ ha h1
  go_enter Tryz.func51, Tryz.ntmps51
  go_wp2_with fail
  obtain ⟨W, hW⟩ : ∃ W, w.alloc (.cells #[.int .i64 0, .string x, .string y, .string z, .string t, .string f, .slice A1 ag.length c1, .int .i64 n, .slice A3 l3 c3, .slice A4 l4 c4, .int .i64 ln, .int .i64 cl] 38) = W := ⟨_, rfl⟩
  have hg : W.heap[w.heap.size]? = some (.cells #[.int .i64 0, .string x, .string y, .string z, .string t, .string f, .slice A1 ag.length c1, .int .i64 n, .slice A3 l3 c3, .slice A4 l4 c4, .int .i64 ln, .int .i64 cl] 38 (0, 0)) := by rw [← hW]; exact heap_alloc_new w _
  have HT : Hid (Turn [] w W) := Lib.hid (by rw [← hW]; exact (Turn.refl [] w).alloc _)
  rw [hW]
  have e0 : W.cell? ⟨w.heap.size, 0, none⟩ = some (.int .i64 0) := cell_of_row W _ 0 _ _ _ hg
  have e1 : W.cell? ⟨w.heap.size, 1, none⟩ = some (.string x) := cell_of_row W _ 1 _ _ _ hg
  have e2 : W.cell? ⟨w.heap.size, 2, none⟩ = some (.string y) := cell_of_row W _ 2 _ _ _ hg
  have e3 : W.cell? ⟨w.heap.size, 3, none⟩ = some (.string z) := cell_of_row W _ 3 _ _ _ hg
  have e4 : W.cell? ⟨w.heap.size, 4, none⟩ = some (.string t) := cell_of_row W _ 4 _ _ _ hg
  have e5 : W.cell? ⟨w.heap.size, 5, none⟩ = some (.string f) := cell_of_row W _ 5 _ _ _ hg
  have e6 : W.cell? ⟨w.heap.size, 6, none⟩ = some (.slice A1 ag.length c1) := cell_of_row W _ 6 _ _ _ hg
  have e7 : W.cell? ⟨w.heap.size, 7, none⟩ = some (.int .i64 n) := cell_of_row W _ 7 _ _ _ hg
  have hgl : w.heap.size < W.heap.size := (Array.getElem?_eq_some_iff.1 hg).1
  clear hW hg
  go_region_held3 (fun w' => w'.cell? ⟨w.heap.size, 5, none⟩ = some (.string f) ∧ w'.cell? ⟨w.heap.size, 6, none⟩ = some (.slice A1 ag.length c1))
    (first | exact ⟨e5, e6⟩ | go_keep)
    (first
      | (go_at_call 13; (with_reducible refine (HJ.out _ (by exact H1.out.turn' HT.out.drew)).mono ?_); rintro e w2 ⟨rfl, rfl⟩))
  go_wp2_with fail
  go_ret
  exact ⟨ret_str (by simp only [bs_append, bs_cat, List.flatMap_cons, List.flatMap_nil, List.append_assoc, List.append_nil]), HT.out.drew⟩

set_option maxHeartbeats 2000000 in
set_option maxRecDepth 100000 in
theorem one_1 (x y z t f : ByteArray) (ag : List ByteArray) (n : Int) (A1 A3 A4 : Option Addr) (c1 l3 c3 l4 c4 : Nat) (ln cl : Int) (w : World) (hs : x.size ≤ 1000 ∧ y.size ≤ 1000 ∧ z.size ≤ 1000 ∧ t.size ≤ 1000 ∧ f.size ≤ 1000) (ha : ag.length ≤ 1000 ∧ ∀ a ∈ ag, a.size ≤ 1000) (h1 : Sts w A1 ag) :
    Calls Tryz.prog 51 #[.agg #[.int .i64 1, .string x, .string y, .string z, .string t, .string f, .slice A1 ag.length c1, .int .i64 n, .slice A3 l3 c3, .slice A4 l4 c4, .int .i64 ln, .int .i64 cl]] w fun e w' => e = .returned (.string (cat [x, ⟨#[32, 61, 32, 110, 101, 119, 32]⟩, t, ⟨#[91, 93, 59]⟩])) ∧ Turn [] w w' := by
  obtain ⟨hx, hy, hz, ht, hf⟩ := hs
  have hjs : (jn ag ⟨#[44, 32]⟩).size ≤ 2000000 := jn_sz ag ha
  have HJ : Hid (∀ W, Sts W A1 ag → Calls Tryz.prog 13 #[.slice A1 ag.length c1, .string ⟨#[44, 32]⟩] W fun e w' => e = .returned (.string (jn ag ⟨#[44, 32]⟩)) ∧ W = w') := Lib.hid (fun W hW => rjoin_any A1 c1 ag ⟨#[44, 32]⟩ W hW (by omega) (by omega))
  obtain ⟨J, hJ⟩ : ∃ J, jn ag ⟨#[44, 32]⟩ = J := ⟨_, rfl⟩
  rw [hJ] at HJ hjs
  have HJJ := Lib.hid hJ
  have H1 := Lib.hid h1
  have b1 := add_run f ⟨#[40]⟩ (by rw [show (⟨#[40]⟩ : ByteArray).size = 1 from rfl]; omega)
  have b2 := add_run (f ++ ⟨#[40]⟩) J (by rw [size_app, show (⟨#[40]⟩ : ByteArray).size = 1 from rfl]; omega)
  have b3 := add_run (f ++ ⟨#[40]⟩ ++ J) ⟨#[41, 59]⟩ (by rw [size_app, size_app, show (⟨#[40]⟩ : ByteArray).size = 1 from rfl, show (⟨#[41, 59]⟩ : ByteArray).size = 2 from rfl]; omega)
  have d2 : x.size + 7 ≤ 9223372036854775807 := by omega
  have d3 : x.size + 7 + t.size ≤ 9223372036854775807 := by omega
  have d4 : x.size + 7 + t.size + 3 ≤ 9223372036854775807 := by omega
  clear hJ ha h1
  go_enter Tryz.func51, Tryz.ntmps51
  go_wp2_with fail
  obtain ⟨W, hW⟩ : ∃ W, w.alloc (.cells #[.int .i64 1, .string x, .string y, .string z, .string t, .string f, .slice A1 ag.length c1, .int .i64 n, .slice A3 l3 c3, .slice A4 l4 c4, .int .i64 ln, .int .i64 cl] 38) = W := ⟨_, rfl⟩
  have hg : W.heap[w.heap.size]? = some (.cells #[.int .i64 1, .string x, .string y, .string z, .string t, .string f, .slice A1 ag.length c1, .int .i64 n, .slice A3 l3 c3, .slice A4 l4 c4, .int .i64 ln, .int .i64 cl] 38 (0, 0)) := by rw [← hW]; exact heap_alloc_new w _
  have HT : Hid (Turn [] w W) := Lib.hid (by rw [← hW]; exact (Turn.refl [] w).alloc _)
  rw [hW]
  have e0 : W.cell? ⟨w.heap.size, 0, none⟩ = some (.int .i64 1) := cell_of_row W _ 0 _ _ _ hg
  have e1 : W.cell? ⟨w.heap.size, 1, none⟩ = some (.string x) := cell_of_row W _ 1 _ _ _ hg
  have e2 : W.cell? ⟨w.heap.size, 2, none⟩ = some (.string y) := cell_of_row W _ 2 _ _ _ hg
  have e3 : W.cell? ⟨w.heap.size, 3, none⟩ = some (.string z) := cell_of_row W _ 3 _ _ _ hg
  have e4 : W.cell? ⟨w.heap.size, 4, none⟩ = some (.string t) := cell_of_row W _ 4 _ _ _ hg
  have e5 : W.cell? ⟨w.heap.size, 5, none⟩ = some (.string f) := cell_of_row W _ 5 _ _ _ hg
  have e6 : W.cell? ⟨w.heap.size, 6, none⟩ = some (.slice A1 ag.length c1) := cell_of_row W _ 6 _ _ _ hg
  have e7 : W.cell? ⟨w.heap.size, 7, none⟩ = some (.int .i64 n) := cell_of_row W _ 7 _ _ _ hg
  have hgl : w.heap.size < W.heap.size := (Array.getElem?_eq_some_iff.1 hg).1
  clear hW hg
  go_region_held3 (fun w' => w'.cell? ⟨w.heap.size, 5, none⟩ = some (.string f) ∧ w'.cell? ⟨w.heap.size, 6, none⟩ = some (.slice A1 ag.length c1))
    (first | exact ⟨e5, e6⟩ | go_keep)
    (first
      | (go_at_call 13; (with_reducible refine (HJ.out _ (by exact H1.out.turn' HT.out.drew)).mono ?_); rintro e w2 ⟨rfl, rfl⟩))
  go_wp2_with fail
  go_ret
  exact ⟨ret_str (by simp only [bs_append, bs_cat, List.flatMap_cons, List.flatMap_nil, List.append_assoc, List.append_nil]), HT.out.drew⟩

set_option maxHeartbeats 2000000 in
set_option maxRecDepth 100000 in
theorem one_2 (x y z t f : ByteArray) (ag : List ByteArray) (n : Int) (A1 A3 A4 : Option Addr) (c1 l3 c3 l4 c4 : Nat) (ln cl : Int) (w : World) (hs : x.size ≤ 1000 ∧ y.size ≤ 1000 ∧ z.size ≤ 1000 ∧ t.size ≤ 1000 ∧ f.size ≤ 1000) (ha : ag.length ≤ 1000 ∧ ∀ a ∈ ag, a.size ≤ 1000) (h1 : Sts w A1 ag) :
    Calls Tryz.prog 51 #[.agg #[.int .i64 2, .string x, .string y, .string z, .string t, .string f, .slice A1 ag.length c1, .int .i64 n, .slice A3 l3 c3, .slice A4 l4 c4, .int .i64 ln, .int .i64 cl]] w fun e w' => e = .returned (.string (cat [x, ⟨#[32, 61, 32, 110, 117, 108, 108, 59]⟩])) ∧ Turn [] w w' := by
  obtain ⟨hx, hy, hz, ht, hf⟩ := hs
  have hjs : (jn ag ⟨#[44, 32]⟩).size ≤ 2000000 := jn_sz ag ha
  have HJ : Hid (∀ W, Sts W A1 ag → Calls Tryz.prog 13 #[.slice A1 ag.length c1, .string ⟨#[44, 32]⟩] W fun e w' => e = .returned (.string (jn ag ⟨#[44, 32]⟩)) ∧ W = w') := Lib.hid (fun W hW => rjoin_any A1 c1 ag ⟨#[44, 32]⟩ W hW (by omega) (by omega))
  obtain ⟨J, hJ⟩ : ∃ J, jn ag ⟨#[44, 32]⟩ = J := ⟨_, rfl⟩
  rw [hJ] at HJ hjs
  have HJJ := Lib.hid hJ
  have H1 := Lib.hid h1
  have b1 := add_run f ⟨#[40]⟩ (by rw [show (⟨#[40]⟩ : ByteArray).size = 1 from rfl]; omega)
  have b2 := add_run (f ++ ⟨#[40]⟩) J (by rw [size_app, show (⟨#[40]⟩ : ByteArray).size = 1 from rfl]; omega)
  have b3 := add_run (f ++ ⟨#[40]⟩ ++ J) ⟨#[41, 59]⟩ (by rw [size_app, size_app, show (⟨#[40]⟩ : ByteArray).size = 1 from rfl, show (⟨#[41, 59]⟩ : ByteArray).size = 2 from rfl]; omega)
  have d2 : x.size + 8 ≤ 9223372036854775807 := by omega
  clear hJ ha h1
  go_enter Tryz.func51, Tryz.ntmps51
  go_wp2_with fail
  obtain ⟨W, hW⟩ : ∃ W, w.alloc (.cells #[.int .i64 2, .string x, .string y, .string z, .string t, .string f, .slice A1 ag.length c1, .int .i64 n, .slice A3 l3 c3, .slice A4 l4 c4, .int .i64 ln, .int .i64 cl] 38) = W := ⟨_, rfl⟩
  have hg : W.heap[w.heap.size]? = some (.cells #[.int .i64 2, .string x, .string y, .string z, .string t, .string f, .slice A1 ag.length c1, .int .i64 n, .slice A3 l3 c3, .slice A4 l4 c4, .int .i64 ln, .int .i64 cl] 38 (0, 0)) := by rw [← hW]; exact heap_alloc_new w _
  have HT : Hid (Turn [] w W) := Lib.hid (by rw [← hW]; exact (Turn.refl [] w).alloc _)
  rw [hW]
  have e0 : W.cell? ⟨w.heap.size, 0, none⟩ = some (.int .i64 2) := cell_of_row W _ 0 _ _ _ hg
  have e1 : W.cell? ⟨w.heap.size, 1, none⟩ = some (.string x) := cell_of_row W _ 1 _ _ _ hg
  have e2 : W.cell? ⟨w.heap.size, 2, none⟩ = some (.string y) := cell_of_row W _ 2 _ _ _ hg
  have e3 : W.cell? ⟨w.heap.size, 3, none⟩ = some (.string z) := cell_of_row W _ 3 _ _ _ hg
  have e4 : W.cell? ⟨w.heap.size, 4, none⟩ = some (.string t) := cell_of_row W _ 4 _ _ _ hg
  have e5 : W.cell? ⟨w.heap.size, 5, none⟩ = some (.string f) := cell_of_row W _ 5 _ _ _ hg
  have e6 : W.cell? ⟨w.heap.size, 6, none⟩ = some (.slice A1 ag.length c1) := cell_of_row W _ 6 _ _ _ hg
  have e7 : W.cell? ⟨w.heap.size, 7, none⟩ = some (.int .i64 n) := cell_of_row W _ 7 _ _ _ hg
  have hgl : w.heap.size < W.heap.size := (Array.getElem?_eq_some_iff.1 hg).1
  clear hW hg
  go_region_held3 (fun w' => w'.cell? ⟨w.heap.size, 5, none⟩ = some (.string f) ∧ w'.cell? ⟨w.heap.size, 6, none⟩ = some (.slice A1 ag.length c1))
    (first | exact ⟨e5, e6⟩ | go_keep)
    (first
      | (go_at_call 13; (with_reducible refine (HJ.out _ (by exact H1.out.turn' HT.out.drew)).mono ?_); rintro e w2 ⟨rfl, rfl⟩))
  go_wp2_with fail
  go_ret
  exact ⟨ret_str (by simp only [bs_append, bs_cat, List.flatMap_cons, List.flatMap_nil, List.append_assoc, List.append_nil]), HT.out.drew⟩

set_option maxHeartbeats 2000000 in
set_option maxRecDepth 100000 in
theorem one_3 (x y z t f : ByteArray) (ag : List ByteArray) (n : Int) (A1 A3 A4 : Option Addr) (c1 l3 c3 l4 c4 : Nat) (ln cl : Int) (w : World) (hs : x.size ≤ 1000 ∧ y.size ≤ 1000 ∧ z.size ≤ 1000 ∧ t.size ≤ 1000 ∧ f.size ≤ 1000) (ha : ag.length ≤ 1000 ∧ ∀ a ∈ ag, a.size ≤ 1000) (h1 : Sts w A1 ag) :
    Calls Tryz.prog 51 #[.agg #[.int .i64 3, .string x, .string y, .string z, .string t, .string f, .slice A1 ag.length c1, .int .i64 n, .slice A3 l3 c3, .slice A4 l4 c4, .int .i64 ln, .int .i64 cl]] w fun e w' => e = .returned (.string (cat [x, ⟨#[32, 61, 32]⟩, y, ⟨#[59]⟩])) ∧ Turn [] w w' := by
  obtain ⟨hx, hy, hz, ht, hf⟩ := hs
  have hjs : (jn ag ⟨#[44, 32]⟩).size ≤ 2000000 := jn_sz ag ha
  have HJ : Hid (∀ W, Sts W A1 ag → Calls Tryz.prog 13 #[.slice A1 ag.length c1, .string ⟨#[44, 32]⟩] W fun e w' => e = .returned (.string (jn ag ⟨#[44, 32]⟩)) ∧ W = w') := Lib.hid (fun W hW => rjoin_any A1 c1 ag ⟨#[44, 32]⟩ W hW (by omega) (by omega))
  obtain ⟨J, hJ⟩ : ∃ J, jn ag ⟨#[44, 32]⟩ = J := ⟨_, rfl⟩
  rw [hJ] at HJ hjs
  have HJJ := Lib.hid hJ
  have H1 := Lib.hid h1
  have b1 := add_run f ⟨#[40]⟩ (by rw [show (⟨#[40]⟩ : ByteArray).size = 1 from rfl]; omega)
  have b2 := add_run (f ++ ⟨#[40]⟩) J (by rw [size_app, show (⟨#[40]⟩ : ByteArray).size = 1 from rfl]; omega)
  have b3 := add_run (f ++ ⟨#[40]⟩ ++ J) ⟨#[41, 59]⟩ (by rw [size_app, size_app, show (⟨#[40]⟩ : ByteArray).size = 1 from rfl, show (⟨#[41, 59]⟩ : ByteArray).size = 2 from rfl]; omega)
  have d2 : x.size + 3 ≤ 9223372036854775807 := by omega
  have d3 : x.size + 3 + y.size ≤ 9223372036854775807 := by omega
  have d4 : x.size + 3 + y.size + 1 ≤ 9223372036854775807 := by omega
  clear hJ ha h1
  go_enter Tryz.func51, Tryz.ntmps51
  go_wp2_with fail
  obtain ⟨W, hW⟩ : ∃ W, w.alloc (.cells #[.int .i64 3, .string x, .string y, .string z, .string t, .string f, .slice A1 ag.length c1, .int .i64 n, .slice A3 l3 c3, .slice A4 l4 c4, .int .i64 ln, .int .i64 cl] 38) = W := ⟨_, rfl⟩
  have hg : W.heap[w.heap.size]? = some (.cells #[.int .i64 3, .string x, .string y, .string z, .string t, .string f, .slice A1 ag.length c1, .int .i64 n, .slice A3 l3 c3, .slice A4 l4 c4, .int .i64 ln, .int .i64 cl] 38 (0, 0)) := by rw [← hW]; exact heap_alloc_new w _
  have HT : Hid (Turn [] w W) := Lib.hid (by rw [← hW]; exact (Turn.refl [] w).alloc _)
  rw [hW]
  have e0 : W.cell? ⟨w.heap.size, 0, none⟩ = some (.int .i64 3) := cell_of_row W _ 0 _ _ _ hg
  have e1 : W.cell? ⟨w.heap.size, 1, none⟩ = some (.string x) := cell_of_row W _ 1 _ _ _ hg
  have e2 : W.cell? ⟨w.heap.size, 2, none⟩ = some (.string y) := cell_of_row W _ 2 _ _ _ hg
  have e3 : W.cell? ⟨w.heap.size, 3, none⟩ = some (.string z) := cell_of_row W _ 3 _ _ _ hg
  have e4 : W.cell? ⟨w.heap.size, 4, none⟩ = some (.string t) := cell_of_row W _ 4 _ _ _ hg
  have e5 : W.cell? ⟨w.heap.size, 5, none⟩ = some (.string f) := cell_of_row W _ 5 _ _ _ hg
  have e6 : W.cell? ⟨w.heap.size, 6, none⟩ = some (.slice A1 ag.length c1) := cell_of_row W _ 6 _ _ _ hg
  have e7 : W.cell? ⟨w.heap.size, 7, none⟩ = some (.int .i64 n) := cell_of_row W _ 7 _ _ _ hg
  have hgl : w.heap.size < W.heap.size := (Array.getElem?_eq_some_iff.1 hg).1
  clear hW hg
  go_region_held3 (fun w' => w'.cell? ⟨w.heap.size, 5, none⟩ = some (.string f) ∧ w'.cell? ⟨w.heap.size, 6, none⟩ = some (.slice A1 ag.length c1))
    (first | exact ⟨e5, e6⟩ | go_keep)
    (first
      | (go_at_call 13; (with_reducible refine (HJ.out _ (by exact H1.out.turn' HT.out.drew)).mono ?_); rintro e w2 ⟨rfl, rfl⟩))
  go_wp2_with fail
  go_ret
  exact ⟨ret_str (by simp only [bs_append, bs_cat, List.flatMap_cons, List.flatMap_nil, List.append_assoc, List.append_nil]), HT.out.drew⟩

set_option maxHeartbeats 2000000 in
set_option maxRecDepth 100000 in
theorem one_4 (x y z t f : ByteArray) (ag : List ByteArray) (n : Int) (A1 A3 A4 : Option Addr) (c1 l3 c3 l4 c4 : Nat) (ln cl : Int) (w : World) (hs : x.size ≤ 1000 ∧ y.size ≤ 1000 ∧ z.size ≤ 1000 ∧ t.size ≤ 1000 ∧ f.size ≤ 1000) (ha : ag.length ≤ 1000 ∧ ∀ a ∈ ag, a.size ≤ 1000) (h1 : Sts w A1 ag) :
    Calls Tryz.prog 51 #[.agg #[.int .i64 4, .string x, .string y, .string z, .string t, .string f, .slice A1 ag.length c1, .int .i64 n, .slice A3 l3 c3, .slice A4 l4 c4, .int .i64 ln, .int .i64 cl]] w fun e w' => e = .returned (.string (cat [x, ⟨#[32, 61, 32, 40]⟩, t, ⟨#[41, 32]⟩, y, ⟨#[59]⟩])) ∧ Turn [] w w' := by
  obtain ⟨hx, hy, hz, ht, hf⟩ := hs
  have hjs : (jn ag ⟨#[44, 32]⟩).size ≤ 2000000 := jn_sz ag ha
  have HJ : Hid (∀ W, Sts W A1 ag → Calls Tryz.prog 13 #[.slice A1 ag.length c1, .string ⟨#[44, 32]⟩] W fun e w' => e = .returned (.string (jn ag ⟨#[44, 32]⟩)) ∧ W = w') := Lib.hid (fun W hW => rjoin_any A1 c1 ag ⟨#[44, 32]⟩ W hW (by omega) (by omega))
  obtain ⟨J, hJ⟩ : ∃ J, jn ag ⟨#[44, 32]⟩ = J := ⟨_, rfl⟩
  rw [hJ] at HJ hjs
  have HJJ := Lib.hid hJ
  have H1 := Lib.hid h1
  have b1 := add_run f ⟨#[40]⟩ (by rw [show (⟨#[40]⟩ : ByteArray).size = 1 from rfl]; omega)
  have b2 := add_run (f ++ ⟨#[40]⟩) J (by rw [size_app, show (⟨#[40]⟩ : ByteArray).size = 1 from rfl]; omega)
  have b3 := add_run (f ++ ⟨#[40]⟩ ++ J) ⟨#[41, 59]⟩ (by rw [size_app, size_app, show (⟨#[40]⟩ : ByteArray).size = 1 from rfl, show (⟨#[41, 59]⟩ : ByteArray).size = 2 from rfl]; omega)
  have d2 : x.size + 4 ≤ 9223372036854775807 := by omega
  have d3 : x.size + 4 + t.size ≤ 9223372036854775807 := by omega
  have d4 : x.size + 4 + t.size + 2 ≤ 9223372036854775807 := by omega
  have d5 : x.size + 4 + t.size + 2 + y.size ≤ 9223372036854775807 := by omega
  have d6 : x.size + 4 + t.size + 2 + y.size + 1 ≤ 9223372036854775807 := by omega
  clear hJ ha h1
  go_enter Tryz.func51, Tryz.ntmps51
  go_wp2_with fail
  obtain ⟨W, hW⟩ : ∃ W, w.alloc (.cells #[.int .i64 4, .string x, .string y, .string z, .string t, .string f, .slice A1 ag.length c1, .int .i64 n, .slice A3 l3 c3, .slice A4 l4 c4, .int .i64 ln, .int .i64 cl] 38) = W := ⟨_, rfl⟩
  have hg : W.heap[w.heap.size]? = some (.cells #[.int .i64 4, .string x, .string y, .string z, .string t, .string f, .slice A1 ag.length c1, .int .i64 n, .slice A3 l3 c3, .slice A4 l4 c4, .int .i64 ln, .int .i64 cl] 38 (0, 0)) := by rw [← hW]; exact heap_alloc_new w _
  have HT : Hid (Turn [] w W) := Lib.hid (by rw [← hW]; exact (Turn.refl [] w).alloc _)
  rw [hW]
  have e0 : W.cell? ⟨w.heap.size, 0, none⟩ = some (.int .i64 4) := cell_of_row W _ 0 _ _ _ hg
  have e1 : W.cell? ⟨w.heap.size, 1, none⟩ = some (.string x) := cell_of_row W _ 1 _ _ _ hg
  have e2 : W.cell? ⟨w.heap.size, 2, none⟩ = some (.string y) := cell_of_row W _ 2 _ _ _ hg
  have e3 : W.cell? ⟨w.heap.size, 3, none⟩ = some (.string z) := cell_of_row W _ 3 _ _ _ hg
  have e4 : W.cell? ⟨w.heap.size, 4, none⟩ = some (.string t) := cell_of_row W _ 4 _ _ _ hg
  have e5 : W.cell? ⟨w.heap.size, 5, none⟩ = some (.string f) := cell_of_row W _ 5 _ _ _ hg
  have e6 : W.cell? ⟨w.heap.size, 6, none⟩ = some (.slice A1 ag.length c1) := cell_of_row W _ 6 _ _ _ hg
  have e7 : W.cell? ⟨w.heap.size, 7, none⟩ = some (.int .i64 n) := cell_of_row W _ 7 _ _ _ hg
  have hgl : w.heap.size < W.heap.size := (Array.getElem?_eq_some_iff.1 hg).1
  clear hW hg
  go_region_held3 (fun w' => w'.cell? ⟨w.heap.size, 5, none⟩ = some (.string f) ∧ w'.cell? ⟨w.heap.size, 6, none⟩ = some (.slice A1 ag.length c1))
    (first | exact ⟨e5, e6⟩ | go_keep)
    (first
      | (go_at_call 13; (with_reducible refine (HJ.out _ (by exact H1.out.turn' HT.out.drew)).mono ?_); rintro e w2 ⟨rfl, rfl⟩))
  go_wp2_with fail
  go_ret
  exact ⟨ret_str (by simp only [bs_append, bs_cat, List.flatMap_cons, List.flatMap_nil, List.append_assoc, List.append_nil]), HT.out.drew⟩

end Go.Proofs.YtoekaehpcjhhaaaGreatDoor
