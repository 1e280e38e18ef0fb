/- The reference's one: rows of statements without blocks (printed by mkone.py). -/
import Derived.Test.YtoekaehpcjhhaaaGreatDoorOnx
set_option linter.unusedSimpArgs false
set_option linter.unusedVariables false
namespace Go.Proofs.YtoekaehpcjhhaaaGreatDoor
open Go.RowKit

set_option maxHeartbeats 2000000 in
set_option maxRecDepth 100000 in
theorem one_11 (x y z t f : ByteArray) (ag : List ByteArray) (n : Int) (A1 A3 A4 : Option Addr) (c1 l3 c3 l4 c4 : Nat) (ln cl : Int) (w : World) (hs : x.size ≤ 1000 ∧ y.size ≤ 1000 ∧ z.size ≤ 1000 ∧ t.size ≤ 1000 ∧ f.size ≤ 1000) (ha : ag.length ≤ 1000 ∧ ∀ a ∈ ag, a.size ≤ 1000) (h1 : Sts w A1 ag) :
    Calls Tryz.prog 51 #[.agg #[.int .i64 11, .string x, .string y, .string z, .string t, .string f, .slice A1 ag.length c1, .int .i64 n, .slice A3 l3 c3, .slice A4 l4 c4, .int .i64 ln, .int .i64 cl]] w fun e w' => e = .returned (.string (callT x [y, ⟨#[46]⟩, f] ag)) ∧ Turn [] w w' := by
  obtain ⟨hx, hy, hz, ht, hf⟩ := hs
  have hjs : (jn ag ⟨#[44, 32]⟩).size ≤ 2000000 := jn_sz ag ha
  have HJ : Hid (∀ W, Sts W A1 ag → Calls Tryz.prog 13 #[.slice A1 ag.length c1, .string ⟨#[44, 32]⟩] W fun e w' => e = .returned (.string (jn ag ⟨#[44, 32]⟩)) ∧ W = w') := Lib.hid (fun W hW => rjoin_any A1 c1 ag ⟨#[44, 32]⟩ W hW (by omega) (by omega))
  obtain ⟨J, hJ⟩ : ∃ J, jn ag ⟨#[44, 32]⟩ = J := ⟨_, rfl⟩
  rw [hJ] at HJ hjs
  have HJJ := Lib.hid hJ
  have H1 := Lib.hid h1
  have b1 := add_run f ⟨#[40]⟩ (by rw [show (⟨#[40]⟩ : ByteArray).size = 1 from rfl]; omega)
  have b2 := add_run (f ++ ⟨#[40]⟩) J (by rw [size_app, show (⟨#[40]⟩ : ByteArray).size = 1 from rfl]; omega)
  have b3 := add_run (f ++ ⟨#[40]⟩ ++ J) ⟨#[41, 59]⟩ (by rw [size_app, size_app, show (⟨#[40]⟩ : ByteArray).size = 1 from rfl, show (⟨#[41, 59]⟩ : ByteArray).size = 2 from rfl]; omega)
  have d0 := add_run (y) ⟨#[46]⟩ (by simp only [size_app, sz_lit, List.size_toArray, List.length_cons, List.length_nil]; omega)
  have d1 := add_run (y ++ ⟨#[46]⟩) (f ++ ⟨#[40]⟩ ++ J ++ ⟨#[41, 59]⟩) (by simp only [size_app, sz_lit, List.size_toArray, List.length_cons, List.length_nil]; omega)
  have HTO := Lib.hid (fun W => to_any x (y ++ ⟨#[46]⟩ ++ (f ++ ⟨#[40]⟩ ++ J ++ ⟨#[41, 59]⟩)) W (by omega) (by simp only [size_app, sz_lit, List.size_toArray, List.length_cons, List.length_nil]; omega))
  clear hJ ha h1
  go_enter Tryz.func51, Tryz.ntmps51
  go_wp2_with fail
  obtain ⟨W, hW⟩ : ∃ W, w.alloc (.cells #[.int .i64 11, .string x, .string y, .string z, .string t, .string f, .slice A1 ag.length c1, .int .i64 n, .slice A3 l3 c3, .slice A4 l4 c4, .int .i64 ln, .int .i64 cl] 38) = W := ⟨_, rfl⟩
  have hg : W.heap[w.heap.size]? = some (.cells #[.int .i64 11, .string x, .string y, .string z, .string t, .string f, .slice A1 ag.length c1, .int .i64 n, .slice A3 l3 c3, .slice A4 l4 c4, .int .i64 ln, .int .i64 cl] 38 (0, 0)) := by rw [← hW]; exact heap_alloc_new w _
  have HT : Hid (Turn [] w W) := Lib.hid (by rw [← hW]; exact (Turn.refl [] w).alloc _)
  rw [hW]
  have e0 : W.cell? ⟨w.heap.size, 0, none⟩ = some (.int .i64 11) := cell_of_row W _ 0 _ _ _ hg
  have e1 : W.cell? ⟨w.heap.size, 1, none⟩ = some (.string x) := cell_of_row W _ 1 _ _ _ hg
  have e2 : W.cell? ⟨w.heap.size, 2, none⟩ = some (.string y) := cell_of_row W _ 2 _ _ _ hg
  have e3 : W.cell? ⟨w.heap.size, 3, none⟩ = some (.string z) := cell_of_row W _ 3 _ _ _ hg
  have e4 : W.cell? ⟨w.heap.size, 4, none⟩ = some (.string t) := cell_of_row W _ 4 _ _ _ hg
  have e5 : W.cell? ⟨w.heap.size, 5, none⟩ = some (.string f) := cell_of_row W _ 5 _ _ _ hg
  have e6 : W.cell? ⟨w.heap.size, 6, none⟩ = some (.slice A1 ag.length c1) := cell_of_row W _ 6 _ _ _ hg
  have e7 : W.cell? ⟨w.heap.size, 7, none⟩ = some (.int .i64 n) := cell_of_row W _ 7 _ _ _ hg
  have hgl : w.heap.size < W.heap.size := (Array.getElem?_eq_some_iff.1 hg).1
  clear hW hg
  go_region_held3 (fun w' => w'.cell? ⟨w.heap.size, 5, none⟩ = some (.string f) ∧ w'.cell? ⟨w.heap.size, 6, none⟩ = some (.slice A1 ag.length c1))
    (first | exact ⟨e5, e6⟩ | go_keep)
    (first
      | (go_at_call 13; (with_reducible refine (HJ.out _ (by exact H1.out.turn' HT.out.drew)).mono ?_); rintro e w2 ⟨rfl, rfl⟩))
  go_wp2_with fail
  refine (HTO.out _).mono ?_
  rintro e w3 ⟨rfl, rfl⟩
  go_wp2_with fail
  go_ret
  exact ⟨ret_str (by rw [← HJJ.out]; simp only [callT, bs_append, bs_cat, List.flatMap_cons, List.flatMap_nil, List.append_assoc, List.append_nil]), HT.out.drew⟩

set_option maxHeartbeats 2000000 in
set_option maxRecDepth 100000 in
theorem one_12 (x y z t f : ByteArray) (ag : List ByteArray) (n : Int) (A1 A3 A4 : Option Addr) (c1 l3 c3 l4 c4 : Nat) (ln cl : Int) (w : World) (hs : x.size ≤ 1000 ∧ y.size ≤ 1000 ∧ z.size ≤ 1000 ∧ t.size ≤ 1000 ∧ f.size ≤ 1000) (ha : ag.length ≤ 1000 ∧ ∀ a ∈ ag, a.size ≤ 1000) (h1 : Sts w A1 ag) :
    Calls Tryz.prog 51 #[.agg #[.int .i64 12, .string x, .string y, .string z, .string t, .string f, .slice A1 ag.length c1, .int .i64 n, .slice A3 l3 c3, .slice A4 l4 c4, .int .i64 ln, .int .i64 cl]] w fun e w' => e = .returned (.string (callT x [y, ⟨#[46]⟩, t, ⟨#[58, 58]⟩, f] ag)) ∧ Turn [] w w' := by
  obtain ⟨hx, hy, hz, ht, hf⟩ := hs
  have hjs : (jn ag ⟨#[44, 32]⟩).size ≤ 2000000 := jn_sz ag ha
  have HJ : Hid (∀ W, Sts W A1 ag → Calls Tryz.prog 13 #[.slice A1 ag.length c1, .string ⟨#[44, 32]⟩] W fun e w' => e = .returned (.string (jn ag ⟨#[44, 32]⟩)) ∧ W = w') := Lib.hid (fun W hW => rjoin_any A1 c1 ag ⟨#[44, 32]⟩ W hW (by omega) (by omega))
  obtain ⟨J, hJ⟩ : ∃ J, jn ag ⟨#[44, 32]⟩ = J := ⟨_, rfl⟩
  rw [hJ] at HJ hjs
  have HJJ := Lib.hid hJ
  have H1 := Lib.hid h1
  have b1 := add_run f ⟨#[40]⟩ (by rw [show (⟨#[40]⟩ : ByteArray).size = 1 from rfl]; omega)
  have b2 := add_run (f ++ ⟨#[40]⟩) J (by rw [size_app, show (⟨#[40]⟩ : ByteArray).size = 1 from rfl]; omega)
  have b3 := add_run (f ++ ⟨#[40]⟩ ++ J) ⟨#[41, 59]⟩ (by rw [size_app, size_app, show (⟨#[40]⟩ : ByteArray).size = 1 from rfl, show (⟨#[41, 59]⟩ : ByteArray).size = 2 from rfl]; omega)
  have d0 := add_run (y) ⟨#[46]⟩ (by simp only [size_app, sz_lit, List.size_toArray, List.length_cons, List.length_nil]; omega)
  have d1 := add_run (y ++ ⟨#[46]⟩) t (by simp only [size_app, sz_lit, List.size_toArray, List.length_cons, List.length_nil]; omega)
  have d2 := add_run (y ++ ⟨#[46]⟩ ++ t) ⟨#[58, 58]⟩ (by simp only [size_app, sz_lit, List.size_toArray, List.length_cons, List.length_nil]; omega)
  have d3 := add_run (y ++ ⟨#[46]⟩ ++ t ++ ⟨#[58, 58]⟩) (f ++ ⟨#[40]⟩ ++ J ++ ⟨#[41, 59]⟩) (by simp only [size_app, sz_lit, List.size_toArray, List.length_cons, List.length_nil]; omega)
  have HTO := Lib.hid (fun W => to_any x (y ++ ⟨#[46]⟩ ++ t ++ ⟨#[58, 58]⟩ ++ (f ++ ⟨#[40]⟩ ++ J ++ ⟨#[41, 59]⟩)) W (by omega) (by simp only [size_app, sz_lit, List.size_toArray, List.length_cons, List.length_nil]; omega))
  clear hJ ha h1
  go_enter Tryz.func51, Tryz.ntmps51
  go_wp2_with fail
  obtain ⟨W, hW⟩ : ∃ W, w.alloc (.cells #[.int .i64 12, .string x, .string y, .string z, .string t, .string f, .slice A1 ag.length c1, .int .i64 n, .slice A3 l3 c3, .slice A4 l4 c4, .int .i64 ln, .int .i64 cl] 38) = W := ⟨_, rfl⟩
  have hg : W.heap[w.heap.size]? = some (.cells #[.int .i64 12, .string x, .string y, .string z, .string t, .string f, .slice A1 ag.length c1, .int .i64 n, .slice A3 l3 c3, .slice A4 l4 c4, .int .i64 ln, .int .i64 cl] 38 (0, 0)) := by rw [← hW]; exact heap_alloc_new w _
  have HT : Hid (Turn [] w W) := Lib.hid (by rw [← hW]; exact (Turn.refl [] w).alloc _)
  rw [hW]
  have e0 : W.cell? ⟨w.heap.size, 0, none⟩ = some (.int .i64 12) := cell_of_row W _ 0 _ _ _ hg
  have e1 : W.cell? ⟨w.heap.size, 1, none⟩ = some (.string x) := cell_of_row W _ 1 _ _ _ hg
  have e2 : W.cell? ⟨w.heap.size, 2, none⟩ = some (.string y) := cell_of_row W _ 2 _ _ _ hg
  have e3 : W.cell? ⟨w.heap.size, 3, none⟩ = some (.string z) := cell_of_row W _ 3 _ _ _ hg
  have e4 : W.cell? ⟨w.heap.size, 4, none⟩ = some (.string t) := cell_of_row W _ 4 _ _ _ hg
  have e5 : W.cell? ⟨w.heap.size, 5, none⟩ = some (.string f) := cell_of_row W _ 5 _ _ _ hg
  have e6 : W.cell? ⟨w.heap.size, 6, none⟩ = some (.slice A1 ag.length c1) := cell_of_row W _ 6 _ _ _ hg
  have e7 : W.cell? ⟨w.heap.size, 7, none⟩ = some (.int .i64 n) := cell_of_row W _ 7 _ _ _ hg
  have hgl : w.heap.size < W.heap.size := (Array.getElem?_eq_some_iff.1 hg).1
  clear hW hg
  go_region_held3 (fun w' => w'.cell? ⟨w.heap.size, 5, none⟩ = some (.string f) ∧ w'.cell? ⟨w.heap.size, 6, none⟩ = some (.slice A1 ag.length c1))
    (first | exact ⟨e5, e6⟩ | go_keep)
    (first
      | (go_at_call 13; (with_reducible refine (HJ.out _ (by exact H1.out.turn' HT.out.drew)).mono ?_); rintro e w2 ⟨rfl, rfl⟩))
  go_wp2_with fail
  refine (HTO.out _).mono ?_
  rintro e w3 ⟨rfl, rfl⟩
  go_wp2_with fail
  go_ret
  exact ⟨ret_str (by rw [← HJJ.out]; simp only [callT, bs_append, bs_cat, List.flatMap_cons, List.flatMap_nil, List.append_assoc, List.append_nil]), HT.out.drew⟩

set_option maxHeartbeats 2000000 in
set_option maxRecDepth 100000 in
theorem one_13 (x y z t f : ByteArray) (ag : List ByteArray) (n : Int) (A1 A3 A4 : Option Addr) (c1 l3 c3 l4 c4 : Nat) (ln cl : Int) (w : World) (hs : x.size ≤ 1000 ∧ y.size ≤ 1000 ∧ z.size ≤ 1000 ∧ t.size ≤ 1000 ∧ f.size ≤ 1000) (ha : ag.length ≤ 1000 ∧ ∀ a ∈ ag, a.size ≤ 1000) (h1 : Sts w A1 ag) :
    Calls Tryz.prog 51 #[.agg #[.int .i64 13, .string x, .string y, .string z, .string t, .string f, .slice A1 ag.length c1, .int .i64 n, .slice A3 l3 c3, .slice A4 l4 c4, .int .i64 ln, .int .i64 cl]] w fun e w' => e = .returned (.string (callT x [t, ⟨#[58, 58]⟩, f] ag)) ∧ Turn [] w w' := by
  obtain ⟨hx, hy, hz, ht, hf⟩ := hs
  have hjs : (jn ag ⟨#[44, 32]⟩).size ≤ 2000000 := jn_sz ag ha
  have HJ : Hid (∀ W, Sts W A1 ag → Calls Tryz.prog 13 #[.slice A1 ag.length c1, .string ⟨#[44, 32]⟩] W fun e w' => e = .returned (.string (jn ag ⟨#[44, 32]⟩)) ∧ W = w') := Lib.hid (fun W hW => rjoin_any A1 c1 ag ⟨#[44, 32]⟩ W hW (by omega) (by omega))
  obtain ⟨J, hJ⟩ : ∃ J, jn ag ⟨#[44, 32]⟩ = J := ⟨_, rfl⟩
  rw [hJ] at HJ hjs
  have HJJ := Lib.hid hJ
  have H1 := Lib.hid h1
  have b1 := add_run f ⟨#[40]⟩ (by rw [show (⟨#[40]⟩ : ByteArray).size = 1 from rfl]; omega)
  have b2 := add_run (f ++ ⟨#[40]⟩) J (by rw [size_app, show (⟨#[40]⟩ : ByteArray).size = 1 from rfl]; omega)
  have b3 := add_run (f ++ ⟨#[40]⟩ ++ J) ⟨#[41, 59]⟩ (by rw [size_app, size_app, show (⟨#[40]⟩ : ByteArray).size = 1 from rfl, show (⟨#[41, 59]⟩ : ByteArray).size = 2 from rfl]; omega)
  have d0 := add_run (t) ⟨#[58, 58]⟩ (by simp only [size_app, sz_lit, List.size_toArray, List.length_cons, List.length_nil]; omega)
  have d1 := add_run (t ++ ⟨#[58, 58]⟩) (f ++ ⟨#[40]⟩ ++ J ++ ⟨#[41, 59]⟩) (by simp only [size_app, sz_lit, List.size_toArray, List.length_cons, List.length_nil]; omega)
  have HTO := Lib.hid (fun W => to_any x (t ++ ⟨#[58, 58]⟩ ++ (f ++ ⟨#[40]⟩ ++ J ++ ⟨#[41, 59]⟩)) W (by omega) (by simp only [size_app, sz_lit, List.size_toArray, List.length_cons, List.length_nil]; omega))
  clear hJ ha h1
  go_enter Tryz.func51, Tryz.ntmps51
  go_wp2_with fail
  obtain ⟨W, hW⟩ : ∃ W, w.alloc (.cells #[.int .i64 13, .string x, .string y, .string z, .string t, .string f, .slice A1 ag.length c1, .int .i64 n, .slice A3 l3 c3, .slice A4 l4 c4, .int .i64 ln, .int .i64 cl] 38) = W := ⟨_, rfl⟩
  have hg : W.heap[w.heap.size]? = some (.cells #[.int .i64 13, .string x, .string y, .string z, .string t, .string f, .slice A1 ag.length c1, .int .i64 n, .slice A3 l3 c3, .slice A4 l4 c4, .int .i64 ln, .int .i64 cl] 38 (0, 0)) := by rw [← hW]; exact heap_alloc_new w _
  have HT : Hid (Turn [] w W) := Lib.hid (by rw [← hW]; exact (Turn.refl [] w).alloc _)
  rw [hW]
  have e0 : W.cell? ⟨w.heap.size, 0, none⟩ = some (.int .i64 13) := cell_of_row W _ 0 _ _ _ hg
  have e1 : W.cell? ⟨w.heap.size, 1, none⟩ = some (.string x) := cell_of_row W _ 1 _ _ _ hg
  have e2 : W.cell? ⟨w.heap.size, 2, none⟩ = some (.string y) := cell_of_row W _ 2 _ _ _ hg
  have e3 : W.cell? ⟨w.heap.size, 3, none⟩ = some (.string z) := cell_of_row W _ 3 _ _ _ hg
  have e4 : W.cell? ⟨w.heap.size, 4, none⟩ = some (.string t) := cell_of_row W _ 4 _ _ _ hg
  have e5 : W.cell? ⟨w.heap.size, 5, none⟩ = some (.string f) := cell_of_row W _ 5 _ _ _ hg
  have e6 : W.cell? ⟨w.heap.size, 6, none⟩ = some (.slice A1 ag.length c1) := cell_of_row W _ 6 _ _ _ hg
  have e7 : W.cell? ⟨w.heap.size, 7, none⟩ = some (.int .i64 n) := cell_of_row W _ 7 _ _ _ hg
  have hgl : w.heap.size < W.heap.size := (Array.getElem?_eq_some_iff.1 hg).1
  clear hW hg
  go_region_held3 (fun w' => w'.cell? ⟨w.heap.size, 5, none⟩ = some (.string f) ∧ w'.cell? ⟨w.heap.size, 6, none⟩ = some (.slice A1 ag.length c1))
    (first | exact ⟨e5, e6⟩ | go_keep)
    (first
      | (go_at_call 13; (with_reducible refine (HJ.out _ (by exact H1.out.turn' HT.out.drew)).mono ?_); rintro e w2 ⟨rfl, rfl⟩))
  go_wp2_with fail
  refine (HTO.out _).mono ?_
  rintro e w3 ⟨rfl, rfl⟩
  go_wp2_with fail
  go_ret
  exact ⟨ret_str (by rw [← HJJ.out]; simp only [callT, bs_append, bs_cat, List.flatMap_cons, List.flatMap_nil, List.append_assoc, List.append_nil]), HT.out.drew⟩

set_option maxHeartbeats 2000000 in
set_option maxRecDepth 100000 in
theorem one_14 (x y z t f : ByteArray) (ag : List ByteArray) (n : Int) (A1 A3 A4 : Option Addr) (c1 l3 c3 l4 c4 : Nat) (ln cl : Int) (w : World) (hs : x.size ≤ 1000 ∧ y.size ≤ 1000 ∧ z.size ≤ 1000 ∧ t.size ≤ 1000 ∧ f.size ≤ 1000) (ha : ag.length ≤ 1000 ∧ ∀ a ∈ ag, a.size ≤ 1000) (h1 : Sts w A1 ag) (hn : -9223372036854775808 ≤ n ∧ n ≤ 9223372036854775807) :
    Calls Tryz.prog 51 #[.agg #[.int .i64 14, .string x, .string y, .string z, .string t, .string f, .slice A1 ag.length c1, .int .i64 n, .slice A3 l3 c3, .slice A4 l4 c4, .int .i64 ln, .int .i64 cl]] w fun e w' => e = .returned (.string (cat [x, ⟨#[32, 61, 32]⟩, mk (Lib.itoa n), ⟨#[59]⟩])) ∧ Turn [] w w' := by
  obtain ⟨hx, hy, hz, ht, hf⟩ := hs
  have hjs : (jn ag ⟨#[44, 32]⟩).size ≤ 2000000 := jn_sz ag ha
  have HJ : Hid (∀ W, Sts W A1 ag → Calls Tryz.prog 13 #[.slice A1 ag.length c1, .string ⟨#[44, 32]⟩] W fun e w' => e = .returned (.string (jn ag ⟨#[44, 32]⟩)) ∧ W = w') := Lib.hid (fun W hW => rjoin_any A1 c1 ag ⟨#[44, 32]⟩ W hW (by omega) (by omega))
  obtain ⟨J, hJ⟩ : ∃ J, jn ag ⟨#[44, 32]⟩ = J := ⟨_, rfl⟩
  rw [hJ] at HJ hjs
  have HJJ := Lib.hid hJ
  have H1 := Lib.hid h1
  have b1 := add_run f ⟨#[40]⟩ (by rw [show (⟨#[40]⟩ : ByteArray).size = 1 from rfl]; omega)
  have b2 := add_run (f ++ ⟨#[40]⟩) J (by rw [size_app, show (⟨#[40]⟩ : ByteArray).size = 1 from rfl]; omega)
  have b3 := add_run (f ++ ⟨#[40]⟩ ++ J) ⟨#[41, 59]⟩ (by rw [size_app, size_app, show (⟨#[40]⟩ : ByteArray).size = 1 from rfl, show (⟨#[41, 59]⟩ : ByteArray).size = 2 from rfl]; omega)
  have hi : (mk (Lib.itoa n)).size ≤ 21 := by rw [size_bs, bs_mk]; exact Lib.itoa_length_le n hn.1 hn.2
  have d0 := add_run (x) ⟨#[32, 61, 32]⟩ (by simp only [size_app, sz_lit, List.size_toArray, List.length_cons, List.length_nil]; omega)
  have d1 := add_run (x ++ ⟨#[32, 61, 32]⟩) (mk (Lib.itoa n)) (by simp only [size_app, sz_lit, List.size_toArray, List.length_cons, List.length_nil]; omega)
  have d2 := add_run (x ++ ⟨#[32, 61, 32]⟩ ++ (mk (Lib.itoa n))) ⟨#[59]⟩ (by simp only [size_app, sz_lit, List.size_toArray, List.length_cons, List.length_nil]; omega)
  have HD := Lib.hid (fun W => digits_any n W hn.1 hn.2)
  clear hJ ha h1
  go_enter Tryz.func51, Tryz.ntmps51
  go_wp2_with fail
  obtain ⟨W, hW⟩ : ∃ W, w.alloc (.cells #[.int .i64 14, .string x, .string y, .string z, .string t, .string f, .slice A1 ag.length c1, .int .i64 n, .slice A3 l3 c3, .slice A4 l4 c4, .int .i64 ln, .int .i64 cl] 38) = W := ⟨_, rfl⟩
  have hg : W.heap[w.heap.size]? = some (.cells #[.int .i64 14, .string x, .string y, .string z, .string t, .string f, .slice A1 ag.length c1, .int .i64 n, .slice A3 l3 c3, .slice A4 l4 c4, .int .i64 ln, .int .i64 cl] 38 (0, 0)) := by rw [← hW]; exact heap_alloc_new w _
  have HT : Hid (Turn [] w W) := Lib.hid (by rw [← hW]; exact (Turn.refl [] w).alloc _)
  rw [hW]
  have e0 : W.cell? ⟨w.heap.size, 0, none⟩ = some (.int .i64 14) := cell_of_row W _ 0 _ _ _ hg
  have e1 : W.cell? ⟨w.heap.size, 1, none⟩ = some (.string x) := cell_of_row W _ 1 _ _ _ hg
  have e2 : W.cell? ⟨w.heap.size, 2, none⟩ = some (.string y) := cell_of_row W _ 2 _ _ _ hg
  have e3 : W.cell? ⟨w.heap.size, 3, none⟩ = some (.string z) := cell_of_row W _ 3 _ _ _ hg
  have e4 : W.cell? ⟨w.heap.size, 4, none⟩ = some (.string t) := cell_of_row W _ 4 _ _ _ hg
  have e5 : W.cell? ⟨w.heap.size, 5, none⟩ = some (.string f) := cell_of_row W _ 5 _ _ _ hg
  have e6 : W.cell? ⟨w.heap.size, 6, none⟩ = some (.slice A1 ag.length c1) := cell_of_row W _ 6 _ _ _ hg
  have e7 : W.cell? ⟨w.heap.size, 7, none⟩ = some (.int .i64 n) := cell_of_row W _ 7 _ _ _ hg
  have hgl : w.heap.size < W.heap.size := (Array.getElem?_eq_some_iff.1 hg).1
  clear hW hg
  go_region_held3 (fun w' => w'.cell? ⟨w.heap.size, 5, none⟩ = some (.string f) ∧ w'.cell? ⟨w.heap.size, 6, none⟩ = some (.slice A1 ag.length c1))
    (first | exact ⟨e5, e6⟩ | go_keep)
    (first
      | (go_at_call 13; (with_reducible refine (HJ.out _ (by exact H1.out.turn' HT.out.drew)).mono ?_); rintro e w2 ⟨rfl, rfl⟩))
  go_wp2_with fail
  go_region_held3 (fun w' => w'.cell? ⟨w.heap.size, 1, none⟩ = some (.string x) ∧ w'.cell? ⟨w.heap.size, 7, none⟩ = some (.int .i64 n))
    (first | exact ⟨e1, e7⟩ | exact ⟨k1, k7⟩ | go_keep)
    (first
      | (go_at_call 71; (with_reducible refine (HD.out _).mono ?_); rintro e w3 ⟨rfl, t3⟩
         have k1 : w3.cell? ⟨w.heap.size, 1, none⟩ = some (.string x) := (t3.cell (p := ⟨w.heap.size, 1, none⟩) hgl (by simp)).trans e1
         have k7 : w3.cell? ⟨w.heap.size, 7, none⟩ = some (.int .i64 n) := (t3.cell (p := ⟨w.heap.size, 7, none⟩) hgl (by simp)).trans e7
         have HT3 := Lib.hid t3
         clear t3))
  go_wp2_with fail
  go_ret
  exact ⟨ret_str (by simp only [bs_append, bs_cat, List.flatMap_cons, List.flatMap_nil, List.append_assoc, List.append_nil]), HT.out.drew.drew.trans' HT3.out⟩

set_option maxHeartbeats 2000000 in
set_option maxRecDepth 100000 in
theorem one_22 (x y z t f : ByteArray) (ag : List ByteArray) (n : Int) (A1 A3 A4 : Option Addr) (c1 l3 c3 l4 c4 : Nat) (ln cl : Int) (w : World) (hs : x.size ≤ 1000 ∧ y.size ≤ 1000 ∧ z.size ≤ 1000 ∧ t.size ≤ 1000 ∧ f.size ≤ 1000) (ha : ag.length ≤ 1000 ∧ ∀ a ∈ ag, a.size ≤ 1000) (h1 : Sts w A1 ag) :
    Calls Tryz.prog 51 #[.agg #[.int .i64 22, .string x, .string y, .string z, .string t, .string f, .slice A1 ag.length c1, .int .i64 n, .slice A3 l3 c3, .slice A4 l4 c4, .int .i64 ln, .int .i64 cl]] w fun e w' => e = .returned (.string (retT x)) ∧ Turn [] w w' := by
  by_cases h0 : x.size = 0
  · obtain rfl := bytes_eq h0
    obtain ⟨hx, hy, hz, ht, hf⟩ := hs
    have hjs : (jn ag ⟨#[44, 32]⟩).size ≤ 2000000 := jn_sz ag ha
    have HJ : Hid (∀ W, Sts W A1 ag → Calls Tryz.prog 13 #[.slice A1 ag.length c1, .string ⟨#[44, 32]⟩] W fun e w' => e = .returned (.string (jn ag ⟨#[44, 32]⟩)) ∧ W = w') := Lib.hid (fun W hW => rjoin_any A1 c1 ag ⟨#[44, 32]⟩ W hW (by omega) (by omega))
    obtain ⟨J, hJ⟩ : ∃ J, jn ag ⟨#[44, 32]⟩ = J := ⟨_, rfl⟩
    rw [hJ] at HJ hjs
    have HJJ := Lib.hid hJ
    have H1 := Lib.hid h1
    have b1 := add_run f ⟨#[40]⟩ (by rw [show (⟨#[40]⟩ : ByteArray).size = 1 from rfl]; omega)
    have b2 := add_run (f ++ ⟨#[40]⟩) J (by rw [size_app, show (⟨#[40]⟩ : ByteArray).size = 1 from rfl]; omega)
    have b3 := add_run (f ++ ⟨#[40]⟩ ++ J) ⟨#[41, 59]⟩ (by rw [size_app, size_app, show (⟨#[40]⟩ : ByteArray).size = 1 from rfl, show (⟨#[41, 59]⟩ : ByteArray).size = 2 from rfl]; omega)
    clear h0
    clear hJ ha h1
    go_enter Tryz.func51, Tryz.ntmps51
    go_wp2_with fail
    obtain ⟨W, hW⟩ : ∃ W, w.alloc (.cells #[.int .i64 22, .string ⟨#[]⟩, .string y, .string z, .string t, .string f, .slice A1 ag.length c1, .int .i64 n, .slice A3 l3 c3, .slice A4 l4 c4, .int .i64 ln, .int .i64 cl] 38) = W := ⟨_, rfl⟩
    have hg : W.heap[w.heap.size]? = some (.cells #[.int .i64 22, .string ⟨#[]⟩, .string y, .string z, .string t, .string f, .slice A1 ag.length c1, .int .i64 n, .slice A3 l3 c3, .slice A4 l4 c4, .int .i64 ln, .int .i64 cl] 38 (0, 0)) := by rw [← hW]; exact heap_alloc_new w _
    have HT : Hid (Turn [] w W) := Lib.hid (by rw [← hW]; exact (Turn.refl [] w).alloc _)
    rw [hW]
    have e0 : W.cell? ⟨w.heap.size, 0, none⟩ = some (.int .i64 22) := cell_of_row W _ 0 _ _ _ hg
    have e1 : W.cell? ⟨w.heap.size, 1, none⟩ = some (.string ⟨#[]⟩) := cell_of_row W _ 1 _ _ _ hg
    have e2 : W.cell? ⟨w.heap.size, 2, none⟩ = some (.string y) := cell_of_row W _ 2 _ _ _ hg
    have e3 : W.cell? ⟨w.heap.size, 3, none⟩ = some (.string z) := cell_of_row W _ 3 _ _ _ hg
    have e4 : W.cell? ⟨w.heap.size, 4, none⟩ = some (.string t) := cell_of_row W _ 4 _ _ _ hg
    have e5 : W.cell? ⟨w.heap.size, 5, none⟩ = some (.string f) := cell_of_row W _ 5 _ _ _ hg
    have e6 : W.cell? ⟨w.heap.size, 6, none⟩ = some (.slice A1 ag.length c1) := cell_of_row W _ 6 _ _ _ hg
    have e7 : W.cell? ⟨w.heap.size, 7, none⟩ = some (.int .i64 n) := cell_of_row W _ 7 _ _ _ hg
    have hgl : w.heap.size < W.heap.size := (Array.getElem?_eq_some_iff.1 hg).1
    clear hW hg
    go_region_held3 (fun w' => w'.cell? ⟨w.heap.size, 5, none⟩ = some (.string f) ∧ w'.cell? ⟨w.heap.size, 6, none⟩ = some (.slice A1 ag.length c1))
      (first | exact ⟨e5, e6⟩ | go_keep)
      (first
        | (go_at_call 13; (with_reducible refine (HJ.out _ (by exact H1.out.turn' HT.out.drew)).mono ?_); rintro e w2 ⟨rfl, rfl⟩))
    go_wp2_with fail
    go_ret
    exact ⟨ret_str (by rw [show retT ⟨#[]⟩ = cat [⟨#[114, 101, 116, 117, 114, 110, 59]⟩] from rfl]; simp only [bs_cat, List.flatMap_cons, List.flatMap_nil, List.append_nil]), HT.out.drew⟩
  · obtain ⟨hx, hy, hz, ht, hf⟩ := hs
    have hjs : (jn ag ⟨#[44, 32]⟩).size ≤ 2000000 := jn_sz ag ha
    have HJ : Hid (∀ W, Sts W A1 ag → Calls Tryz.prog 13 #[.slice A1 ag.length c1, .string ⟨#[44, 32]⟩] W fun e w' => e = .returned (.string (jn ag ⟨#[44, 32]⟩)) ∧ W = w') := Lib.hid (fun W hW => rjoin_any A1 c1 ag ⟨#[44, 32]⟩ W hW (by omega) (by omega))
    obtain ⟨J, hJ⟩ : ∃ J, jn ag ⟨#[44, 32]⟩ = J := ⟨_, rfl⟩
    rw [hJ] at HJ hjs
    have HJJ := Lib.hid hJ
    have H1 := Lib.hid h1
    have b1 := add_run f ⟨#[40]⟩ (by rw [show (⟨#[40]⟩ : ByteArray).size = 1 from rfl]; omega)
    have b2 := add_run (f ++ ⟨#[40]⟩) J (by rw [size_app, show (⟨#[40]⟩ : ByteArray).size = 1 from rfl]; omega)
    have b3 := add_run (f ++ ⟨#[40]⟩ ++ J) ⟨#[41, 59]⟩ (by rw [size_app, size_app, show (⟨#[40]⟩ : ByteArray).size = 1 from rfl, show (⟨#[41, 59]⟩ : ByteArray).size = 2 from rfl]; omega)
    have d0 := add_run (⟨#[114, 101, 116, 117, 114, 110, 32]⟩) x (by simp only [size_app, sz_lit, List.size_toArray, List.length_cons, List.length_nil]; omega)
    have d1 := add_run (⟨#[114, 101, 116, 117, 114, 110, 32]⟩ ++ x) ⟨#[59]⟩ (by simp only [size_app, sz_lit, List.size_toArray, List.length_cons, List.length_nil]; omega)
    have hb := bytes_ne (fun e : x = ⟨#[]⟩ => h0 (by rw [e]; rfl))
    have H0 := Lib.hid h0
    clear h0
    clear hJ ha h1
    go_enter Tryz.func51, Tryz.ntmps51
    go_wp2_with fail
    obtain ⟨W, hW⟩ : ∃ W, w.alloc (.cells #[.int .i64 22, .string x, .string y, .string z, .string t, .string f, .slice A1 ag.length c1, .int .i64 n, .slice A3 l3 c3, .slice A4 l4 c4, .int .i64 ln, .int .i64 cl] 38) = W := ⟨_, rfl⟩
    have hg : W.heap[w.heap.size]? = some (.cells #[.int .i64 22, .string x, .string y, .string z, .string t, .string f, .slice A1 ag.length c1, .int .i64 n, .slice A3 l3 c3, .slice A4 l4 c4, .int .i64 ln, .int .i64 cl] 38 (0, 0)) := by rw [← hW]; exact heap_alloc_new w _
    have HT : Hid (Turn [] w W) := Lib.hid (by rw [← hW]; exact (Turn.refl [] w).alloc _)
    rw [hW]
    have e0 : W.cell? ⟨w.heap.size, 0, none⟩ = some (.int .i64 22) := cell_of_row W _ 0 _ _ _ hg
    have e1 : W.cell? ⟨w.heap.size, 1, none⟩ = some (.string x) := cell_of_row W _ 1 _ _ _ hg
    have e2 : W.cell? ⟨w.heap.size, 2, none⟩ = some (.string y) := cell_of_row W _ 2 _ _ _ hg
    have e3 : W.cell? ⟨w.heap.size, 3, none⟩ = some (.string z) := cell_of_row W _ 3 _ _ _ hg
    have e4 : W.cell? ⟨w.heap.size, 4, none⟩ = some (.string t) := cell_of_row W _ 4 _ _ _ hg
    have e5 : W.cell? ⟨w.heap.size, 5, none⟩ = some (.string f) := cell_of_row W _ 5 _ _ _ hg
    have e6 : W.cell? ⟨w.heap.size, 6, none⟩ = some (.slice A1 ag.length c1) := cell_of_row W _ 6 _ _ _ hg
    have e7 : W.cell? ⟨w.heap.size, 7, none⟩ = some (.int .i64 n) := cell_of_row W _ 7 _ _ _ hg
    have hgl : w.heap.size < W.heap.size := (Array.getElem?_eq_some_iff.1 hg).1
    clear hW hg
    go_region_held3 (fun w' => w'.cell? ⟨w.heap.size, 5, none⟩ = some (.string f) ∧ w'.cell? ⟨w.heap.size, 6, none⟩ = some (.slice A1 ag.length c1))
      (first | exact ⟨e5, e6⟩ | go_keep)
      (first
        | (go_at_call 13; (with_reducible refine (HJ.out _ (by exact H1.out.turn' HT.out.drew)).mono ?_); rintro e w2 ⟨rfl, rfl⟩))
    go_wp2_with fail
    go_ret
    exact ⟨ret_str (by rw [retT, if_neg H0.out]; simp only [bs_append, bs_cat, List.flatMap_cons, List.flatMap_nil, List.append_assoc, List.append_nil]), HT.out.drew⟩

set_option maxHeartbeats 2000000 in
set_option maxRecDepth 100000 in
theorem one_none (d : Int) (x y z t f : ByteArray) (ag : List ByteArray) (n : Int) (A1 A3 A4 : Option Addr) (c1 l3 c3 l4 c4 : Nat) (ln cl : Int) (w : World) (hs : x.size ≤ 1000 ∧ y.size ≤ 1000 ∧ z.size ≤ 1000 ∧ t.size ≤ 1000 ∧ f.size ≤ 1000) (ha : ag.length ≤ 1000 ∧ ∀ a ∈ ag, a.size ≤ 1000) (h1 : Sts w A1 ag) (hd : ∀ k ∈ [0, 1, 2, 3, 4, 5, 6, 7, 8, 9, 10, 11, 12, 13, 14, 15, 16, 17, 18, 22], d ≠ (k : Int)) :
    Calls Tryz.prog 51 #[.agg #[.int .i64 d, .string x, .string y, .string z, .string t, .string f, .slice A1 ag.length c1, .int .i64 n, .slice A3 l3 c3, .slice A4 l4 c4, .int .i64 ln, .int .i64 cl]] w fun e w' => e = .returned (.string (⟨#[]⟩)) ∧ Turn [] w w' := by
  obtain ⟨hx, hy, hz, ht, hf⟩ := hs
  have hjs : (jn ag ⟨#[44, 32]⟩).size ≤ 2000000 := jn_sz ag ha
  have HJ : Hid (∀ W, Sts W A1 ag → Calls Tryz.prog 13 #[.slice A1 ag.length c1, .string ⟨#[44, 32]⟩] W fun e w' => e = .returned (.string (jn ag ⟨#[44, 32]⟩)) ∧ W = w') := Lib.hid (fun W hW => rjoin_any A1 c1 ag ⟨#[44, 32]⟩ W hW (by omega) (by omega))
  obtain ⟨J, hJ⟩ : ∃ J, jn ag ⟨#[44, 32]⟩ = J := ⟨_, rfl⟩
  rw [hJ] at HJ hjs
  have HJJ := Lib.hid hJ
  have H1 := Lib.hid h1
  have b1 := add_run f ⟨#[40]⟩ (by rw [show (⟨#[40]⟩ : ByteArray).size = 1 from rfl]; omega)
  have b2 := add_run (f ++ ⟨#[40]⟩) J (by rw [size_app, show (⟨#[40]⟩ : ByteArray).size = 1 from rfl]; omega)
  have b3 := add_run (f ++ ⟨#[40]⟩ ++ J) ⟨#[41, 59]⟩ (by rw [size_app, size_app, show (⟨#[40]⟩ : ByteArray).size = 1 from rfl, show (⟨#[41, 59]⟩ : ByteArray).size = 2 from rfl]; omega)
  have q0 : ¬ d = 0 := hd 0 (by decide)
  have q1 : ¬ d = 1 := hd 1 (by decide)
  have q2 : ¬ d = 2 := hd 2 (by decide)
  have q3 : ¬ d = 3 := hd 3 (by decide)
  have q4 : ¬ d = 4 := hd 4 (by decide)
  have q5 : ¬ d = 5 := hd 5 (by decide)
  have q6 : ¬ d = 6 := hd 6 (by decide)
  have q7 : ¬ d = 7 := hd 7 (by decide)
  have q8 : ¬ d = 8 := hd 8 (by decide)
  have q9 : ¬ d = 9 := hd 9 (by decide)
  have q10 : ¬ d = 10 := hd 10 (by decide)
  have q11 : ¬ d = 11 := hd 11 (by decide)
  have q12 : ¬ d = 12 := hd 12 (by decide)
  have q13 : ¬ d = 13 := hd 13 (by decide)
  have q14 : ¬ d = 14 := hd 14 (by decide)
  have q15 : ¬ d = 15 := hd 15 (by decide)
  have q16 : ¬ d = 16 := hd 16 (by decide)
  have q17 : ¬ d = 17 := hd 17 (by decide)
  have q18 : ¬ d = 18 := hd 18 (by decide)
  have q22 : ¬ d = 22 := hd 22 (by decide)
  clear hd
  clear hJ ha h1
  go_enter Tryz.func51, Tryz.ntmps51
  go_wp2_with fail
  obtain ⟨W, hW⟩ : ∃ W, w.alloc (.cells #[.int .i64 d, .string x, .string y, .string z, .string t, .string f, .slice A1 ag.length c1, .int .i64 n, .slice A3 l3 c3, .slice A4 l4 c4, .int .i64 ln, .int .i64 cl] 38) = W := ⟨_, rfl⟩
  have hg : W.heap[w.heap.size]? = some (.cells #[.int .i64 d, .string x, .string y, .string z, .string t, .string f, .slice A1 ag.length c1, .int .i64 n, .slice A3 l3 c3, .slice A4 l4 c4, .int .i64 ln, .int .i64 cl] 38 (0, 0)) := by rw [← hW]; exact heap_alloc_new w _
  have HT : Hid (Turn [] w W) := Lib.hid (by rw [← hW]; exact (Turn.refl [] w).alloc _)
  rw [hW]
  have e0 : W.cell? ⟨w.heap.size, 0, none⟩ = some (.int .i64 d) := cell_of_row W _ 0 _ _ _ hg
  have e1 : W.cell? ⟨w.heap.size, 1, none⟩ = some (.string x) := cell_of_row W _ 1 _ _ _ hg
  have e2 : W.cell? ⟨w.heap.size, 2, none⟩ = some (.string y) := cell_of_row W _ 2 _ _ _ hg
  have e3 : W.cell? ⟨w.heap.size, 3, none⟩ = some (.string z) := cell_of_row W _ 3 _ _ _ hg
  have e4 : W.cell? ⟨w.heap.size, 4, none⟩ = some (.string t) := cell_of_row W _ 4 _ _ _ hg
  have e5 : W.cell? ⟨w.heap.size, 5, none⟩ = some (.string f) := cell_of_row W _ 5 _ _ _ hg
  have e6 : W.cell? ⟨w.heap.size, 6, none⟩ = some (.slice A1 ag.length c1) := cell_of_row W _ 6 _ _ _ hg
  have e7 : W.cell? ⟨w.heap.size, 7, none⟩ = some (.int .i64 n) := cell_of_row W _ 7 _ _ _ hg
  have hgl : w.heap.size < W.heap.size := (Array.getElem?_eq_some_iff.1 hg).1
  clear hW hg
  go_region_held3 (fun w' => w'.cell? ⟨w.heap.size, 5, none⟩ = some (.string f) ∧ w'.cell? ⟨w.heap.size, 6, none⟩ = some (.slice A1 ag.length c1))
    (first | exact ⟨e5, e6⟩ | go_keep)
    (first
      | (go_at_call 13; (with_reducible refine (HJ.out _ (by exact H1.out.turn' HT.out.drew)).mono ?_); rintro e w2 ⟨rfl, rfl⟩))
  go_wp2_with fail
  go_ret
  exact ⟨rfl, HT.out.drew⟩

end Go.Proofs.YtoekaehpcjhhaaaGreatDoor
