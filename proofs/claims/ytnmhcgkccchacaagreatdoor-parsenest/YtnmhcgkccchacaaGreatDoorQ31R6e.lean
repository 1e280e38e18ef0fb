import Derived.Test.YtnmhcgkccchacaaGreatDoorQ30R6a
import Derived.Deep.DeepCutAuto
import Derived.Lib.Split

/- Of the reference that prints (stage 6's texts Ond, what is wanted of them; printed by mkr6.py). -/
set_option linter.unusedSimpArgs false
set_option linter.unusedVariables false
set_option maxRecDepth 100000
namespace Go.Proofs.YtnmhcgkccchacaaGreatDoor.R6
open Go.RowKit

set_option maxHeartbeats 2000000 in
set_option maxRecDepth 100000 in
theorem one_11 (x y z t f : ByteArray) (ag : List ByteArray) (n : Int) (A1 A3 A4 : Option Addr) (c1 l3 c3 l4 c4 : Nat) (ln cl : Int) (w : World) (hs : x.size ≤ 1000 ∧ y.size ≤ 1000 ∧ z.size ≤ 1000 ∧ t.size ≤ 1000 ∧ f.size ≤ 1000) (ha : ag.length ≤ 1000 ∧ ∀ a ∈ ag, a.size ≤ 1000) (h1 : Sts w A1 ag) :
    Calls Tryz.prog 74 #[.agg #[.int .i64 11, .string x, .string y, .string z, .string t, .string f, .slice A1 ag.length c1, .int .i64 n, .slice A3 l3 c3, .slice A4 l4 c4, .int .i64 ln, .int .i64 cl]] w fun e w' => e = .returned (.string (callT x [y, ⟨#[46]⟩, f] ag)) ∧ Turn [] w w' := by
  obtain ⟨hx, hy, hz, ht, hf⟩ := hs
  have hjs : (jn ag ⟨#[44, 32]⟩).size ≤ 2000000 := jn_sz ag ha
  have HJ : Hid (∀ W, Sts W A1 ag → Calls Tryz.prog 41 #[.slice A1 ag.length c1, .string ⟨#[44, 32]⟩] W fun e w' => e = .returned (.string (jn ag ⟨#[44, 32]⟩)) ∧ W = w') := Lib.hid (fun W hW => rjoin_any A1 c1 ag ⟨#[44, 32]⟩ W hW (by omega) (by omega))
  obtain ⟨J, hJ⟩ : ∃ J, jn ag ⟨#[44, 32]⟩ = J := ⟨_, rfl⟩
  rw [hJ] at HJ hjs
  have HJJ := Lib.hid hJ
  have H1 := Lib.hid h1
  have b1 := add_run f ⟨#[40]⟩ (by rw [show (⟨#[40]⟩ : ByteArray).size = 1 from rfl]; omega)
  have b2 := add_run (f ++ ⟨#[40]⟩) J (by rw [size_app, show (⟨#[40]⟩ : ByteArray).size = 1 from rfl]; omega)
  have b3 := add_run (f ++ ⟨#[40]⟩ ++ J) ⟨#[41, 59]⟩ (by rw [size_app, size_app, show (⟨#[40]⟩ : ByteArray).size = 1 from rfl, show (⟨#[41, 59]⟩ : ByteArray).size = 2 from rfl]; omega)
  have d0 := add_run (y) ⟨#[46]⟩ (by simp only [size_app, sz_lit, List.size_toArray, List.length_cons, List.length_nil]; omega)
  have d1 := add_run (y ++ ⟨#[46]⟩) (f ++ ⟨#[40]⟩ ++ J ++ ⟨#[41, 59]⟩) (by simp only [size_app, sz_lit, List.size_toArray, List.length_cons, List.length_nil]; omega)
  have HTO := Lib.hid (fun W => to_any x (y ++ ⟨#[46]⟩ ++ (f ++ ⟨#[40]⟩ ++ J ++ ⟨#[41, 59]⟩)) W (by omega) (by simp only [size_app, sz_lit, List.size_toArray, List.length_cons, List.length_nil]; omega))
  clear hJ ha h1
  go_enter Tryz.func74, Tryz.ntmps74
  go_wp2_with fail
  obtain ⟨W, hW⟩ : ∃ W, w.alloc (.cells #[.int .i64 11, .string x, .string y, .string z, .string t, .string f, .slice A1 ag.length c1, .int .i64 n, .slice A3 l3 c3, .slice A4 l4 c4, .int .i64 ln, .int .i64 cl] 41) = W := ⟨_, rfl⟩
  have hg : W.heap[w.heap.size]? = some (.cells #[.int .i64 11, .string x, .string y, .string z, .string t, .string f, .slice A1 ag.length c1, .int .i64 n, .slice A3 l3 c3, .slice A4 l4 c4, .int .i64 ln, .int .i64 cl] 41 (0, 0)) := by rw [← hW]; exact heap_alloc_new w _
  have HT : Hid (Turn [] w W) := Lib.hid (by rw [← hW]; exact (Turn.refl [] w).alloc _)
  rw [hW]
  have e0 : W.cell? ⟨w.heap.size, 0, none⟩ = some (.int .i64 11) := cell_of_row W _ 0 _ _ _ hg
  have e1 : W.cell? ⟨w.heap.size, 1, none⟩ = some (.string x) := cell_of_row W _ 1 _ _ _ hg
  have e2 : W.cell? ⟨w.heap.size, 2, none⟩ = some (.string y) := cell_of_row W _ 2 _ _ _ hg
  have e3 : W.cell? ⟨w.heap.size, 3, none⟩ = some (.string z) := cell_of_row W _ 3 _ _ _ hg
  have e4 : W.cell? ⟨w.heap.size, 4, none⟩ = some (.string t) := cell_of_row W _ 4 _ _ _ hg
  have e5 : W.cell? ⟨w.heap.size, 5, none⟩ = some (.string f) := cell_of_row W _ 5 _ _ _ hg
  have e6 : W.cell? ⟨w.heap.size, 6, none⟩ = some (.slice A1 ag.length c1) := cell_of_row W _ 6 _ _ _ hg
  have e7 : W.cell? ⟨w.heap.size, 7, none⟩ = some (.int .i64 n) := cell_of_row W _ 7 _ _ _ hg
  have hgl : w.heap.size < W.heap.size := (Array.getElem?_eq_some_iff.1 hg).1
  clear hW hg
  go_region_held3 (fun w' => w'.cell? ⟨w.heap.size, 5, none⟩ = some (.string f) ∧ w'.cell? ⟨w.heap.size, 6, none⟩ = some (.slice A1 ag.length c1))
    (first | exact ⟨e5, e6⟩ | go_keep)
    (first
      | (go_at_call 41; (with_reducible refine (HJ.out _ (by exact H1.out.turn' HT.out.drew)).mono ?_); rintro e w2 ⟨rfl, rfl⟩))
  go_wp2_with fail
  refine (HTO.out _).mono ?_
  rintro e w3 ⟨rfl, rfl⟩
  go_wp2_with fail
  go_ret
  exact ⟨ret_str (by rw [← HJJ.out]; simp only [callT, bs_append, bs_cat, List.flatMap_cons, List.flatMap_nil, List.append_assoc, List.append_nil]), HT.out.drew⟩
set_option maxHeartbeats 2000000 in
set_option maxRecDepth 100000 in
theorem one_12 (x y z t f : ByteArray) (ag : List ByteArray) (n : Int) (A1 A3 A4 : Option Addr) (c1 l3 c3 l4 c4 : Nat) (ln cl : Int) (w : World) (hs : x.size ≤ 1000 ∧ y.size ≤ 1000 ∧ z.size ≤ 1000 ∧ t.size ≤ 1000 ∧ f.size ≤ 1000) (ha : ag.length ≤ 1000 ∧ ∀ a ∈ ag, a.size ≤ 1000) (h1 : Sts w A1 ag) :
    Calls Tryz.prog 74 #[.agg #[.int .i64 12, .string x, .string y, .string z, .string t, .string f, .slice A1 ag.length c1, .int .i64 n, .slice A3 l3 c3, .slice A4 l4 c4, .int .i64 ln, .int .i64 cl]] w fun e w' => e = .returned (.string (callT x [y, ⟨#[46]⟩, t, ⟨#[58, 58]⟩, f] ag)) ∧ Turn [] w w' := by
  obtain ⟨hx, hy, hz, ht, hf⟩ := hs
  have hjs : (jn ag ⟨#[44, 32]⟩).size ≤ 2000000 := jn_sz ag ha
  have HJ : Hid (∀ W, Sts W A1 ag → Calls Tryz.prog 41 #[.slice A1 ag.length c1, .string ⟨#[44, 32]⟩] W fun e w' => e = .returned (.string (jn ag ⟨#[44, 32]⟩)) ∧ W = w') := Lib.hid (fun W hW => rjoin_any A1 c1 ag ⟨#[44, 32]⟩ W hW (by omega) (by omega))
  obtain ⟨J, hJ⟩ : ∃ J, jn ag ⟨#[44, 32]⟩ = J := ⟨_, rfl⟩
  rw [hJ] at HJ hjs
  have HJJ := Lib.hid hJ
  have H1 := Lib.hid h1
  have b1 := add_run f ⟨#[40]⟩ (by rw [show (⟨#[40]⟩ : ByteArray).size = 1 from rfl]; omega)
  have b2 := add_run (f ++ ⟨#[40]⟩) J (by rw [size_app, show (⟨#[40]⟩ : ByteArray).size = 1 from rfl]; omega)
  have b3 := add_run (f ++ ⟨#[40]⟩ ++ J) ⟨#[41, 59]⟩ (by rw [size_app, size_app, show (⟨#[40]⟩ : ByteArray).size = 1 from rfl, show (⟨#[41, 59]⟩ : ByteArray).size = 2 from rfl]; omega)
  have d0 := add_run (y) ⟨#[46]⟩ (by simp only [size_app, sz_lit, List.size_toArray, List.length_cons, List.length_nil]; omega)
  have d1 := add_run (y ++ ⟨#[46]⟩) t (by simp only [size_app, sz_lit, List.size_toArray, List.length_cons, List.length_nil]; omega)
  have d2 := add_run (y ++ ⟨#[46]⟩ ++ t) ⟨#[58, 58]⟩ (by simp only [size_app, sz_lit, List.size_toArray, List.length_cons, List.length_nil]; omega)
  have d3 := add_run (y ++ ⟨#[46]⟩ ++ t ++ ⟨#[58, 58]⟩) (f ++ ⟨#[40]⟩ ++ J ++ ⟨#[41, 59]⟩) (by simp only [size_app, sz_lit, List.size_toArray, List.length_cons, List.length_nil]; omega)
  have HTO := Lib.hid (fun W => to_any x (y ++ ⟨#[46]⟩ ++ t ++ ⟨#[58, 58]⟩ ++ (f ++ ⟨#[40]⟩ ++ J ++ ⟨#[41, 59]⟩)) W (by omega) (by simp only [size_app, sz_lit, List.size_toArray, List.length_cons, List.length_nil]; omega))
  clear hJ ha h1
  go_enter Tryz.func74, Tryz.ntmps74
  go_wp2_with fail
  obtain ⟨W, hW⟩ : ∃ W, w.alloc (.cells #[.int .i64 12, .string x, .string y, .string z, .string t, .string f, .slice A1 ag.length c1, .int .i64 n, .slice A3 l3 c3, .slice A4 l4 c4, .int .i64 ln, .int .i64 cl] 41) = W := ⟨_, rfl⟩
  have hg : W.heap[w.heap.size]? = some (.cells #[.int .i64 12, .string x, .string y, .string z, .string t, .string f, .slice A1 ag.length c1, .int .i64 n, .slice A3 l3 c3, .slice A4 l4 c4, .int .i64 ln, .int .i64 cl] 41 (0, 0)) := by rw [← hW]; exact heap_alloc_new w _
  have HT : Hid (Turn [] w W) := Lib.hid (by rw [← hW]; exact (Turn.refl [] w).alloc _)
  rw [hW]
  have e0 : W.cell? ⟨w.heap.size, 0, none⟩ = some (.int .i64 12) := cell_of_row W _ 0 _ _ _ hg
  have e1 : W.cell? ⟨w.heap.size, 1, none⟩ = some (.string x) := cell_of_row W _ 1 _ _ _ hg
  have e2 : W.cell? ⟨w.heap.size, 2, none⟩ = some (.string y) := cell_of_row W _ 2 _ _ _ hg
  have e3 : W.cell? ⟨w.heap.size, 3, none⟩ = some (.string z) := cell_of_row W _ 3 _ _ _ hg
  have e4 : W.cell? ⟨w.heap.size, 4, none⟩ = some (.string t) := cell_of_row W _ 4 _ _ _ hg
  have e5 : W.cell? ⟨w.heap.size, 5, none⟩ = some (.string f) := cell_of_row W _ 5 _ _ _ hg
  have e6 : W.cell? ⟨w.heap.size, 6, none⟩ = some (.slice A1 ag.length c1) := cell_of_row W _ 6 _ _ _ hg
  have e7 : W.cell? ⟨w.heap.size, 7, none⟩ = some (.int .i64 n) := cell_of_row W _ 7 _ _ _ hg
  have hgl : w.heap.size < W.heap.size := (Array.getElem?_eq_some_iff.1 hg).1
  clear hW hg
  go_region_held3 (fun w' => w'.cell? ⟨w.heap.size, 5, none⟩ = some (.string f) ∧ w'.cell? ⟨w.heap.size, 6, none⟩ = some (.slice A1 ag.length c1))
    (first | exact ⟨e5, e6⟩ | go_keep)
    (first
      | (go_at_call 41; (with_reducible refine (HJ.out _ (by exact H1.out.turn' HT.out.drew)).mono ?_); rintro e w2 ⟨rfl, rfl⟩))
  go_wp2_with fail
  refine (HTO.out _).mono ?_
  rintro e w3 ⟨rfl, rfl⟩
  go_wp2_with fail
  go_ret
  exact ⟨ret_str (by rw [← HJJ.out]; simp only [callT, bs_append, bs_cat, List.flatMap_cons, List.flatMap_nil, List.append_assoc, List.append_nil]), HT.out.drew⟩
set_option maxHeartbeats 2000000 in
set_option maxRecDepth 100000 in
theorem one_13 (x y z t f : ByteArray) (ag : List ByteArray) (n : Int) (A1 A3 A4 : Option Addr) (c1 l3 c3 l4 c4 : Nat) (ln cl : Int) (w : World) (hs : x.size ≤ 1000 ∧ y.size ≤ 1000 ∧ z.size ≤ 1000 ∧ t.size ≤ 1000 ∧ f.size ≤ 1000) (ha : ag.length ≤ 1000 ∧ ∀ a ∈ ag, a.size ≤ 1000) (h1 : Sts w A1 ag) :
    Calls Tryz.prog 74 #[.agg #[.int .i64 13, .string x, .string y, .string z, .string t, .string f, .slice A1 ag.length c1, .int .i64 n, .slice A3 l3 c3, .slice A4 l4 c4, .int .i64 ln, .int .i64 cl]] w fun e w' => e = .returned (.string (callT x [t, ⟨#[58, 58]⟩, f] ag)) ∧ Turn [] w w' := by
  obtain ⟨hx, hy, hz, ht, hf⟩ := hs
  have hjs : (jn ag ⟨#[44, 32]⟩).size ≤ 2000000 := jn_sz ag ha
  have HJ : Hid (∀ W, Sts W A1 ag → Calls Tryz.prog 41 #[.slice A1 ag.length c1, .string ⟨#[44, 32]⟩] W fun e w' => e = .returned (.string (jn ag ⟨#[44, 32]⟩)) ∧ W = w') := Lib.hid (fun W hW => rjoin_any A1 c1 ag ⟨#[44, 32]⟩ W hW (by omega) (by omega))
  obtain ⟨J, hJ⟩ : ∃ J, jn ag ⟨#[44, 32]⟩ = J := ⟨_, rfl⟩
  rw [hJ] at HJ hjs
  have HJJ := Lib.hid hJ
  have H1 := Lib.hid h1
  have b1 := add_run f ⟨#[40]⟩ (by rw [show (⟨#[40]⟩ : ByteArray).size = 1 from rfl]; omega)
  have b2 := add_run (f ++ ⟨#[40]⟩) J (by rw [size_app, show (⟨#[40]⟩ : ByteArray).size = 1 from rfl]; omega)
  have b3 := add_run (f ++ ⟨#[40]⟩ ++ J) ⟨#[41, 59]⟩ (by rw [size_app, size_app, show (⟨#[40]⟩ : ByteArray).size = 1 from rfl, show (⟨#[41, 59]⟩ : ByteArray).size = 2 from rfl]; omega)
  have d0 := add_run (t) ⟨#[58, 58]⟩ (by simp only [size_app, sz_lit, List.size_toArray, List.length_cons, List.length_nil]; omega)
  have d1 := add_run (t ++ ⟨#[58, 58]⟩) (f ++ ⟨#[40]⟩ ++ J ++ ⟨#[41, 59]⟩) (by simp only [size_app, sz_lit, List.size_toArray, List.length_cons, List.length_nil]; omega)
  have HTO := Lib.hid (fun W => to_any x (t ++ ⟨#[58, 58]⟩ ++ (f ++ ⟨#[40]⟩ ++ J ++ ⟨#[41, 59]⟩)) W (by omega) (by simp only [size_app, sz_lit, List.size_toArray, List.length_cons, List.length_nil]; omega))
  clear hJ ha h1
  go_enter Tryz.func74, Tryz.ntmps74
  go_wp2_with fail
  obtain ⟨W, hW⟩ : ∃ W, w.alloc (.cells #[.int .i64 13, .string x, .string y, .string z, .string t, .string f, .slice A1 ag.length c1, .int .i64 n, .slice A3 l3 c3, .slice A4 l4 c4, .int .i64 ln, .int .i64 cl] 41) = W := ⟨_, rfl⟩
  have hg : W.heap[w.heap.size]? = some (.cells #[.int .i64 13, .string x, .string y, .string z, .string t, .string f, .slice A1 ag.length c1, .int .i64 n, .slice A3 l3 c3, .slice A4 l4 c4, .int .i64 ln, .int .i64 cl] 41 (0, 0)) := by rw [← hW]; exact heap_alloc_new w _
  have HT : Hid (Turn [] w W) := Lib.hid (by rw [← hW]; exact (Turn.refl [] w).alloc _)
  rw [hW]
  have e0 : W.cell? ⟨w.heap.size, 0, none⟩ = some (.int .i64 13) := cell_of_row W _ 0 _ _ _ hg
  have e1 : W.cell? ⟨w.heap.size, 1, none⟩ = some (.string x) := cell_of_row W _ 1 _ _ _ hg
  have e2 : W.cell? ⟨w.heap.size, 2, none⟩ = some (.string y) := cell_of_row W _ 2 _ _ _ hg
  have e3 : W.cell? ⟨w.heap.size, 3, none⟩ = some (.string z) := cell_of_row W _ 3 _ _ _ hg
  have e4 : W.cell? ⟨w.heap.size, 4, none⟩ = some (.string t) := cell_of_row W _ 4 _ _ _ hg
  have e5 : W.cell? ⟨w.heap.size, 5, none⟩ = some (.string f) := cell_of_row W _ 5 _ _ _ hg
  have e6 : W.cell? ⟨w.heap.size, 6, none⟩ = some (.slice A1 ag.length c1) := cell_of_row W _ 6 _ _ _ hg
  have e7 : W.cell? ⟨w.heap.size, 7, none⟩ = some (.int .i64 n) := cell_of_row W _ 7 _ _ _ hg
  have hgl : w.heap.size < W.heap.size := (Array.getElem?_eq_some_iff.1 hg).1
  clear hW hg
  go_region_held3 (fun w' => w'.cell? ⟨w.heap.size, 5, none⟩ = some (.string f) ∧ w'.cell? ⟨w.heap.size, 6, none⟩ = some (.slice A1 ag.length c1))
    (first | exact ⟨e5, e6⟩ | go_keep)
    (first
      | (go_at_call 41; (with_reducible refine (HJ.out _ (by exact H1.out.turn' HT.out.drew)).mono ?_); rintro e w2 ⟨rfl, rfl⟩))
  go_wp2_with fail
  refine (HTO.out _).mono ?_
  rintro e w3 ⟨rfl, rfl⟩
  go_wp2_with fail
  go_ret
  exact ⟨ret_str (by rw [← HJJ.out]; simp only [callT, bs_append, bs_cat, List.flatMap_cons, List.flatMap_nil, List.append_assoc, List.append_nil]), HT.out.drew⟩
set_option maxHeartbeats 2000000 in
set_option maxRecDepth 100000 in
theorem one_14 (x y z t f : ByteArray) (ag : List ByteArray) (n : Int) (A1 A3 A4 : Option Addr) (c1 l3 c3 l4 c4 : Nat) (ln cl : Int) (w : World) (hs : x.size ≤ 1000 ∧ y.size ≤ 1000 ∧ z.size ≤ 1000 ∧ t.size ≤ 1000 ∧ f.size ≤ 1000) (ha : ag.length ≤ 1000 ∧ ∀ a ∈ ag, a.size ≤ 1000) (h1 : Sts w A1 ag) (hn : -9223372036854775808 ≤ n ∧ n ≤ 9223372036854775807) :
    Calls Tryz.prog 74 #[.agg #[.int .i64 14, .string x, .string y, .string z, .string t, .string f, .slice A1 ag.length c1, .int .i64 n, .slice A3 l3 c3, .slice A4 l4 c4, .int .i64 ln, .int .i64 cl]] w fun e w' => e = .returned (.string (cat [x, ⟨#[32, 61, 32]⟩, mk (Lib.itoa n), ⟨#[59]⟩])) ∧ Turn [] w w' := by
  obtain ⟨hx, hy, hz, ht, hf⟩ := hs
  have hjs : (jn ag ⟨#[44, 32]⟩).size ≤ 2000000 := jn_sz ag ha
  have HJ : Hid (∀ W, Sts W A1 ag → Calls Tryz.prog 41 #[.slice A1 ag.length c1, .string ⟨#[44, 32]⟩] W fun e w' => e = .returned (.string (jn ag ⟨#[44, 32]⟩)) ∧ W = w') := Lib.hid (fun W hW => rjoin_any A1 c1 ag ⟨#[44, 32]⟩ W hW (by omega) (by omega))
  obtain ⟨J, hJ⟩ : ∃ J, jn ag ⟨#[44, 32]⟩ = J := ⟨_, rfl⟩
  rw [hJ] at HJ hjs
  have HJJ := Lib.hid hJ
  have H1 := Lib.hid h1
  have b1 := add_run f ⟨#[40]⟩ (by rw [show (⟨#[40]⟩ : ByteArray).size = 1 from rfl]; omega)
  have b2 := add_run (f ++ ⟨#[40]⟩) J (by rw [size_app, show (⟨#[40]⟩ : ByteArray).size = 1 from rfl]; omega)
  have b3 := add_run (f ++ ⟨#[40]⟩ ++ J) ⟨#[41, 59]⟩ (by rw [size_app, size_app, show (⟨#[40]⟩ : ByteArray).size = 1 from rfl, show (⟨#[41, 59]⟩ : ByteArray).size = 2 from rfl]; omega)
  have hi : (mk (Lib.itoa n)).size ≤ 21 := by rw [size_bs, bs_mk]; exact Lib.itoa_length_le n hn.1 hn.2
  have d0 := add_run (x) ⟨#[32, 61, 32]⟩ (by simp only [size_app, sz_lit, List.size_toArray, List.length_cons, List.length_nil]; omega)
  have d1 := add_run (x ++ ⟨#[32, 61, 32]⟩) (mk (Lib.itoa n)) (by simp only [size_app, sz_lit, List.size_toArray, List.length_cons, List.length_nil]; omega)
  have d2 := add_run (x ++ ⟨#[32, 61, 32]⟩ ++ (mk (Lib.itoa n))) ⟨#[59]⟩ (by simp only [size_app, sz_lit, List.size_toArray, List.length_cons, List.length_nil]; omega)
  have HD := Lib.hid (fun W => digits_any n W hn.1 hn.2)
  clear hJ ha h1
  go_enter Tryz.func74, Tryz.ntmps74
  go_wp2_with fail
  obtain ⟨W, hW⟩ : ∃ W, w.alloc (.cells #[.int .i64 14, .string x, .string y, .string z, .string t, .string f, .slice A1 ag.length c1, .int .i64 n, .slice A3 l3 c3, .slice A4 l4 c4, .int .i64 ln, .int .i64 cl] 41) = W := ⟨_, rfl⟩
  have hg : W.heap[w.heap.size]? = some (.cells #[.int .i64 14, .string x, .string y, .string z, .string t, .string f, .slice A1 ag.length c1, .int .i64 n, .slice A3 l3 c3, .slice A4 l4 c4, .int .i64 ln, .int .i64 cl] 41 (0, 0)) := by rw [← hW]; exact heap_alloc_new w _
  have HT : Hid (Turn [] w W) := Lib.hid (by rw [← hW]; exact (Turn.refl [] w).alloc _)
  rw [hW]
  have e0 : W.cell? ⟨w.heap.size, 0, none⟩ = some (.int .i64 14) := cell_of_row W _ 0 _ _ _ hg
  have e1 : W.cell? ⟨w.heap.size, 1, none⟩ = some (.string x) := cell_of_row W _ 1 _ _ _ hg
  have e2 : W.cell? ⟨w.heap.size, 2, none⟩ = some (.string y) := cell_of_row W _ 2 _ _ _ hg
  have e3 : W.cell? ⟨w.heap.size, 3, none⟩ = some (.string z) := cell_of_row W _ 3 _ _ _ hg
  have e4 : W.cell? ⟨w.heap.size, 4, none⟩ = some (.string t) := cell_of_row W _ 4 _ _ _ hg
  have e5 : W.cell? ⟨w.heap.size, 5, none⟩ = some (.string f) := cell_of_row W _ 5 _ _ _ hg
  have e6 : W.cell? ⟨w.heap.size, 6, none⟩ = some (.slice A1 ag.length c1) := cell_of_row W _ 6 _ _ _ hg
  have e7 : W.cell? ⟨w.heap.size, 7, none⟩ = some (.int .i64 n) := cell_of_row W _ 7 _ _ _ hg
  have hgl : w.heap.size < W.heap.size := (Array.getElem?_eq_some_iff.1 hg).1
  clear hW hg
  go_region_held3 (fun w' => w'.cell? ⟨w.heap.size, 5, none⟩ = some (.string f) ∧ w'.cell? ⟨w.heap.size, 6, none⟩ = some (.slice A1 ag.length c1))
    (first | exact ⟨e5, e6⟩ | go_keep)
    (first
      | (go_at_call 41; (with_reducible refine (HJ.out _ (by exact H1.out.turn' HT.out.drew)).mono ?_); rintro e w2 ⟨rfl, rfl⟩))
  go_wp2_with fail
  go_region_held3 (fun w' => w'.cell? ⟨w.heap.size, 1, none⟩ = some (.string x) ∧ w'.cell? ⟨w.heap.size, 7, none⟩ = some (.int .i64 n))
    (first | exact ⟨e1, e7⟩ | exact ⟨k1, k7⟩ | go_keep)
    (first
      | (go_at_call 99; (with_reducible refine (HD.out _).mono ?_); rintro e w3 ⟨rfl, t3⟩
         have k1 : w3.cell? ⟨w.heap.size, 1, none⟩ = some (.string x) := (t3.cell (p := ⟨w.heap.size, 1, none⟩) hgl (by simp)).trans e1
         have k7 : w3.cell? ⟨w.heap.size, 7, none⟩ = some (.int .i64 n) := (t3.cell (p := ⟨w.heap.size, 7, none⟩) hgl (by simp)).trans e7
         have HT3 := Lib.hid t3
         clear t3))
  go_wp2_with fail
  go_ret
  exact ⟨ret_str (by simp only [bs_append, bs_cat, List.flatMap_cons, List.flatMap_nil, List.append_assoc, List.append_nil]), HT.out.drew.drew.trans' HT3.out⟩
set_option maxHeartbeats 2000000 in
set_option maxRecDepth 100000 in
theorem one_22 (x y z t f : ByteArray) (ag : List ByteArray) (n : Int) (A1 A3 A4 : Option Addr) (c1 l3 c3 l4 c4 : Nat) (ln cl : Int) (w : World) (hs : x.size ≤ 1000 ∧ y.size ≤ 1000 ∧ z.size ≤ 1000 ∧ t.size ≤ 1000 ∧ f.size ≤ 1000) (ha : ag.length ≤ 1000 ∧ ∀ a ∈ ag, a.size ≤ 1000) (h1 : Sts w A1 ag) :
    Calls Tryz.prog 74 #[.agg #[.int .i64 22, .string x, .string y, .string z, .string t, .string f, .slice A1 ag.length c1, .int .i64 n, .slice A3 l3 c3, .slice A4 l4 c4, .int .i64 ln, .int .i64 cl]] w fun e w' => e = .returned (.string (retT x)) ∧ Turn [] w w' := by
  by_cases h0 : x.size = 0
  · obtain rfl := bytes_eq h0
    obtain ⟨hx, hy, hz, ht, hf⟩ := hs
    have hjs : (jn ag ⟨#[44, 32]⟩).size ≤ 2000000 := jn_sz ag ha
    have HJ : Hid (∀ W, Sts W A1 ag → Calls Tryz.prog 41 #[.slice A1 ag.length c1, .string ⟨#[44, 32]⟩] W fun e w' => e = .returned (.string (jn ag ⟨#[44, 32]⟩)) ∧ W = w') := Lib.hid (fun W hW => rjoin_any A1 c1 ag ⟨#[44, 32]⟩ W hW (by omega) (by omega))
    obtain ⟨J, hJ⟩ : ∃ J, jn ag ⟨#[44, 32]⟩ = J := ⟨_, rfl⟩
    rw [hJ] at HJ hjs
    have HJJ := Lib.hid hJ
    have H1 := Lib.hid h1
    have b1 := add_run f ⟨#[40]⟩ (by rw [show (⟨#[40]⟩ : ByteArray).size = 1 from rfl]; omega)
    have b2 := add_run (f ++ ⟨#[40]⟩) J (by rw [size_app, show (⟨#[40]⟩ : ByteArray).size = 1 from rfl]; omega)
    have b3 := add_run (f ++ ⟨#[40]⟩ ++ J) ⟨#[41, 59]⟩ (by rw [size_app, size_app, show (⟨#[40]⟩ : ByteArray).size = 1 from rfl, show (⟨#[41, 59]⟩ : ByteArray).size = 2 from rfl]; omega)
    clear h0
    clear hJ ha h1
    go_enter Tryz.func74, Tryz.ntmps74
    go_wp2_with fail
    obtain ⟨W, hW⟩ : ∃ W, w.alloc (.cells #[.int .i64 22, .string ⟨#[]⟩, .string y, .string z, .string t, .string f, .slice A1 ag.length c1, .int .i64 n, .slice A3 l3 c3, .slice A4 l4 c4, .int .i64 ln, .int .i64 cl] 41) = W := ⟨_, rfl⟩
    have hg : W.heap[w.heap.size]? = some (.cells #[.int .i64 22, .string ⟨#[]⟩, .string y, .string z, .string t, .string f, .slice A1 ag.length c1, .int .i64 n, .slice A3 l3 c3, .slice A4 l4 c4, .int .i64 ln, .int .i64 cl] 41 (0, 0)) := by rw [← hW]; exact heap_alloc_new w _
    have HT : Hid (Turn [] w W) := Lib.hid (by rw [← hW]; exact (Turn.refl [] w).alloc _)
    rw [hW]
    have e0 : W.cell? ⟨w.heap.size, 0, none⟩ = some (.int .i64 22) := cell_of_row W _ 0 _ _ _ hg
    have e1 : W.cell? ⟨w.heap.size, 1, none⟩ = some (.string ⟨#[]⟩) := cell_of_row W _ 1 _ _ _ hg
    have e2 : W.cell? ⟨w.heap.size, 2, none⟩ = some (.string y) := cell_of_row W _ 2 _ _ _ hg
    have e3 : W.cell? ⟨w.heap.size, 3, none⟩ = some (.string z) := cell_of_row W _ 3 _ _ _ hg
    have e4 : W.cell? ⟨w.heap.size, 4, none⟩ = some (.string t) := cell_of_row W _ 4 _ _ _ hg
    have e5 : W.cell? ⟨w.heap.size, 5, none⟩ = some (.string f) := cell_of_row W _ 5 _ _ _ hg
    have e6 : W.cell? ⟨w.heap.size, 6, none⟩ = some (.slice A1 ag.length c1) := cell_of_row W _ 6 _ _ _ hg
    have e7 : W.cell? ⟨w.heap.size, 7, none⟩ = some (.int .i64 n) := cell_of_row W _ 7 _ _ _ hg
    have hgl : w.heap.size < W.heap.size := (Array.getElem?_eq_some_iff.1 hg).1
    clear hW hg
    go_region_held3 (fun w' => w'.cell? ⟨w.heap.size, 5, none⟩ = some (.string f) ∧ w'.cell? ⟨w.heap.size, 6, none⟩ = some (.slice A1 ag.length c1))
      (first | exact ⟨e5, e6⟩ | go_keep)
      (first
        | (go_at_call 41; (with_reducible refine (HJ.out _ (by exact H1.out.turn' HT.out.drew)).mono ?_); rintro e w2 ⟨rfl, rfl⟩))
    go_wp2_with fail
    go_ret
    exact ⟨ret_str (by rw [show retT ⟨#[]⟩ = cat [⟨#[114, 101, 116, 117, 114, 110, 59]⟩] from rfl]; simp only [bs_cat, List.flatMap_cons, List.flatMap_nil, List.append_nil]), HT.out.drew⟩
  · obtain ⟨hx, hy, hz, ht, hf⟩ := hs
    have hjs : (jn ag ⟨#[44, 32]⟩).size ≤ 2000000 := jn_sz ag ha
    have HJ : Hid (∀ W, Sts W A1 ag → Calls Tryz.prog 41 #[.slice A1 ag.length c1, .string ⟨#[44, 32]⟩] W fun e w' => e = .returned (.string (jn ag ⟨#[44, 32]⟩)) ∧ W = w') := Lib.hid (fun W hW => rjoin_any A1 c1 ag ⟨#[44, 32]⟩ W hW (by omega) (by omega))
    obtain ⟨J, hJ⟩ : ∃ J, jn ag ⟨#[44, 32]⟩ = J := ⟨_, rfl⟩
    rw [hJ] at HJ hjs
    have HJJ := Lib.hid hJ
    have H1 := Lib.hid h1
    have b1 := add_run f ⟨#[40]⟩ (by rw [show (⟨#[40]⟩ : ByteArray).size = 1 from rfl]; omega)
    have b2 := add_run (f ++ ⟨#[40]⟩) J (by rw [size_app, show (⟨#[40]⟩ : ByteArray).size = 1 from rfl]; omega)
    have b3 := add_run (f ++ ⟨#[40]⟩ ++ J) ⟨#[41, 59]⟩ (by rw [size_app, size_app, show (⟨#[40]⟩ : ByteArray).size = 1 from rfl, show (⟨#[41, 59]⟩ : ByteArray).size = 2 from rfl]; omega)
    have d0 := add_run (⟨#[114, 101, 116, 117, 114, 110, 32]⟩) x (by simp only [size_app, sz_lit, List.size_toArray, List.length_cons, List.length_nil]; omega)
    have d1 := add_run (⟨#[114, 101, 116, 117, 114, 110, 32]⟩ ++ x) ⟨#[59]⟩ (by simp only [size_app, sz_lit, List.size_toArray, List.length_cons, List.length_nil]; omega)
    have hb := bytes_ne (fun e : x = ⟨#[]⟩ => h0 (by rw [e]; rfl))
    have H0 := Lib.hid h0
    clear h0
    clear hJ ha h1
    go_enter Tryz.func74, Tryz.ntmps74
    go_wp2_with fail
    obtain ⟨W, hW⟩ : ∃ W, w.alloc (.cells #[.int .i64 22, .string x, .string y, .string z, .string t, .string f, .slice A1 ag.length c1, .int .i64 n, .slice A3 l3 c3, .slice A4 l4 c4, .int .i64 ln, .int .i64 cl] 41) = W := ⟨_, rfl⟩
    have hg : W.heap[w.heap.size]? = some (.cells #[.int .i64 22, .string x, .string y, .string z, .string t, .string f, .slice A1 ag.length c1, .int .i64 n, .slice A3 l3 c3, .slice A4 l4 c4, .int .i64 ln, .int .i64 cl] 41 (0, 0)) := by rw [← hW]; exact heap_alloc_new w _
    have HT : Hid (Turn [] w W) := Lib.hid (by rw [← hW]; exact (Turn.refl [] w).alloc _)
    rw [hW]
    have e0 : W.cell? ⟨w.heap.size, 0, none⟩ = some (.int .i64 22) := cell_of_row W _ 0 _ _ _ hg
    have e1 : W.cell? ⟨w.heap.size, 1, none⟩ = some (.string x) := cell_of_row W _ 1 _ _ _ hg
    have e2 : W.cell? ⟨w.heap.size, 2, none⟩ = some (.string y) := cell_of_row W _ 2 _ _ _ hg
    have e3 : W.cell? ⟨w.heap.size, 3, none⟩ = some (.string z) := cell_of_row W _ 3 _ _ _ hg
    have e4 : W.cell? ⟨w.heap.size, 4, none⟩ = some (.string t) := cell_of_row W _ 4 _ _ _ hg
    have e5 : W.cell? ⟨w.heap.size, 5, none⟩ = some (.string f) := cell_of_row W _ 5 _ _ _ hg
    have e6 : W.cell? ⟨w.heap.size, 6, none⟩ = some (.slice A1 ag.length c1) := cell_of_row W _ 6 _ _ _ hg
    have e7 : W.cell? ⟨w.heap.size, 7, none⟩ = some (.int .i64 n) := cell_of_row W _ 7 _ _ _ hg
    have hgl : w.heap.size < W.heap.size := (Array.getElem?_eq_some_iff.1 hg).1
    clear hW hg
    go_region_held3 (fun w' => w'.cell? ⟨w.heap.size, 5, none⟩ = some (.string f) ∧ w'.cell? ⟨w.heap.size, 6, none⟩ = some (.slice A1 ag.length c1))
      (first | exact ⟨e5, e6⟩ | go_keep)
      (first
        | (go_at_call 41; (with_reducible refine (HJ.out _ (by exact H1.out.turn' HT.out.drew)).mono ?_); rintro e w2 ⟨rfl, rfl⟩))
    go_wp2_with fail
    go_ret
    exact ⟨ret_str (by rw [retT, if_neg H0.out]; simp only [bs_append, bs_cat, List.flatMap_cons, List.flatMap_nil, List.append_assoc, List.append_nil]), HT.out.drew⟩
set_option maxHeartbeats 2000000 in
set_option maxRecDepth 100000 in
theorem one_none (d : Int) (x y z t f : ByteArray) (ag : List ByteArray) (n : Int) (A1 A3 A4 : Option Addr) (c1 l3 c3 l4 c4 : Nat) (ln cl : Int) (w : World) (hs : x.size ≤ 1000 ∧ y.size ≤ 1000 ∧ z.size ≤ 1000 ∧ t.size ≤ 1000 ∧ f.size ≤ 1000) (ha : ag.length ≤ 1000 ∧ ∀ a ∈ ag, a.size ≤ 1000) (h1 : Sts w A1 ag) (hd : ∀ k ∈ [0, 1, 2, 3, 4, 5, 6, 7, 8, 9, 10, 11, 12, 13, 14, 15, 16, 17, 18, 22], d ≠ (k : Int)) :
    Calls Tryz.prog 74 #[.agg #[.int .i64 d, .string x, .string y, .string z, .string t, .string f, .slice A1 ag.length c1, .int .i64 n, .slice A3 l3 c3, .slice A4 l4 c4, .int .i64 ln, .int .i64 cl]] w fun e w' => e = .returned (.string (⟨#[]⟩)) ∧ Turn [] w w' := by
  obtain ⟨hx, hy, hz, ht, hf⟩ := hs
  have hjs : (jn ag ⟨#[44, 32]⟩).size ≤ 2000000 := jn_sz ag ha
  have HJ : Hid (∀ W, Sts W A1 ag → Calls Tryz.prog 41 #[.slice A1 ag.length c1, .string ⟨#[44, 32]⟩] W fun e w' => e = .returned (.string (jn ag ⟨#[44, 32]⟩)) ∧ W = w') := Lib.hid (fun W hW => rjoin_any A1 c1 ag ⟨#[44, 32]⟩ W hW (by omega) (by omega))
  obtain ⟨J, hJ⟩ : ∃ J, jn ag ⟨#[44, 32]⟩ = J := ⟨_, rfl⟩
  rw [hJ] at HJ hjs
  have HJJ := Lib.hid hJ
  have H1 := Lib.hid h1
  have b1 := add_run f ⟨#[40]⟩ (by rw [show (⟨#[40]⟩ : ByteArray).size = 1 from rfl]; omega)
  have b2 := add_run (f ++ ⟨#[40]⟩) J (by rw [size_app, show (⟨#[40]⟩ : ByteArray).size = 1 from rfl]; omega)
  have b3 := add_run (f ++ ⟨#[40]⟩ ++ J) ⟨#[41, 59]⟩ (by rw [size_app, size_app, show (⟨#[40]⟩ : ByteArray).size = 1 from rfl, show (⟨#[41, 59]⟩ : ByteArray).size = 2 from rfl]; omega)
  have q0 : ¬ d = 0 := hd 0 (by decide)
  have q1 : ¬ d = 1 := hd 1 (by decide)
  have q2 : ¬ d = 2 := hd 2 (by decide)
  have q3 : ¬ d = 3 := hd 3 (by decide)
  have q4 : ¬ d = 4 := hd 4 (by decide)
  have q5 : ¬ d = 5 := hd 5 (by decide)
  have q6 : ¬ d = 6 := hd 6 (by decide)
  have q7 : ¬ d = 7 := hd 7 (by decide)
  have q8 : ¬ d = 8 := hd 8 (by decide)
  have q9 : ¬ d = 9 := hd 9 (by decide)
  have q10 : ¬ d = 10 := hd 10 (by decide)
  have q11 : ¬ d = 11 := hd 11 (by decide)
  have q12 : ¬ d = 12 := hd 12 (by decide)
  have q13 : ¬ d = 13 := hd 13 (by decide)
  have q14 : ¬ d = 14 := hd 14 (by decide)
  have q15 : ¬ d = 15 := hd 15 (by decide)
  have q16 : ¬ d = 16 := hd 16 (by decide)
  have q17 : ¬ d = 17 := hd 17 (by decide)
  have q18 : ¬ d = 18 := hd 18 (by decide)
  have q22 : ¬ d = 22 := hd 22 (by decide)
  clear hd
  clear hJ ha h1
  go_enter Tryz.func74, Tryz.ntmps74
  go_wp2_with fail
  obtain ⟨W, hW⟩ : ∃ W, w.alloc (.cells #[.int .i64 d, .string x, .string y, .string z, .string t, .string f, .slice A1 ag.length c1, .int .i64 n, .slice A3 l3 c3, .slice A4 l4 c4, .int .i64 ln, .int .i64 cl] 41) = W := ⟨_, rfl⟩
  have hg : W.heap[w.heap.size]? = some (.cells #[.int .i64 d, .string x, .string y, .string z, .string t, .string f, .slice A1 ag.length c1, .int .i64 n, .slice A3 l3 c3, .slice A4 l4 c4, .int .i64 ln, .int .i64 cl] 41 (0, 0)) := by rw [← hW]; exact heap_alloc_new w _
  have HT : Hid (Turn [] w W) := Lib.hid (by rw [← hW]; exact (Turn.refl [] w).alloc _)
  rw [hW]
  have e0 : W.cell? ⟨w.heap.size, 0, none⟩ = some (.int .i64 d) := cell_of_row W _ 0 _ _ _ hg
  have e1 : W.cell? ⟨w.heap.size, 1, none⟩ = some (.string x) := cell_of_row W _ 1 _ _ _ hg
  have e2 : W.cell? ⟨w.heap.size, 2, none⟩ = some (.string y) := cell_of_row W _ 2 _ _ _ hg
  have e3 : W.cell? ⟨w.heap.size, 3, none⟩ = some (.string z) := cell_of_row W _ 3 _ _ _ hg
  have e4 : W.cell? ⟨w.heap.size, 4, none⟩ = some (.string t) := cell_of_row W _ 4 _ _ _ hg
  have e5 : W.cell? ⟨w.heap.size, 5, none⟩ = some (.string f) := cell_of_row W _ 5 _ _ _ hg
  have e6 : W.cell? ⟨w.heap.size, 6, none⟩ = some (.slice A1 ag.length c1) := cell_of_row W _ 6 _ _ _ hg
  have e7 : W.cell? ⟨w.heap.size, 7, none⟩ = some (.int .i64 n) := cell_of_row W _ 7 _ _ _ hg
  have hgl : w.heap.size < W.heap.size := (Array.getElem?_eq_some_iff.1 hg).1
  clear hW hg
  go_region_held3 (fun w' => w'.cell? ⟨w.heap.size, 5, none⟩ = some (.string f) ∧ w'.cell? ⟨w.heap.size, 6, none⟩ = some (.slice A1 ag.length c1))
    (first | exact ⟨e5, e6⟩ | go_keep)
    (first
      | (go_at_call 41; (with_reducible refine (HJ.out _ (by exact H1.out.turn' HT.out.drew)).mono ?_); rintro e w2 ⟨rfl, rfl⟩))
  go_wp2_with fail
  go_ret
  exact ⟨rfl, HT.out.drew⟩
end Go.Proofs.YtnmhcgkccchacaaGreatDoor.R6

/- Of the reference that prints (stage 6's texts Sts, Onw, Bld, Sma, what is wanted of them; printed by mkr6.py). -/
set_option linter.unusedSimpArgs false
set_option linter.unusedVariables false
set_option maxRecDepth 100000
namespace Go.Proofs.YtnmhcgkccchacaaGreatDoor.R6
open Go.RowKit

theorem rwL_take {D : Nat} {l : List St} {k : Nat} {s : St} (h : l[k]? = some s) : rwL D (l.take (k + 1)) = rwL D (l.take k) ++ rw1 D s := by
  rw [take_snoc h, rwL_append, rwL_one]
theorem rwL_take_le (D : Nat) (l : List St) (k : Nat) : (rwL D (l.take k)).length ≤ (rwL D l).length := by
  conv => rhs; rw [← List.take_append_drop k l, rwL_append]
  simp
theorem one_any (d : Int) (x y z t f : ByteArray) (ag : List ByteArray) (n : Int) (A1 A3 A4 : Option Addr) (c1 l3 c3 l4 c4 : Nat) (ln cl : Int) (w : World) (hs : x.size ≤ 1000 ∧ y.size ≤ 1000 ∧ z.size ≤ 1000 ∧ t.size ≤ 1000 ∧ f.size ≤ 1000) (ha : ag.length ≤ 1000 ∧ ∀ a ∈ ag, a.size ≤ 1000) (h1 : Sts w A1 ag) (hn : -9223372036854775808 ≤ n ∧ n ≤ 9223372036854775807) :
    Calls Tryz.prog 74 #[.agg #[.int .i64 d, .string x, .string y, .string z, .string t, .string f, .slice A1 ag.length c1, .int .i64 n, .slice A3 l3 c3, .slice A4 l4 c4, .int .i64 ln, .int .i64 cl]] w fun e w' => e = .returned (.string ((pl d x y z t f ag n).getD ⟨#[]⟩)) ∧ Turn [] w w' := by
  by_cases h_0 : d = 0
  · subst h_0
    rw [show pl 0 x y z t f ag n = some (cat [x, ⟨#[32, 61, 32, 110, 101, 119, 32]⟩, t, ⟨#[59]⟩]) from rfl]
    exact one_0 x y z t f ag n A1 A3 A4 c1 l3 c3 l4 c4 ln cl w hs ha h1
  by_cases h_1 : d = 1
  · subst h_1
    rw [show pl 1 x y z t f ag n = some (cat [x, ⟨#[32, 61, 32, 110, 101, 119, 32]⟩, t, ⟨#[91, 93, 59]⟩]) from rfl]
    exact one_1 x y z t f ag n A1 A3 A4 c1 l3 c3 l4 c4 ln cl w hs ha h1
  by_cases h_2 : d = 2
  · subst h_2
    rw [show pl 2 x y z t f ag n = some (cat [x, ⟨#[32, 61, 32, 110, 117, 108, 108, 59]⟩]) from rfl]
    exact one_2 x y z t f ag n A1 A3 A4 c1 l3 c3 l4 c4 ln cl w hs ha h1
  by_cases h_3 : d = 3
  · subst h_3
    rw [show pl 3 x y z t f ag n = some (cat [x, ⟨#[32, 61, 32]⟩, y, ⟨#[59]⟩]) from rfl]
    exact one_3 x y z t f ag n A1 A3 A4 c1 l3 c3 l4 c4 ln cl w hs ha h1
  by_cases h_4 : d = 4
  · subst h_4
    rw [show pl 4 x y z t f ag n = some (cat [x, ⟨#[32, 61, 32, 40]⟩, t, ⟨#[41, 32]⟩, y, ⟨#[59]⟩]) from rfl]
    exact one_4 x y z t f ag n A1 A3 A4 c1 l3 c3 l4 c4 ln cl w hs ha h1
  by_cases h_5 : d = 5
  · subst h_5
    rw [show pl 5 x y z t f ag n = some (cat [x, ⟨#[32, 61, 32]⟩, y, ⟨#[46]⟩, f, ⟨#[59]⟩]) from rfl]
    exact one_5 x y z t f ag n A1 A3 A4 c1 l3 c3 l4 c4 ln cl w hs ha h1
  by_cases h_6 : d = 6
  · subst h_6
    rw [show pl 6 x y z t f ag n = some (cat [x, ⟨#[46]⟩, f, ⟨#[32, 61, 32]⟩, y, ⟨#[59]⟩]) from rfl]
    exact one_6 x y z t f ag n A1 A3 A4 c1 l3 c3 l4 c4 ln cl w hs ha h1
  by_cases h_7 : d = 7
  · subst h_7
    rw [show pl 7 x y z t f ag n = some (cat [x, ⟨#[32, 61, 32]⟩, t, ⟨#[58, 58]⟩, f, ⟨#[59]⟩]) from rfl]
    exact one_7 x y z t f ag n A1 A3 A4 c1 l3 c3 l4 c4 ln cl w hs ha h1
  by_cases h_8 : d = 8
  · subst h_8
    rw [show pl 8 x y z t f ag n = some (cat [t, ⟨#[58, 58]⟩, f, ⟨#[32, 61, 32]⟩, y, ⟨#[59]⟩]) from rfl]
    exact one_8 x y z t f ag n A1 A3 A4 c1 l3 c3 l4 c4 ln cl w hs ha h1
  by_cases h_9 : d = 9
  · subst h_9
    rw [show pl 9 x y z t f ag n = some (cat [x, ⟨#[32, 61, 32]⟩, y, ⟨#[91]⟩, z, ⟨#[93, 59]⟩]) from rfl]
    exact one_9 x y z t f ag n A1 A3 A4 c1 l3 c3 l4 c4 ln cl w hs ha h1
  by_cases h_10 : d = 10
  · subst h_10
    rw [show pl 10 x y z t f ag n = some (cat [x, ⟨#[91]⟩, z, ⟨#[93, 32, 61, 32]⟩, y, ⟨#[59]⟩]) from rfl]
    exact one_10 x y z t f ag n A1 A3 A4 c1 l3 c3 l4 c4 ln cl w hs ha h1
  by_cases h_11 : d = 11
  · subst h_11
    rw [show pl 11 x y z t f ag n = some (callT x [y, ⟨#[46]⟩, f] ag) from rfl]
    exact one_11 x y z t f ag n A1 A3 A4 c1 l3 c3 l4 c4 ln cl w hs ha h1
  by_cases h_12 : d = 12
  · subst h_12
    rw [show pl 12 x y z t f ag n = some (callT x [y, ⟨#[46]⟩, t, ⟨#[58, 58]⟩, f] ag) from rfl]
    exact one_12 x y z t f ag n A1 A3 A4 c1 l3 c3 l4 c4 ln cl w hs ha h1
  by_cases h_13 : d = 13
  · subst h_13
    rw [show pl 13 x y z t f ag n = some (callT x [t, ⟨#[58, 58]⟩, f] ag) from rfl]
    exact one_13 x y z t f ag n A1 A3 A4 c1 l3 c3 l4 c4 ln cl w hs ha h1
  by_cases h_14 : d = 14
  · subst h_14
    rw [show pl 14 x y z t f ag n = some (cat [x, ⟨#[32, 61, 32]⟩, mk (Lib.itoa n), ⟨#[59]⟩]) from rfl]
    exact one_14 x y z t f ag n A1 A3 A4 c1 l3 c3 l4 c4 ln cl w hs ha h1 hn
  by_cases h_15 : d = 15
  · subst h_15
    rw [show pl 15 x y z t f ag n = some (cat [x, ⟨#[32, 61, 32]⟩, y, ⟨#[32, 43, 32]⟩, z, ⟨#[59]⟩]) from rfl]
    exact one_15 x y z t f ag n A1 A3 A4 c1 l3 c3 l4 c4 ln cl w hs ha h1
  by_cases h_16 : d = 16
  · subst h_16
    rw [show pl 16 x y z t f ag n = some (cat [x, ⟨#[32, 61, 32]⟩, y, ⟨#[32, 45, 32]⟩, z, ⟨#[59]⟩]) from rfl]
    exact one_16 x y z t f ag n A1 A3 A4 c1 l3 c3 l4 c4 ln cl w hs ha h1
  by_cases h_17 : d = 17
  · subst h_17
    rw [show pl 17 x y z t f ag n = some (cat [x, ⟨#[32, 61, 32, 105, 110, 112, 117, 116, 59]⟩]) from rfl]
    exact one_17 x y z t f ag n A1 A3 A4 c1 l3 c3 l4 c4 ln cl w hs ha h1
  by_cases h_18 : d = 18
  · subst h_18
    rw [show pl 18 x y z t f ag n = some (cat [⟨#[116, 104, 114, 111, 119, 32]⟩, x, ⟨#[59]⟩]) from rfl]
    exact one_18 x y z t f ag n A1 A3 A4 c1 l3 c3 l4 c4 ln cl w hs ha h1
  by_cases h_22 : d = 22
  · subst h_22
    rw [show pl 22 x y z t f ag n = some (retT x) from rfl]
    exact one_22 x y z t f ag n A1 A3 A4 c1 l3 c3 l4 c4 ln cl w hs ha h1
  have e : pl d x y z t f ag n = none := by
    unfold pl
    rw [if_neg h_0, if_neg h_1, if_neg h_2, if_neg h_3, if_neg h_4, if_neg h_5, if_neg h_6, if_neg h_7, if_neg h_8, if_neg h_9, if_neg h_10, if_neg h_11, if_neg h_12, if_neg h_13, if_neg h_14, if_neg h_15, if_neg h_16, if_neg h_17, if_neg h_18, if_neg h_22]
  rw [e]
  have hd : ∀ k ∈ [0, 1, 2, 3, 4, 5, 6, 7, 8, 9, 10, 11, 12, 13, 14, 15, 16, 17, 18, 22], d ≠ (k : Int) := by
    intro k hk e
    simp at hk
    omega
  exact one_none d x y z t f ag n A1 A3 A4 c1 l3 c3 l4 c4 ln cl w hs ha h1 hd
/-- Since w0 a list of texts was made: it is L, at v; nothing older was turned. -/
def Bld (w0 w : World) (v : Value) (L : List ByteArray) : Prop := OwnS w v L ∧ Nw w0.heap.size v ∧ Turn [] w0 w
theorem Bld.nil (w : World) : Bld w w (.slice none 0 0) [] := ⟨OwnS.nil w, (fun g hg => by cases hg), Turn.refl _ _⟩
theorem Bld.one (w : World) (s : ByteArray) : Bld w (w.alloc (.cells #[.string s] 9)) (.slice (some ⟨w.heap.size, 0, none⟩) 1 1) [s] :=
  ⟨OwnS.one w s, (fun g hg => by injection hg with hg; exact Nat.le_of_eq hg), bx w _ _⟩
theorem Bld.turn' {w0 w w' : World} {v : Value} {L : List ByteArray} (h : Bld w0 w v L) (t : Turn [] w w') : Bld w0 w' v L := ⟨h.1.turn t (by simp), h.2.1, h.2.2.trans' t⟩
theorem Bld.before {w0 w1 w : World} {v : Value} {L : List ByteArray} (h : Bld w1 w v L) (t : Turn [] w0 w1) : Bld w0 w v L := ⟨h.1, fun g hg => Nat.le_trans t.size (h.2.1 g hg), t.trans' h.2.2⟩
/-- append onto it. -/
theorem wpList_bld {ops : Array Oper} {rest : List Oper} {o : Oper} {a : Act} {Q : Exit → Act → World → Prop} (hgd : o.guard = none) (s x : Operand)
    (ho : o.op = .call { callee := .builtin .append, args := #[s, x], argTypes := #[39, 39] }) (w0 w : World) (v : Value) (l m : List ByteArray) (A : Option Addr) (n c : Nat)
    (hs : a.eval s = v) (hx : a.eval x = .slice A n c) (hB : Bld w0 w v l) (hm : Sts w A m) (hn : n = m.length) (hl : l.length + m.length ≤ 1000000000)
    (h : ∀ v' w', Bld w0 w' v' (l ++ m) → wpList Tryz.prog ops Q rest (a.put o.dst v') w') :
    wpList Tryz.prog ops Q (o :: rest) a w :=
  wpList_appS hgd s x ho w v l m A n c hs hx hB.1 hm hn hl fun v' w' h1 h2 h3 => h v' w' ⟨h1, h3 _ hB.2.1 hB.2.2.size, hB.2.2.trans h2 (fun g hg => .inr (hB.2.1 g (by simpa using hg)))⟩
theorem pl_sz (d : Int) (x y z t f : ByteArray) (ag : List ByteArray) (n : Int) (hs : x.size ≤ 1000 ∧ y.size ≤ 1000 ∧ z.size ≤ 1000 ∧ t.size ≤ 1000 ∧ f.size ≤ 1000) (ha : ag.length ≤ 1000 ∧ ∀ a ∈ ag, a.size ≤ 1000) (hn : -9223372036854775808 ≤ n ∧ n ≤ 9223372036854775807) :
    ∀ s ∈ (pl d x y z t f ag n), 0 < s.size ∧ s.size ≤ 1200000 := by
  have hi : (mk (Lib.itoa n)).size ≤ 21 := by rw [size_bs, bs_mk]; exact Lib.itoa_length_le n hn.1 hn.2
  have hj : (jn ag ⟨#[44, 32]⟩).size ≤ 1002000 := by
    have := size_jn_le ag ⟨#[44, 32]⟩ 1000 2 ha.2 (by decide)
    have h3 : ag.length * (1000 + 2) ≤ 1000 * 1002 := Nat.mul_le_mul ha.1 (by omega)
    omega
  have ht : (tgt x).size ≤ 1003 := by
    unfold tgt
    split
    · decide
    · rw [size_app, show (⟨#[32, 61, 32]⟩ : ByteArray).size = 3 from rfl]; omega
  have hr : 0 < (retT x).size ∧ (retT x).size ≤ 1200000 := by
    unfold retT
    split <;> rw [size_cat] <;> simp [sz_lit] <;> omega
  intro s hs'
  rw [Option.mem_def, pl] at hs'
  by_cases h_0 : d = 0
  · rw [if_pos h_0] at hs'
    injection hs' with hs'
    subst hs'
    rw [size_cat]; simp [sz_lit]; omega
  rw [if_neg h_0] at hs'
  by_cases h_1 : d = 1
  · rw [if_pos h_1] at hs'
    injection hs' with hs'
    subst hs'
    rw [size_cat]; simp [sz_lit]; omega
  rw [if_neg h_1] at hs'
  by_cases h_2 : d = 2
  · rw [if_pos h_2] at hs'
    injection hs' with hs'
    subst hs'
    rw [size_cat]; simp [sz_lit]; omega
  rw [if_neg h_2] at hs'
  by_cases h_3 : d = 3
  · rw [if_pos h_3] at hs'
    injection hs' with hs'
    subst hs'
    rw [size_cat]; simp [sz_lit]; omega
  rw [if_neg h_3] at hs'
  by_cases h_4 : d = 4
  · rw [if_pos h_4] at hs'
    injection hs' with hs'
    subst hs'
    rw [size_cat]; simp [sz_lit]; omega
  rw [if_neg h_4] at hs'
  by_cases h_5 : d = 5
  · rw [if_pos h_5] at hs'
    injection hs' with hs'
    subst hs'
    rw [size_cat]; simp [sz_lit]; omega
  rw [if_neg h_5] at hs'
  by_cases h_6 : d = 6
  · rw [if_pos h_6] at hs'
    injection hs' with hs'
    subst hs'
    rw [size_cat]; simp [sz_lit]; omega
  rw [if_neg h_6] at hs'
  by_cases h_7 : d = 7
  · rw [if_pos h_7] at hs'
    injection hs' with hs'
    subst hs'
    rw [size_cat]; simp [sz_lit]; omega
  rw [if_neg h_7] at hs'
  by_cases h_8 : d = 8
  · rw [if_pos h_8] at hs'
    injection hs' with hs'
    subst hs'
    rw [size_cat]; simp [sz_lit]; omega
  rw [if_neg h_8] at hs'
  by_cases h_9 : d = 9
  · rw [if_pos h_9] at hs'
    injection hs' with hs'
    subst hs'
    rw [size_cat]; simp [sz_lit]; omega
  rw [if_neg h_9] at hs'
  by_cases h_10 : d = 10
  · rw [if_pos h_10] at hs'
    injection hs' with hs'
    subst hs'
    rw [size_cat]; simp [sz_lit]; omega
  rw [if_neg h_10] at hs'
  by_cases h_11 : d = 11
  · rw [if_pos h_11] at hs'
    injection hs' with hs'
    subst hs'
    unfold callT; rw [size_cat]; simp [sz_lit, size_cat]; omega
  rw [if_neg h_11] at hs'
  by_cases h_12 : d = 12
  · rw [if_pos h_12] at hs'
    injection hs' with hs'
    subst hs'
    unfold callT; rw [size_cat]; simp [sz_lit, size_cat]; omega
  rw [if_neg h_12] at hs'
  by_cases h_13 : d = 13
  · rw [if_pos h_13] at hs'
    injection hs' with hs'
    subst hs'
    unfold callT; rw [size_cat]; simp [sz_lit, size_cat]; omega
  rw [if_neg h_13] at hs'
  by_cases h_14 : d = 14
  · rw [if_pos h_14] at hs'
    injection hs' with hs'
    subst hs'
    rw [size_cat]; simp [sz_lit]; omega
  rw [if_neg h_14] at hs'
  by_cases h_15 : d = 15
  · rw [if_pos h_15] at hs'
    injection hs' with hs'
    subst hs'
    rw [size_cat]; simp [sz_lit]; omega
  rw [if_neg h_15] at hs'
  by_cases h_16 : d = 16
  · rw [if_pos h_16] at hs'
    injection hs' with hs'
    subst hs'
    rw [size_cat]; simp [sz_lit]; omega
  rw [if_neg h_16] at hs'
  by_cases h_17 : d = 17
  · rw [if_pos h_17] at hs'
    injection hs' with hs'
    subst hs'
    rw [size_cat]; simp [sz_lit]; omega
  rw [if_neg h_17] at hs'
  by_cases h_18 : d = 18
  · rw [if_pos h_18] at hs'
    injection hs' with hs'
    subst hs'
    rw [size_cat]; simp [sz_lit]; omega
  rw [if_neg h_18] at hs'
  by_cases h_22 : d = 22
  · rw [if_pos h_22] at hs'
    injection hs' with hs'
    subst hs'
    exact hr
  rw [if_neg h_22] at hs'
  cases hs'
mutual
theorem rw1_ok (D : Nat) : ∀ (s : St), FtS s → ∀ r ∈ rw1 D s, r.2.size ≤ 1200000 ∧ r.1 ≤ D + (rw1 D s).length
  | .mk d x y z t f ag n bd ot lin cl, h => by
    obtain ⟨hn, hs, ha, hb, ho⟩ := h.parts
    have ib := rwL_ok (D + 1) bd hb
    have io := rwL_ok (D + 1) ot ho
    have h1 : tryT.size ≤ 1200000 := by decide
    have h2 : (catchT t x).size ≤ 1200000 := by unfold catchT; rw [size_cat]; simp [sz_lit]; omega
    have h3 : (ifT y z).size ≤ 1200000 := by unfold ifT; rw [size_cat]; simp [sz_lit]; omega
    have h4 : (whileT y z).size ≤ 1200000 := by unfold whileT; rw [size_cat]; simp [sz_lit]; omega
    have h5 : elseT.size ≤ 1200000 := by decide
    have h6 : shutT.size ≤ 1200000 := by decide
    by_cases h19 : d = 19
    · subst h19
      rw [rw1_try]
      intro r hr
      simp only [List.mem_append, List.mem_singleton] at hr
      simp only [List.length_append, List.length_singleton]
      rcases hr with (((rfl | hr) | rfl) | hr) | rfl
      · exact ⟨h1, by omega⟩
      · have := ib r hr; exact ⟨this.1, by omega⟩
      · exact ⟨h2, by omega⟩
      · have := io r hr; exact ⟨this.1, by omega⟩
      · exact ⟨h6, by omega⟩
    · by_cases h20 : d = 20
      · subst h20
        rw [rw1_if]
        intro r hr
        simp only [List.mem_append, List.mem_singleton] at hr
        simp only [List.length_append, List.length_singleton]
        rcases hr with ((rfl | hr) | hr) | rfl
        · exact ⟨h3, by omega⟩
        · have := ib r hr; exact ⟨this.1, by omega⟩
        · split at hr
          · simp at hr
          · rename_i hne
            simp only [List.mem_append, List.mem_singleton] at hr
            rw [if_neg hne, List.length_append, List.length_singleton]
            rcases hr with rfl | hr
            · exact ⟨h5, by omega⟩
            · have := io r hr; exact ⟨this.1, by omega⟩
        · exact ⟨h6, by omega⟩
      · by_cases h21 : d = 21
        · subst h21
          rw [rw1_while]
          intro r hr
          simp only [List.mem_append, List.mem_singleton] at hr
          simp only [List.length_append, List.length_singleton]
          rcases hr with (rfl | hr) | rfl
          · exact ⟨h4, by omega⟩
          · have := ib r hr; exact ⟨this.1, by omega⟩
          · exact ⟨h6, by omega⟩
        · rw [rw1_plain h19 h20 h21]
          intro r hr
          obtain ⟨s, hs', rfl⟩ := List.mem_map.1 hr
          exact ⟨(pl_sz d x y z t f ag n hs ha hn s (by simpa using hs')).2, by simp⟩
theorem rwL_ok (D : Nat) : ∀ (l : List St), FtL l → ∀ r ∈ rwL D l, r.2.size ≤ 1200000 ∧ r.1 ≤ D + (rwL D l).length
  | [], _ => by rw [rwL_nil]; simp
  | s :: l, h => by
    rw [FtL] at h
    rw [rwL_cons]
    intro r hr
    rw [List.length_append]
    rcases List.mem_append.1 hr with hr | hr
    · have := rw1_ok D s h.1 r hr; exact ⟨this.1, by omega⟩
    · have := rwL_ok D l h.2 r hr; exact ⟨this.1, by omega⟩
end
theorem ln_sz {r : Row} {k : Nat} (h1 : r.2.size ≤ 1200000) (h2 : r.1 ≤ k) : (ln r).size ≤ 2 * k + 1200000 := by
  unfold ln
  rw [size_bs, bs_mk, List.length_append, List.length_replicate, ← size_bs]
  omega
/-- What the reference's Lines answers for this statement. -/
def RSaidS (s : St) : Prop := ∀ (cs : List Value) (B : Nat) (w : World), RdS B w cs s → B ≤ w.heap.size → (rw1 0 s).length ≤ 100000000 →
  Calls Tryz.prog 42 #[.agg cs.toArray] w fun e w' => ∃ A' c', e = .returned (.slice A' (rw1 0 s).length c') ∧ Bld w w' (.slice A' (rw1 0 s).length c') ((rw1 0 s).map ln)
/-- What the reference's All answers for these statements. -/
def RSaidL (l : List St) : Prop := ∀ (A : Option Addr) (c B : Nat) (w : World), RdL B w A 0 l → B ≤ w.heap.size → (rwL 0 l).length ≤ 100000000 → l.length ≤ 100000000 →
  Calls Tryz.prog 73 #[.slice A l.length c] w fun e w' => ∃ A' c', e = .returned (.slice A' (rwL 0 l).length c') ∧ Bld w w' (.slice A' (rwL 0 l).length c') ((rwL 0 l).map ln)
set_option maxHeartbeats 4000000 in
set_option maxRecDepth 100000 in
theorem all_of (l : List St) (hs : ∀ s ∈ l, RSaidS s) : RSaidL l := by
  intro A c B w hr hB hz hlen
  have HS := Lib.hid hs
  have HR := Lib.hid hr
  obtain ⟨n, hn⟩ : ∃ n, l.length = n := ⟨_, rfl⟩
  have HN := Lib.hid hn
  rw [hn] at hlen ⊢
  have HZ := Lib.hid hz
  clear hs hr hn hz
  go_enter Tryz.func73, Tryz.ntmps73
  go_wp2_with fail
  go_loopw [3, 4] (fun v i wr => ∃ k : Nat, k ≤ n ∧ i = .int .i64 (k : Int) ∧ Hid (Bld w wr v ((rwL 0 (l.take k)).map ln))) (fun _ i _ => n - (intOf i).toNat)
  case atStart => exact ⟨0, Nat.zero_le _, rfl, Lib.hid (by rw [List.take_zero, rwL_nil]; exact Bld.nil w)⟩
  case round =>
    obtain ⟨k, hk, rfl, HW⟩ := hrel
    by_cases hlt : k < n
    · have hT1 := HW.out.2.2
      obtain ⟨s, hsk⟩ := at_lt (l := l) (k := k) (by rw [HN.out]; exact hlt)
      obtain ⟨g, off, cs, rfl, hgB, hgl, hcell, hRd⟩ := RdL.at (HR.out.turn hT1 (by simp) l) hsk
      rw [Nat.zero_add] at hcell
      have hlen1 := rwL_take_le 0 l (k + 1)
      rw [rwL_take hsk, List.length_append] at hlen1
      have hz := HZ.out
      have HC := Lib.hid (HS.out s (List.mem_of_getElem? hsk) cs B wr hRd (Nat.le_trans hB hT1.size) (by omega))
      have hlt1 : (rwL 0 (l.take k)).length + (rw1 0 s).length ≤ 1000000000 := by omega
      have HLT := Lib.hid hlt1
      have HSK := Lib.hid hsk
      obtain ⟨m, hm⟩ : ∃ m, (rw1 0 s).length = m := ⟨_, rfl⟩
      have HM := Lib.hid hm
      rw [hm] at HC
      clear hlen1 hlt1 hm hz
      obtain ⟨d, x, y, z, t, f, ag, nn, bd, ot, lin, cl⟩ := s
      obtain ⟨A1, c1, A2, c2, A3, c3, rfl, -, -, -, -⟩ := hRd.cells
      have e0 : wr.cell? ⟨g, off + k * 12, none⟩ = some (.int .i64 d) := hcell 0 _ rfl
      have e1 := hcell 1 _ rfl
      have e2 := hcell 2 _ rfl
      have e3 := hcell 3 _ rfl
      have e4 := hcell 4 _ rfl
      have e5 := hcell 5 _ rfl
      have e6 := hcell 6 _ rfl
      have e7 := hcell 7 _ rfl
      have e8 := hcell 8 _ rfl
      have e9 := hcell 9 _ rfl
      have e10 := hcell 10 _ rfl
      have e11 := hcell 11 _ rfl
      clear hsk hRd hT1 hcell
      go_wp2_with fail
      refine HC.out.mono ?_
      rintro e w2 ⟨A', c', rfl, hb⟩
      have HB2 := Lib.hid hb
      clear hb e0 e1 e2 e3 e4 e5 e6 e7 e8 e9 e10 e11
      go_wp2_with (at_builtin
                   refine wpList_bld rfl (.tmp 11) (.tmp 16) rfl w w2 u3 ((rwL 0 (l.take k)).map ln) ((rw1 0 _).map ln) A' m c' rfl rfl (HW.out.turn' HB2.out.2.2) (OwnS.sts HB2.out.1).2.2 (by rw [List.length_map]; exact HM.out.symm) (by simpa using HLT.out) ?_
                   intro v3 w3 hb3
                   have HB3 := Lib.hid hb3
                   clear hb3)
      go_roundw
      case rel => exact ⟨k + 1, by omega, by go_num, Lib.hid (by rw [rwL_take HSK.out, List.map_append]; exact HB3.out)⟩
      case measure => simp [intOf]; omega
    · have hkn : k = n := by omega
      subst hkn
      have hb := HW.out
      rw [List.take_of_length_le (by rw [HN.out]; exact Nat.le_refl _)] at hb
      obtain ⟨A', c', hv, _, _⟩ := owns_form hb.1
      rw [List.length_map] at hv
      subst hv
      have HB := Lib.hid hb
      clear hb HW
      go_wp2_with fail
      go_ret
      exact ⟨A', c', rfl, HB.out⟩
theorem FtL_of : ∀ {l : List St}, (∀ s ∈ l, FtS s) → FtL l
  | [], _ => by rw [FtL]; trivial
  | s :: l, h => by rw [FtL]; exact ⟨h s (by simp), FtL_of fun u hu => h u (by simp [hu])⟩
/-- It begins neither with nothing nor with two blanks. -/
def Gh (l : List UInt8) : Prop := ∃ a r, l = a :: r ∧ (a = 32 → ∃ b r', r = b :: r' ∧ b ≠ 32)
def Gd (s : ByteArray) : Prop := Gh (bs s) ∧ (10 : UInt8) ∉ bs s
end Go.Proofs.YtnmhcgkccchacaaGreatDoor.R6

/- Of the reference that prints (stage 6's texts Rli, what is wanted of them; printed by mkr6.py). -/
set_option linter.unusedSimpArgs false
set_option linter.unusedVariables false
set_option maxRecDepth 100000
namespace Go.Proofs.YtnmhcgkccchacaaGreatDoor.R6
open Go.RowKit

theorem pl_none_of {d : Int} {x y z t f : ByteArray} {ag : List ByteArray} {n : Int} (h : d = 19 ∨ d = 20 ∨ d = 21) : pl d x y z t f ag n = none := by
  rcases h with rfl | rfl | rfl <;> rfl
theorem cat_one (a : ByteArray) : cat [a] = a := by apply bs_inj; rw [bs_cat]; simp
theorem tryT_eq : tryT = ⟨#[116, 114, 121, 32, 123]⟩ := cat_one _
theorem shutT_eq : shutT = ⟨#[125]⟩ := cat_one _
theorem elseT_eq : elseT = ⟨#[125, 32, 101, 108, 115, 101, 32, 123]⟩ := cat_one _
theorem catchT_eq (t x : ByteArray) : catchT t x = ⟨#[125, 32, 99, 97, 116, 99, 104, 32, 40]⟩ ++ t ++ ⟨#[32]⟩ ++ x ++ ⟨#[41, 32, 123]⟩ := by apply bs_inj; unfold catchT; simp only [bs_append, bs_cat, List.flatMap_cons, List.flatMap_nil, List.append_assoc, List.append_nil]
theorem ifT_eq (y z : ByteArray) : ifT y z = ⟨#[105, 102, 32, 40]⟩ ++ y ++ ⟨#[32, 60, 32]⟩ ++ z ++ ⟨#[41, 32, 123]⟩ := by apply bs_inj; unfold ifT; simp only [bs_append, bs_cat, List.flatMap_cons, List.flatMap_nil, List.append_assoc, List.append_nil]
theorem whileT_eq (y z : ByteArray) : whileT y z = ⟨#[119, 104, 105, 108, 101, 32, 40]⟩ ++ y ++ ⟨#[32, 60, 32]⟩ ++ z ++ ⟨#[41, 32, 123]⟩ := by apply bs_inj; unfold whileT; simp only [bs_append, bs_cat, List.flatMap_cons, List.flatMap_nil, List.append_assoc, List.append_nil]
theorem lines_end {w w5 w9 : World} {v : Value} {L : List ByteArray} {rows : List Row} (hb : Bld w5 w9 v L) (t : Turn [] w w5) (hL : L = rows.map ln) : ∃ A' c', Ending.returned v = .returned (.slice A' rows.length c') ∧ Bld w w9 (.slice A' rows.length c') (rows.map ln) := by
  subst hL
  obtain ⟨A', c', hv, _, _⟩ := owns_form hb.1
  rw [List.length_map] at hv
  subst hv
  exact ⟨A', c', rfl, hb.before t⟩
theorem Bld.form {w0 w : World} {v : Value} {L : List ByteArray} (h : Bld w0 w v L) : ∃ A n c, v = .slice A n c := by
  obtain ⟨A', c', hv, _, _⟩ := owns_form h.1
  exact ⟨_, _, _, hv⟩
theorem Bld.cell {w0 w : World} {v : Value} {L : List ByteArray} (h : Bld w0 w v L) {g o : Nat} {u : Value} (hc : w0.cell? ⟨g, o, none⟩ = some u) : w.cell? ⟨g, o, none⟩ = some u := (h.2.2.cell (p := ⟨g, o, none⟩) (cell_lt hc) (by simp)).trans hc
set_option maxHeartbeats 8000000 in
set_option maxRecDepth 100000 in
theorem lines_of (s : St) (hf : FtS s) (hb : ∀ d x y z t f ag n bd ot ln cl, s = .mk d x y z t f ag n bd ot ln cl → RSaidL bd ∧ RSaidL ot ∧ bd.length ≤ 1000000 ∧ ot.length ≤ 1000000 ∧ (rwL 0 bd).length ≤ 10000000 ∧ (rwL 0 ot).length ≤ 10000000) : RSaidS s := by
  obtain ⟨d, x, y, z, t, f, ag, n, bd, ot, lin, cl⟩ := s
  intro cs B w hr hBw hz
  obtain ⟨hB, hO, hlb, hlo, hnb, hno⟩ := hb _ _ _ _ _ _ _ _ _ _ _ _ rfl
  obtain ⟨hn, hsz, ha, hfb, hfo⟩ := hf.parts
  have hokb := rwL_ok 0 bd hfb
  have hoko := rwL_ok 0 ot hfo
  obtain ⟨A1, c1, A2, c2, A3, c3, rfl, k1, k2, k3, r1, r1B, r2, r3⟩ := hr.cells
  have tA := bx w #[.int .i64 d, .string x, .string y, .string z, .string t, .string f, .slice A1 ag.length c1, .int .i64 n, .slice A2 bd.length c2, .slice A3 ot.length c3, .int .i64 lin, .int .i64 cl] 41
  obtain ⟨W, hW⟩ : ∃ W, w.alloc (.cells #[.int .i64 d, .string x, .string y, .string z, .string t, .string f, .slice A1 ag.length c1, .int .i64 n, .slice A2 bd.length c2, .slice A3 ot.length c3, .int .i64 lin, .int .i64 cl] 41) = W := ⟨_, rfl⟩
  have hg : W.heap[w.heap.size]? = some (.cells #[.int .i64 d, .string x, .string y, .string z, .string t, .string f, .slice A1 ag.length c1, .int .i64 n, .slice A2 bd.length c2, .slice A3 ot.length c3, .int .i64 lin, .int .i64 cl] 41 (0, 0)) := by rw [← hW]; exact heap_alloc_new w _
  rw [hW] at tA
  have hgl : w.heap.size < W.heap.size := (Array.getElem?_eq_some_iff.1 hg).1
  have HW := Lib.hid hW
  have HG := Lib.hid hg
  have HT := Lib.hid tA
  have R2 := Lib.hid (r2.turn tA (by simp) bd)
  have R3 := Lib.hid (r3.turn tA (by simp) ot)
  have hBW : B ≤ W.heap.size := by omega
  have HC1 := Lib.hid (one_any d x y z t f ag n A1 A2 A3 c1 bd.length c2 ot.length c3 lin cl W hsz ha (r1.turn' tA) hn)
  have HPS := Lib.hid (pl_sz d x y z t f ag n hsz ha hn)
  have HSZ := Lib.hid hsz
  cases hp : pl d x y z t f ag n with
  | some p =>
    have hpp := HPS.out p (by rw [hp]; rfl)
    have hd : d ≠ 19 ∧ d ≠ 20 ∧ d ≠ 21 := by
      refine ⟨?_, ?_, ?_⟩ <;> (intro e; rw [pl_none_of (by simp [e])] at hp; cases hp)
    have hrow : rw1 0 (.mk d x y z t f ag n bd ot lin cl) = [(0, p)] := by rw [rw1_plain hd.1 hd.2.1 hd.2.2, hp]; rfl
    rw [hrow]
    rw [hp, show (some p).getD (⟨#[]⟩ : ByteArray) = p from rfl] at HC1
    have hbn := bytes_ne (fun e : p = ⟨#[]⟩ => by rw [e] at hpp; exact absurd hpp.1 (by decide))
    clear hpp hrow hp hd HPS hr r1 r2 r3 r1B hz tA hg hW hf hb hB hO hokb hoko hn hsz ha hfb hfo HSZ
    go_enter Tryz.func42, Tryz.ntmps42
    go_wp2_with fail
    rw [HW.out]
    refine HC1.out.mono ?_
    rintro e w1 ⟨rfl, t1⟩
    have HT1 := Lib.hid t1
    clear t1
    go_wp2_with fail
    go_ret
    refine ⟨_, _, rfl, ?_⟩
    have := (Bld.one w1 p).before (HT.out.trans' HT1.out)
    simpa [ln_zero] using this
  | none =>
    rw [hp, show (none : Option ByteArray).getD (⟨#[]⟩ : ByteArray) = ⟨#[]⟩ from rfl] at HC1
    have HPN := Lib.hid hp
    have HA : Hid (∀ W', Turn [] W W' → Calls Tryz.prog 73 #[.slice A2 bd.length c2] W' fun e w' => ∃ A' c', e = .returned (.slice A' (rwL 0 bd).length c') ∧ Bld W' w' (.slice A' (rwL 0 bd).length c') ((rwL 0 bd).map ln)) := Lib.hid (fun W' hT => hB A2 c2 B W' (R2.out.turn hT (by simp) bd) (Nat.le_trans hBW hT.size) (by omega) (by omega))
    have HA2 : Hid (∀ W', Turn [] W W' → Calls Tryz.prog 73 #[.slice A3 ot.length c3] W' fun e w' => ∃ A' c', e = .returned (.slice A' (rwL 0 ot).length c') ∧ Bld W' w' (.slice A' (rwL 0 ot).length c') ((rwL 0 ot).map ln)) := Lib.hid (fun W' hT => hO A3 c3 B W' (R3.out.turn hT (by simp) ot) (Nat.le_trans hBW hT.size) (by omega) (by omega))
    have HFu : Hid (∀ (l : List St) (A : Option Addr) (c : Nat) (W' : World), (∀ r ∈ rwL 0 l, r.2.size ≤ 1200000 ∧ r.1 ≤ 0 + (rwL 0 l).length) → (rwL 0 l).length ≤ 10000000 → Sts W' A ((rwL 0 l).map ln) → Calls Tryz.prog 72 #[.slice A (rwL 0 l).length c] W' fun e w' => ∃ A' c', e = .returned (.slice A' (rwL 0 l).length c') ∧ Bld W' w' (.slice A' (rwL 0 l).length c') ((rwL 1 l).map ln)) := Lib.hid (fun l A c W' hok hle hst => by
      have := further_any A c ((rwL 0 l).map ln) W' hst (by rw [List.length_map]; omega) (by
        intro q hq
        obtain ⟨r, hr, rfl⟩ := List.mem_map.1 hq
        have := hok r hr
        have := ln_sz (k := (rwL 0 l).length) this.1 (by omega)
        omega)
      rw [List.length_map, fur_rows] at this
      exact this)
    have HOB := Lib.hid hokb
    have HOO := Lib.hid hoko
    have HNB := Lib.hid hnb
    have HNO := Lib.hid hno
    have HZ := Lib.hid hz
    obtain ⟨nb, hnb'⟩ : ∃ q, (rwL 0 bd).length = q := ⟨_, rfl⟩
    obtain ⟨no, hno'⟩ : ∃ q, (rwL 0 ot).length = q := ⟨_, rfl⟩
    have HF1 := Lib.hid (fun A c W' h => HFu.out bd A c W' HOB.out HNB.out h)
    have HF2 := Lib.hid (fun A c W' h => HFu.out ot A c W' HOO.out HNO.out h)
    rw [hnb'] at HA HF1 hnb
    rw [hno'] at HA2 HF2 hno
    have HNL := Lib.hid (And.intro hnb' hno')
    clear hp HPS hr r1 r2 r3 r1B hz tA hg hW hf hb hB hO hokb hoko hn hsz ha hfb hfo HFu hnb' hno'
    go_enter Tryz.func42, Tryz.ntmps42
    go_wp2_with fail
    rw [HW.out]
    refine HC1.out.mono ?_
    rintro e w1 ⟨rfl, t1⟩
    have e8 : w1.cell? ⟨w.heap.size, 8, none⟩ = some (.slice A2 bd.length c2) := (t1.cell (p := ⟨w.heap.size, 8, none⟩) hgl (by simp)).trans (cell_of_row W _ 8 _ _ _ HG.out)
    have e9 : w1.cell? ⟨w.heap.size, 9, none⟩ = some (.slice A3 ot.length c3) := (t1.cell (p := ⟨w.heap.size, 9, none⟩) hgl (by simp)).trans (cell_of_row W _ 9 _ _ _ HG.out)
    have hgl1 : w.heap.size < w1.heap.size := Nat.lt_of_lt_of_le hgl t1.size
    have HT1 := Lib.hid t1
    clear t1
    go_wp2_with fail
    go_region_held3 (fun w' => w'.cell? ⟨w.heap.size, 8, none⟩ = some (.slice A2 bd.length c2) ∧ w'.cell? ⟨w.heap.size, 9, none⟩ = some (.slice A3 ot.length c3))
      (first | exact ⟨e8, e9⟩ | exact ⟨i8, i9⟩ | exact ⟨j8, j9⟩ | exact ⟨k8, k9⟩ | exact ⟨l8, l9⟩ | go_keep)
      (first
        | (go_at_call 73; (with_reducible refine (HA.out w1.drew (by exact HT1.out.drew)).mono ?_); rintro e w2 ⟨Aa, ca, rfl, hba⟩
           have i8 : w2.cell? ⟨w.heap.size, 8, none⟩ = some (.slice A2 bd.length c2) := (hba.2.2.cell (p := ⟨w.heap.size, 8, none⟩) hgl1 (by simp)).trans e8
           have i9 : w2.cell? ⟨w.heap.size, 9, none⟩ = some (.slice A3 ot.length c3) := (hba.2.2.cell (p := ⟨w.heap.size, 9, none⟩) hgl1 (by simp)).trans e9
           have hgl2 : w.heap.size < w2.heap.size := Nat.lt_of_lt_of_le hgl1 hba.2.2.size
           have HBa := Lib.hid hba
           have HSa := Lib.hid (OwnS.sts hba.1).2.2
           have HTa := Lib.hid (HT1.out.drew.trans' hba.2.2)
           clear hba)
        | (go_at_call 72; (with_reducible refine (HF1.out Aa ca w2 (by exact HSa.out)).mono ?_); rintro e w3 ⟨Ab, cb, rfl, hbb⟩
           have j8 : w3.cell? ⟨w.heap.size, 8, none⟩ = some (.slice A2 bd.length c2) := (hbb.2.2.cell (p := ⟨w.heap.size, 8, none⟩) hgl2 (by simp)).trans i8
           have j9 : w3.cell? ⟨w.heap.size, 9, none⟩ = some (.slice A3 ot.length c3) := (hbb.2.2.cell (p := ⟨w.heap.size, 9, none⟩) hgl2 (by simp)).trans i9
           have hgl3 : w.heap.size < w3.heap.size := Nat.lt_of_lt_of_le hgl2 hbb.2.2.size
           have HBb := Lib.hid hbb
           have HTb := Lib.hid (HTa.out.trans' hbb.2.2)
           clear hbb)
        | (go_at_call 73; (with_reducible refine (HA2.out w3 (by exact HTb.out)).mono ?_); rintro e w4 ⟨Ac, cc, rfl, hbc⟩
           have k8 : w4.cell? ⟨w.heap.size, 8, none⟩ = some (.slice A2 bd.length c2) := (hbc.2.2.cell (p := ⟨w.heap.size, 8, none⟩) hgl3 (by simp)).trans j8
           have k9 : w4.cell? ⟨w.heap.size, 9, none⟩ = some (.slice A3 ot.length c3) := (hbc.2.2.cell (p := ⟨w.heap.size, 9, none⟩) hgl3 (by simp)).trans j9
           have hgl4 : w.heap.size < w4.heap.size := Nat.lt_of_lt_of_le hgl3 hbc.2.2.size
           have HBc := Lib.hid hbc
           have HSc := Lib.hid (OwnS.sts hbc.1).2.2
           clear hbc)
        | (go_at_call 72; (with_reducible refine (HF2.out Ac cc w4 (by exact HSc.out)).mono ?_); rintro e w5 ⟨Ad, cd, rfl, hbd⟩
           have l8 : w5.cell? ⟨w.heap.size, 8, none⟩ = some (.slice A2 bd.length c2) := (hbd.2.2.cell (p := ⟨w.heap.size, 8, none⟩) hgl4 (by simp)).trans k8
           have l9 : w5.cell? ⟨w.heap.size, 9, none⟩ = some (.slice A3 ot.length c3) := (hbd.2.2.cell (p := ⟨w.heap.size, 9, none⟩) hgl4 (by simp)).trans k9
           have HBd := Lib.hid hbd
           clear hbd)
        | fail)
    have hT5 : Turn [] W w5 := (HTb.out.trans' HBc.out.2.2).trans' HBd.out.2.2
    have HT5 := Lib.hid hT5
    have HSB : Hid (Sts w5 Ab ((rwL 1 bd).map ln) ∧ nb = ((rwL 1 bd).map ln).length) := Lib.hid ⟨((OwnS.sts HBb.out.1).2.2.turn' HBc.out.2.2).turn' HBd.out.2.2, (OwnS.sts HBb.out.1).1⟩
    have HSO : Hid (Sts w5 Ad ((rwL 1 ot).map ln) ∧ no = ((rwL 1 ot).map ln).length) := Lib.hid ⟨(OwnS.sts HBd.out.1).2.2, (OwnS.sts HBd.out.1).1⟩
    have hc5 : ∀ j v, (#[.int .i64 d, .string x, .string y, .string z, .string t, .string f, .slice A1 ag.length c1, .int .i64 n, .slice A2 bd.length c2, .slice A3 ot.length c3, .int .i64 lin, .int .i64 cl] : Array Value)[j]? = some v → w5.cell? ⟨w.heap.size, j, none⟩ = some v := fun j v hv => (hT5.cell (p := ⟨w.heap.size, j, none⟩) hgl (by simp)).trans ((cell_of_row W _ j _ _ _ HG.out).trans hv)
    have m0 := hc5 0 _ rfl
    have m1 := hc5 1 _ rfl
    have m2 := hc5 2 _ rfl
    have m3 := hc5 3 _ rfl
    have m4 := hc5 4 _ rfl
    have m9 := hc5 9 _ rfl
    clear hc5 hT5 e8 e9 i8 i9 j8 j9 k8 k9 l8 l9 HBa HBb HBc HBd HSa HTa HTb HSc HA HA2 HF1 HF2 HC1 hgl2 hgl3 hgl4 hgl1
    obtain ⟨Lb, hLb⟩ : ∃ L, (rwL 1 bd).map ln = L := ⟨_, rfl⟩
    obtain ⟨Lo, hLo⟩ : ∃ L, (rwL 1 ot).map ln = L := ⟨_, rfl⟩
    rw [hLb] at HSB
    rw [hLo] at HSO
    have hlb : Lb.length ≤ 10000000 := by have := HSB.out.2; omega
    have hlo : Lo.length ≤ 10000000 := by have := HSO.out.2; omega
    have HLB := Lib.hid (And.intro hLb hLo)
    obtain ⟨hx, hy, hz, ht, hf⟩ := HSZ.out
    clear hLb hLo
    by_cases h19 : d = 19
    · subst h19
      have d0 := add_run (⟨#[125, 32, 99, 97, 116, 99, 104, 32, 40]⟩) t (by simp only [size_app, sz_lit, List.size_toArray, List.length_cons, List.length_nil]; omega)
      have d1 := add_run (⟨#[125, 32, 99, 97, 116, 99, 104, 32, 40]⟩ ++ t) ⟨#[32]⟩ (by simp only [size_app, sz_lit, List.size_toArray, List.length_cons, List.length_nil]; omega)
      have d2 := add_run (⟨#[125, 32, 99, 97, 116, 99, 104, 32, 40]⟩ ++ t ++ ⟨#[32]⟩) x (by simp only [size_app, sz_lit, List.size_toArray, List.length_cons, List.length_nil]; omega)
      have d3 := add_run (⟨#[125, 32, 99, 97, 116, 99, 104, 32, 40]⟩ ++ t ++ ⟨#[32]⟩ ++ x) ⟨#[41, 32, 123]⟩ (by simp only [size_app, sz_lit, List.size_toArray, List.length_cons, List.length_nil]; omega)
      obtain ⟨C, hC⟩ : ∃ C, (⟨#[125, 32, 99, 97, 116, 99, 104, 32, 40]⟩ ++ t ++ ⟨#[32]⟩ ++ x ++ ⟨#[41, 32, 123]⟩ : ByteArray) = C := ⟨_, rfl⟩
      rw [hC] at d3
      have HC := Lib.hid hC
      clear hC
      clear hx hy hz ht hf
      go_upto_region 10 with (first
        | (at_builtin; refine wpList_bld rfl (.tmp 25) (.tmp 26) rfl w5 _ (.slice (some ⟨w5.heap.size, 0, none⟩) 1 1) [⟨#[116, 114, 121, 32, 123]⟩] Lb Ab nb cb rfl rfl (Bld.one w5 _) (HSB.out.1.turn' (bx w5 _ _)) HSB.out.2 (by simp; omega) ?_
           intro v6 w6 hb6
           obtain ⟨A6, n6, c6, rfl⟩ := hb6.form
           have n1 := hb6.cell m1
           have n4 := hb6.cell m4
           have n9 := hb6.cell m9
           have HB6 := Lib.hid hb6
           clear hb6)
        | fail)
      go_upto_region 17 with (first
        | (at_builtin; refine wpList_bld rfl (.tmp 28) (.tmp 37) rfl w5 _ (.slice A6 n6 c6) ([⟨#[116, 114, 121, 32, 123]⟩] ++ Lb) [C] (some ⟨w6.heap.size, 0, none⟩) 1 1 rfl rfl (HB6.out.turn' (bx w6 _ _)) (sts_new w6 _ _ rfl) rfl (by simp; omega) ?_
           intro v7 w7 hb7
           obtain ⟨A7, n7, c7, rfl⟩ := hb7.form
           have HB7 := Lib.hid hb7
           clear hb7)
        | (at_builtin; refine wpList_bld rfl (.tmp 38) (.tmp 39) rfl w5 w7 (.slice A7 n7 c7) ([⟨#[116, 114, 121, 32, 123]⟩] ++ Lb ++ [C]) Lo Ad no cd rfl rfl HB7.out (HSO.out.1.turn' HB7.out.2.2) HSO.out.2 (by simp; omega) ?_
           intro v8 w8 hb8
           obtain ⟨A8, n8, c8, rfl⟩ := hb8.form
           have HB8 := Lib.hid hb8
           clear hb8)
        | fail)
      go_wp2_with (first
        | (at_builtin; refine wpList_bld rfl (.tmp 76) (.tmp 77) rfl w5 _ (.slice A8 n8 c8) ([⟨#[116, 114, 121, 32, 123]⟩] ++ Lb ++ [C] ++ Lo) [⟨#[125]⟩] (some ⟨w8.heap.size, 0, none⟩) 1 1 rfl rfl (HB8.out.turn' (bx w8 _ _)) (sts_new w8 _ _ rfl) rfl (by simp; omega) ?_
           intro v9 w9 hb9
           obtain ⟨A9, n9, c9, rfl⟩ := hb9.form
           have HB9 := Lib.hid hb9
           clear hb9)
        | fail)
      go_ret
      exact lines_end HB9.out (HT.out.trans' HT5.out) (by
        rw [rw1_try]
        simp only [List.map_append, List.map_cons, List.map_nil, HLB.out.1, HLB.out.2, ln_zero, tryT_eq, shutT_eq, elseT_eq, catchT_eq, ifT_eq, whileT_eq, HC.out])
    by_cases h20 : d = 20
    · subst h20
      have d0 := add_run (⟨#[105, 102, 32, 40]⟩) y (by simp only [size_app, sz_lit, List.size_toArray, List.length_cons, List.length_nil]; omega)
      have d1 := add_run (⟨#[105, 102, 32, 40]⟩ ++ y) ⟨#[32, 60, 32]⟩ (by simp only [size_app, sz_lit, List.size_toArray, List.length_cons, List.length_nil]; omega)
      have d2 := add_run (⟨#[105, 102, 32, 40]⟩ ++ y ++ ⟨#[32, 60, 32]⟩) z (by simp only [size_app, sz_lit, List.size_toArray, List.length_cons, List.length_nil]; omega)
      have d3 := add_run (⟨#[105, 102, 32, 40]⟩ ++ y ++ ⟨#[32, 60, 32]⟩ ++ z) ⟨#[41, 32, 123]⟩ (by simp only [size_app, sz_lit, List.size_toArray, List.length_cons, List.length_nil]; omega)
      obtain ⟨C, hC⟩ : ∃ C, (⟨#[105, 102, 32, 40]⟩ ++ y ++ ⟨#[32, 60, 32]⟩ ++ z ++ ⟨#[41, 32, 123]⟩ : ByteArray) = C := ⟨_, rfl⟩
      rw [hC] at d3
      have HC := Lib.hid hC
      clear hC
      clear hx hy hz ht hf h19
      by_cases hot : ot.length = 0
      · rw [hot] at m9
        go_upto_region 13 with (first
        | (at_builtin; refine wpList_bld rfl (.tmp 51) (.tmp 52) rfl w5 _ (.slice (some ⟨w5.heap.size, 0, none⟩) 1 1) [C] Lb Ab nb cb rfl rfl (Bld.one w5 _) (HSB.out.1.turn' (bx w5 _ _)) HSB.out.2 (by simp; omega) ?_
           intro v6 w6 hb6
           obtain ⟨A6, n6, c6, rfl⟩ := hb6.form
           have n1 := hb6.cell m1
           have n4 := hb6.cell m4
           have n9 := hb6.cell m9
           have HB6 := Lib.hid hb6
           clear hb6)
        | fail)
        go_wp2_with (first
        | (at_builtin; refine wpList_bld rfl (.tmp 76) (.tmp 77) rfl w5 _ (.slice A6 n6 c6) ([C] ++ Lb) [⟨#[125]⟩] (some ⟨w6.heap.size, 0, none⟩) 1 1 rfl rfl (HB6.out.turn' (bx w6 _ _)) (sts_new w6 _ _ rfl) rfl (by simp; omega) ?_
           intro v7 w7 hb7
           obtain ⟨A7, n7, c7, rfl⟩ := hb7.form
           have HB7 := Lib.hid hb7
           clear hb7)
        | fail)
        go_ret
        exact lines_end HB7.out (HT.out.trans' HT5.out) (by
          rw [rw1_if, if_pos hot]
          simp only [List.map_append, List.map_cons, List.map_nil, HLB.out.1, HLB.out.2, ln_zero, tryT_eq, shutT_eq, elseT_eq, catchT_eq, ifT_eq, whileT_eq, HC.out, List.append_nil])
      · have hpos : 0 < ot.length := by omega
        have hposI : (0 : Int) < (ot.length : Int) := by omega
        have HOT := Lib.hid hot
        clear hot
        go_upto_region 13 with (first
        | (at_builtin; refine wpList_bld rfl (.tmp 51) (.tmp 52) rfl w5 _ (.slice (some ⟨w5.heap.size, 0, none⟩) 1 1) [C] Lb Ab nb cb rfl rfl (Bld.one w5 _) (HSB.out.1.turn' (bx w5 _ _)) HSB.out.2 (by simp; omega) ?_
           intro v6 w6 hb6
           obtain ⟨A6, n6, c6, rfl⟩ := hb6.form
           have n1 := hb6.cell m1
           have n4 := hb6.cell m4
           have n9 := hb6.cell m9
           have HB6 := Lib.hid hb6
           clear hb6)
        | fail)
        go_upto_region 17 with (first
        | (at_builtin; refine wpList_bld rfl (.tmp 58) (.tmp 59) rfl w5 _ (.slice A6 n6 c6) ([C] ++ Lb) [⟨#[125, 32, 101, 108, 115, 101, 32, 123]⟩] (some ⟨w6.heap.size, 0, none⟩) 1 1 rfl rfl (HB6.out.turn' (bx w6 _ _)) (sts_new w6 _ _ rfl) rfl (by simp; omega) ?_
           intro v7 w7 hb7
           obtain ⟨A7, n7, c7, rfl⟩ := hb7.form
           have HB7 := Lib.hid hb7
           clear hb7)
        | (at_builtin; refine wpList_bld rfl (.tmp 60) (.tmp 61) rfl w5 w7 (.slice A7 n7 c7) ([C] ++ Lb ++ [⟨#[125, 32, 101, 108, 115, 101, 32, 123]⟩]) Lo Ad no cd rfl rfl HB7.out (HSO.out.1.turn' HB7.out.2.2) HSO.out.2 (by simp; omega) ?_
           intro v8 w8 hb8
           obtain ⟨A8, n8, c8, rfl⟩ := hb8.form
           have HB8 := Lib.hid hb8
           clear hb8)
        | fail)
        go_wp2_with (first
        | (at_builtin; refine wpList_bld rfl (.tmp 76) (.tmp 77) rfl w5 _ (.slice A8 n8 c8) ([C] ++ Lb ++ [⟨#[125, 32, 101, 108, 115, 101, 32, 123]⟩] ++ Lo) [⟨#[125]⟩] (some ⟨w8.heap.size, 0, none⟩) 1 1 rfl rfl (HB8.out.turn' (bx w8 _ _)) (sts_new w8 _ _ rfl) rfl (by simp; omega) ?_
           intro v9 w9 hb9
           obtain ⟨A9, n9, c9, rfl⟩ := hb9.form
           have HB9 := Lib.hid hb9
           clear hb9)
        | fail)
        go_ret
        exact lines_end HB9.out (HT.out.trans' HT5.out) (by
          rw [rw1_if, if_neg HOT.out]
          simp only [List.map_append, List.map_cons, List.map_nil, HLB.out.1, HLB.out.2, ln_zero, tryT_eq, shutT_eq, elseT_eq, catchT_eq, ifT_eq, whileT_eq, HC.out, List.append_assoc])
    by_cases h21 : d = 21
    · subst h21
      have d0 := add_run (⟨#[119, 104, 105, 108, 101, 32, 40]⟩) y (by simp only [size_app, sz_lit, List.size_toArray, List.length_cons, List.length_nil]; omega)
      have d1 := add_run (⟨#[119, 104, 105, 108, 101, 32, 40]⟩ ++ y) ⟨#[32, 60, 32]⟩ (by simp only [size_app, sz_lit, List.size_toArray, List.length_cons, List.length_nil]; omega)
      have d2 := add_run (⟨#[119, 104, 105, 108, 101, 32, 40]⟩ ++ y ++ ⟨#[32, 60, 32]⟩) z (by simp only [size_app, sz_lit, List.size_toArray, List.length_cons, List.length_nil]; omega)
      have d3 := add_run (⟨#[119, 104, 105, 108, 101, 32, 40]⟩ ++ y ++ ⟨#[32, 60, 32]⟩ ++ z) ⟨#[41, 32, 123]⟩ (by simp only [size_app, sz_lit, List.size_toArray, List.length_cons, List.length_nil]; omega)
      obtain ⟨C, hC⟩ : ∃ C, (⟨#[119, 104, 105, 108, 101, 32, 40]⟩ ++ y ++ ⟨#[32, 60, 32]⟩ ++ z ++ ⟨#[41, 32, 123]⟩ : ByteArray) = C := ⟨_, rfl⟩
      rw [hC] at d3
      have HC := Lib.hid hC
      clear hC
      clear hx hy hz ht hf h19 h20
      go_upto_region 17 with (first
        | (at_builtin; refine wpList_bld rfl (.tmp 73) (.tmp 74) rfl w5 _ (.slice (some ⟨w5.heap.size, 0, none⟩) 1 1) [C] Lb Ab nb cb rfl rfl (Bld.one w5 _) (HSB.out.1.turn' (bx w5 _ _)) HSB.out.2 (by simp; omega) ?_
           intro v6 w6 hb6
           obtain ⟨A6, n6, c6, rfl⟩ := hb6.form
           have n1 := hb6.cell m1
           have n4 := hb6.cell m4
           have n9 := hb6.cell m9
           have HB6 := Lib.hid hb6
           clear hb6)
        | fail)
      go_wp2_with (first
        | (at_builtin; refine wpList_bld rfl (.tmp 76) (.tmp 77) rfl w5 _ (.slice A6 n6 c6) ([C] ++ Lb) [⟨#[125]⟩] (some ⟨w6.heap.size, 0, none⟩) 1 1 rfl rfl (HB6.out.turn' (bx w6 _ _)) (sts_new w6 _ _ rfl) rfl (by simp; omega) ?_
           intro v7 w7 hb7
           obtain ⟨A7, n7, c7, rfl⟩ := hb7.form
           have HB7 := Lib.hid hb7
           clear hb7)
        | fail)
      go_ret
      exact lines_end HB7.out (HT.out.trans' HT5.out) (by
        rw [rw1_while]
        simp only [List.map_append, List.map_cons, List.map_nil, HLB.out.1, HLB.out.2, ln_zero, tryT_eq, shutT_eq, elseT_eq, catchT_eq, ifT_eq, whileT_eq, HC.out])
    have q19 : ¬ d = 19 := h19
    have q20 : ¬ d = 20 := h20
    have q21 : ¬ d = 21 := h21
    clear h19 h20 h21 hx hy hz ht hf
    go_wp2_with fail
    go_ret
    exact lines_end (Bld.nil w5) (HT.out.trans' HT5.out) (by rw [rw1_plain q19 q20 q21, HPN.out]; rfl)
end Go.Proofs.YtnmhcgkccchacaaGreatDoor.R6

/- Of the reference that prints (stage 6's texts Rln, what is wanted of them; printed by mkr6.py). -/
set_option linter.unusedSimpArgs false
set_option linter.unusedVariables false
set_option maxRecDepth 100000
namespace Go.Proofs.YtnmhcgkccchacaaGreatDoor.R6
open Go.RowKit

/-- A cell of a slice of the program's own is written. -/
theorem owns_set {w : World} {e size m n c : Nat} {A : Option Addr} {xs : List Value} (h : w.ownsRow 0 e size (.slice A n c) m xs) {j : Nat} {u0 : Value} (hj : xs[j]? = some u0) :
    ∃ g, A = some ⟨g, 0, none⟩ ∧ g < w.heap.size ∧ w.cell? ⟨g, j, none⟩ = some u0 ∧ w.frozen? ⟨g, j, none⟩ = false ∧
      ∀ u, (w.setCell ⟨g, j, none⟩ u).ownsRow 0 e size (.slice A n c) m (xs.set j u) ∧ Turn [g] w (w.setCell ⟨g, j, none⟩ u) := by
  have hjl := (List.getElem?_eq_some_iff.1 hj).1
  have hlen := h.1
  rcases h.2 with ⟨hv, rfl⟩ | ⟨g, cap, cur, hv, hb, hg, hnc, hcm, hcs, ht⟩
  · rw [hlen] at hjl; simp at hjl
  · injection hv with h1 h2 h3
    subst h1 h2 h3
    have hc0 : w.cell? ⟨g, j, none⟩ = some u0 := by
      rw [World.ownsRow.cellAt h j (by omega)]
      exact hj
    refine ⟨g, rfl, (Array.getElem?_eq_some_iff.1 hg).1, hc0, frozen_of_row w g j _ _ hg, fun u => ⟨⟨by rw [List.length_set]; exact hlen, .inr ⟨g, c, cur.setIfInBounds j u, rfl, hb, ?_, hnc, hcm, by rw [Array.size_setIfInBounds]; exact hcs, ?_⟩⟩, (Turn.refl [g] w).setCell (.inl (by simp)) _⟩⟩
    · simp only [World.setCell, Array.getElem?_modify, hg]
      rfl
    · rw [Array.toList_setIfInBounds, List.take_set, ht]
theorem OwnS.put {w : World} {n c : Nat} {A : Option Addr} {L : List ByteArray} (h : OwnS w (.slice A n c) L) {j : Nat} {x : ByteArray} (hj : L[j]? = some x) :
    ∃ g, A = some ⟨g, 0, none⟩ ∧ g < w.heap.size ∧ w.cell? ⟨g, j, none⟩ = some (.string x) ∧ w.frozen? ⟨g, j, none⟩ = false ∧
      ∀ y, OwnS (w.setCell ⟨g, j, none⟩ (.string y)) (.slice A n c) (L.set j y) ∧ Turn [g] w (w.setCell ⟨g, j, none⟩ (.string y)) := by
  obtain ⟨g, rfl, hg, hc, hf, hs⟩ := owns_set h (j := j) (u0 := .string x) (by simp [hj])
  refine ⟨g, rfl, hg, hc, hf, fun y => ⟨?_, (hs (.string y)).2⟩⟩
  have := (hs (.string y)).1
  rw [← List.map_set] at this
  unfold OwnS
  rw [List.length_set]
  exact this
theorem ext2 (s : ByteArray) (h : 2 < s.size) : bs (s.extract 0 2) = (bs s).take 2 := by unfold bs; exact Lib.extract_from_zero s 2
theorem ln_succ (j : Nat) (X : ByteArray) : bs (ln (j + 1, X)) = 32 :: 32 :: bs (ln (j, X)) := by
  unfold ln
  rw [bs_mk, bs_mk, show 2 * ((j + 1, X) : Row).1 = 2 * j + 1 + 1 by simp; omega, List.replicate_succ, List.replicate_succ]
  rfl
theorem Gd.two {X : ByteArray} (h : Gd X) (h2 : 2 < X.size) : bs (X.extract 0 2) ≠ [32, 32] := by
  rw [ext2 X h2]
  obtain ⟨⟨a, r, e, hr⟩, _⟩ := h
  rw [e]
  intro h'
  cases r with
  | nil => simp at h'
  | cons b r =>
    simp at h'
    obtain ⟨c, r', e2, hc⟩ := hr h'.1
    injection e2 with e3 _
    exact hc (by rw [← e3]; exact h'.2)
theorem Gd.pos {X : ByteArray} (h : Gd X) : 0 < X.size := by
  obtain ⟨⟨a, r, e, hr⟩, _⟩ := h
  rw [size_bs, e]
  simp
theorem ln_size (j : Nat) (X : ByteArray) : (ln (j, X)).size = 2 * j + X.size := by
  unfold ln
  rw [size_bs, bs_mk, List.length_append, List.length_replicate, ← size_bs]
theorem ln_cut (j : Nat) (X : ByteArray) : (ln (j + 1, X)).extract 2 (ln (j + 1, X)).size = ln (j, X) := by
  apply bs_inj
  have : bs ((ln (j + 1, X)).extract 2 (ln (j + 1, X)).size) = (bs (ln (j + 1, X))).drop 2 := by unfold bs; exact Lib.extract_to_end _ _
  rw [this, ln_succ]
  rfl
theorem ln_head (j : Nat) (X : ByteArray) (h : 0 < X.size) : ((ln (j + 1, X)).extract 0 2) = ⟨#[32, 32]⟩ := by
  apply bs_inj
  rw [ext2 _ (by rw [ln_size]; omega), ln_succ]
  rfl
/-- How long a text lies there. -/
def lenAt (w : World) (g k : Nat) : Nat := match w.cell? ⟨g, k, none⟩ with
  | some (.string s) => s.size
  | _ => 0
theorem lenAt_of {w : World} {g k : Nat} {s : ByteArray} (h : w.cell? ⟨g, k, none⟩ = some (.string s)) : lenAt w g k = s.size := by unfold lenAt; rw [h]
/-- The list while the k-th row is j further in. -/
def mid (R : List Row) (k j : Nat) (X : ByteArray) : List ByteArray := (R.take k).map (·.2) ++ ln (j, X) :: (R.drop (k + 1)).map ln
theorem mid_at (R : List Row) (k j : Nat) (X : ByteArray) (hk : k < R.length) : (mid R k j X)[k]? = some (ln (j, X)) := by
  unfold mid
  rw [List.getElem?_append_right (by simp; omega)]
  simp [Nat.min_eq_left (Nat.le_of_lt hk)]
theorem mid_set (R : List Row) (k j i : Nat) (X : ByteArray) (hk : k < R.length) : (mid R k j X).set k (ln (i, X)) = mid R k i X := by
  unfold mid
  rw [List.set_append_right _ _ (by simp; omega)]
  simp [Nat.min_eq_left (Nat.le_of_lt hk)]
theorem mid_start {R : List Row} {k j : Nat} {X : ByteArray} (h : R[k]? = some (j, X)) : (R.take k).map (·.2) ++ (R.drop k).map ln = mid R k j X := by
  obtain ⟨hk, e⟩ := List.getElem?_eq_some_iff.1 h
  unfold mid
  rw [List.drop_eq_getElem_cons hk, e]
  rfl
theorem mid_end {R : List Row} {k j : Nat} {X : ByteArray} (h : R[k]? = some (j, X)) : mid R k 0 X = (R.take (k + 1)).map (·.2) ++ (R.drop (k + 1)).map ln := by
  unfold mid
  rw [take_snoc h, List.map_append, ln_zero, List.append_assoc]
  rfl
set_option maxHeartbeats 8000000 in
set_option maxRecDepth 100000 in
theorem rline_any (s : St) (cs : List Value) (B : Nat) (w : World) (hr : RdS B w cs s) (hB : B ≤ w.heap.size) (hS : RSaidS s) (hg : ∀ r ∈ rw1 0 s, Gd r.2) (hz : (rw1 0 s).length ≤ 10000000) (hj : (jn ((rw1 0 s).map (·.2)) ⟨#[32]⟩).size ≤ 140737488355328)
    (hy : ∀ r ∈ rw1 0 s, r.2.size ≤ 1200000 ∧ r.1 ≤ 10000000) :
    Calls Tryz.prog 17 #[.agg cs.toArray] w fun e w' => e = .returned (.string (jn ((rw1 0 s).map (·.2)) ⟨#[32]⟩)) ∧ Turn [] w w' := by
  have hRS := hr
  obtain ⟨R, hRR⟩ : ∃ R, rw1 0 s = R := ⟨_, rfl⟩
  unfold RSaidS at hS
  rw [hRR] at hg hz hj hy hS ⊢
  obtain ⟨d, x, y, z, t, f, ag, nn, bd, ot, lin, cl⟩ := s
  obtain ⟨A1, c1, A2, c2, A3, c3, rfl, -, -, -, -⟩ := hr.cells
  have tA := bx w #[.int .i64 d, .string x, .string y, .string z, .string t, .string f, .slice A1 ag.length c1, .int .i64 nn, .slice A2 bd.length c2, .slice A3 ot.length c3, .int .i64 lin, .int .i64 cl] 41
  obtain ⟨W, hW⟩ : ∃ W, w.alloc (.cells #[.int .i64 d, .string x, .string y, .string z, .string t, .string f, .slice A1 ag.length c1, .int .i64 nn, .slice A2 bd.length c2, .slice A3 ot.length c3, .int .i64 lin, .int .i64 cl] 41) = W := ⟨_, rfl⟩
  rw [hW] at tA
  have HC := Lib.hid (hS _ B W (hRS.turn tA (by simp)) (by have := tA.size; omega) (by omega))
  have HT := Lib.hid tA
  have HW := Lib.hid hW
  have HGD := Lib.hid hg
  have HZ := Lib.hid (And.intro hj hy)
  obtain ⟨n, hn⟩ : ∃ n, R.length = n := ⟨_, rfl⟩
  have HN := Lib.hid hn
  rw [hn] at HC hz
  clear tA hW hr hRS hB hS hg hj hy hRR hn
  go_enter Tryz.func17, Tryz.ntmps17
  go_wp2_with fail
  rw [HW.out]
  refine HC.out.mono ?_
  rintro e w1 ⟨A', c', rfl, hb⟩
  have HB := Lib.hid hb
  clear hb HC
  go_wp2_with fail
  go_loopw [4] (fun i wr => ∃ k : Nat, k ≤ n ∧ i = .int .i64 (k : Int) ∧ Hid (Bld W wr (.slice A' n c') ((R.take k).map (·.2) ++ (R.drop k).map ln))) (fun i _ => n - (intOf i).toNat)
  case atStart => exact ⟨0, Nat.zero_le _, rfl, Lib.hid (by simpa using HB.out)⟩
  case round =>
    obtain ⟨k, hk, rfl, HWk⟩ := hrel
    by_cases hlt : k < n
    · obtain ⟨r, hrk⟩ := at_lt (l := R) (k := k) (by rw [HN.out]; exact hlt)
      obtain ⟨D, X⟩ := r
      have hgX := HGD.out _ (List.mem_of_getElem? hrk)
      have hyX := HZ.out.2 _ (List.mem_of_getElem? hrk)
      simp only at hgX hyX
      have hkR : k < R.length := by rw [HN.out]; exact hlt
      have HM0 : Hid (Bld W wr (.slice A' n c') (mid R k D X)) := Lib.hid (by have := HWk.out; rwa [mid_start hrk] at this)
      have HRK := Lib.hid hrk
      have HKR := Lib.hid hkR
      have HGX := Lib.hid hgX
      obtain ⟨g, hA', _⟩ := OwnS.put HM0.out.1 (mid_at R k D X hkR)
      subst hA'
      have hgW : Hid (W.heap.size ≤ g) := Lib.hid (HM0.out.2.1 g rfl)
      obtain ⟨w0, hw0⟩ : ∃ q, q = wr := ⟨_, rfl⟩
      clear hrk hkR hgX HWk
      go_wp2_with fail
      rw [← hw0]
      rw [← hw0] at HM0
      clear hw0
      go_loopw [13] (fun _ wi => ∃ j : Nat, j ≤ D ∧ Hid (Bld W wi (.slice (some ⟨g, 0, none⟩) n c') (mid R k j X))) (fun _ wi => lenAt wi g k)
      case atStart => exact ⟨D, Nat.le_refl _, HM0⟩
      case round =>
        obtain ⟨j, hj, HMj⟩ := hrel
        obtain ⟨g', hA', hgl, hc, hfr, hput⟩ := OwnS.put HMj.out.1 (mid_at R k j X HKR.out)
        injection hA' with hA'
        injection hA' with hA'
        subst hA'
        cases j with
        | zero =>
          rw [ln_zero] at hc
          have HE : Hid (Bld W wr (.slice (some ⟨g, 0, none⟩) n c') ((R.take (k + 1)).map (·.2) ++ (R.drop (k + 1)).map ln)) := Lib.hid (by rw [← mid_end HRK.out]; exact HMj.out)
          by_cases h2 : 2 < X.size
          · have h2I : (2 : Int) < (X.size : Int) := by omega
            have hbf : ((X.extract 0 2).toList == [32, 32]) = false := by
              rw [ByteArray.toList_eq]
              rw [beq_eq_false_iff_ne]
              exact HGX.out.two h2
            clear hput
            go_wp2_with fail
            go_roundw
            case rel => exact ⟨k + 1, by omega, by go_num, HE⟩
            case measure => simp [intOf]; omega
          · have h2I : ¬ (2 : Int) < (X.size : Int) := by omega
            clear hput
            go_wp2_with fail
            go_roundw
            case rel => exact ⟨k + 1, by omega, by go_num, HE⟩
            case measure => simp [intOf]; omega
        | succ j =>
          have hXp := HGX.out.pos
          have HPut := Lib.hid (hput (ln (j, X)))
          have hLs := ln_size (j + 1) X
          have hLs2 := ln_size j X
          have hbt : (((ln (j + 1, X)).extract 0 2).toList == [32, 32]) = true := by
            rw [ByteArray.toList_eq, ln_head j X hXp]
            rfl
          have HCut := Lib.hid (ln_cut j X)
          obtain ⟨S, hS⟩ : ∃ q, ln (j + 1, X) = q := ⟨_, rfl⟩
          rw [hS] at hbt HCut hc hLs
          have h2 : 2 < S.size := by omega
          have h2I : (2 : Int) < (S.size : Int) := by omega
          have HS := Lib.hid hS
          have HLS := Lib.hid (And.intro hLs hLs2)
          clear hput hS hLs hLs2
          go_wp2_with fail
          go_roundw
          case rel =>
            refine ⟨j, by omega, Lib.hid ?_⟩
            rw [HCut.out]
            have h1 := HPut.out.1
            rw [mid_set R k (j + 1) j X HKR.out] at h1
            exact ⟨h1, HMj.out.2.1, HMj.out.2.2.trans HPut.out.2 (fun q hq => by simp at hq; subst hq; exact .inr hgW.out)⟩
          case measure =>
            rw [HCut.out]
            have h1 := HPut.out.1
            rw [mid_set R k (j + 1) j X HKR.out] at h1
            obtain ⟨g2, e2, _, hc2, _⟩ := OwnS.put h1 (mid_at R k j X HKR.out)
            injection e2 with e2
            injection e2 with e2
            subst e2
            rw [lenAt_of hc2, lenAt_of hc, HLS.out.1, HLS.out.2]
            omega
    · have hkn : k = n := by omega
      subst hkn
      have hb := HWk.out
      rw [List.take_of_length_le (by rw [HN.out]; exact Nat.le_refl _), List.drop_of_length_le (by rw [HN.out]; exact Nat.le_refl _), List.map_nil, List.append_nil] at hb
      have HJ := Lib.hid (rjoin_any A' c' (R.map (·.2)) ⟨#[32]⟩ wr (OwnS.sts hb.1).2.2 (by rw [List.length_map, HN.out]; omega) (by have := HZ.out.1; omega))
      rw [List.length_map, HN.out] at HJ
      have HTk := Lib.hid hb.2.2
      clear hb HWk
      go_wp2_with fail
      refine HJ.out.mono ?_
      rintro e w5 ⟨rfl, rfl⟩
      go_wp2_with fail
      go_ret
      exact ⟨rfl, HT.out.trans' HTk.out⟩
end Go.Proofs.YtnmhcgkccchacaaGreatDoor.R6
