import Derived.Test.YtnmhcgkccchacaaGreatDoorQ13Whs

/- Stmt. Printed by mkpar.py. -/
set_option linter.unusedSimpArgs false
set_option linter.unusedVariables false
set_option maxRecDepth 100000
namespace Go.Proofs.YtnmhcgkccchacaaGreatDoor
open Go.RowKit

set_option maxHeartbeats 12800000 in
theorem Stmt_any (s : ByteArray) (w : World) (hS : Sg w) (hK : Kw w) (h8 : 7 < w.heap.size) :
    Calls Tryz.prog 13 #[.string s] w fun e w' => Turn [] w w' ∧
      ResIs RdS #[.int .i64 0, .string ⟨#[]⟩, .string ⟨#[]⟩, .string ⟨#[]⟩, .string ⟨#[]⟩, .string ⟨#[]⟩, .slice none 0 0, .int .i64 0, .slice none 0 0, .slice none 0 0, .int .i64 0, .int .i64 0] (finish (rs0 (tokR s.data.toList)).1 (stmtN (rs0 (tokR s.data.toList)).1 10 (rs0 (tokR s.data.toList)).2).2) (fun g => w.heap.size ≤ g) w' (stmtN (rs0 (tokR s.data.toList)).1 10 (rs0 (tokR s.data.toList)).2).1 e := by
  have hmf := mf
  obtain ⟨W1, hW1⟩ : ∃ W, (w.alloc (.cells #[.int .i64 0, .string ⟨#[]⟩, .string ⟨#[]⟩, .string ⟨#[]⟩, .string ⟨#[]⟩, .string ⟨#[]⟩, .slice none 0 0, .int .i64 0, .slice none 0 0, .slice none 0 0, .int .i64 0, .int .i64 0] 41)).alloc (.cells #[.int .i64 0, .int .i64 0, .int .i64 0] 34) = W := ⟨_, rfl⟩
  obtain ⟨r, hr⟩ : ∃ r, w.heap.size = r := ⟨_, rfl⟩
  have tW1 : Turn [] w W1 := by rw [← hW1]; exact ((Turn.refl [] w).alloc _).alloc _
  have aW1 : W1.heap[r]? = some (.cells #[.int .i64 0, .string ⟨#[]⟩, .string ⟨#[]⟩, .string ⟨#[]⟩, .string ⟨#[]⟩, .string ⟨#[]⟩, .slice none 0 0, .int .i64 0, .slice none 0 0, .slice none 0 0, .int .i64 0, .int .i64 0] 41 (0, 0)) := by rw [← hW1, ← hr]; exact ((Turn.refl [] _).alloc _).heap (heap_alloc_new w _) (by simp)
  have bW1 : W1.heap[r + 1]? = some (.cells #[.int .i64 0, .int .i64 0, .int .i64 0] 34 (0, 0)) := by
    rw [← hW1, ← hr]
    have := heap_alloc_new (w.alloc (.cells #[.int .i64 0, .string ⟨#[]⟩, .string ⟨#[]⟩, .string ⟨#[]⟩, .string ⟨#[]⟩, .string ⟨#[]⟩, .slice none 0 0, .int .i64 0, .slice none 0 0, .slice none 0 0, .int .i64 0, .int .i64 0] 41)) (.cells #[.int .i64 0, .int .i64 0, .int .i64 0] 34)
    rwa [World.size_alloc] at this
  have sW1 : W1.heap.size = r + 2 := by rw [← hW1, ← hr]; simp
  have HOP := Lib.hid (open_any s W1 (hS.turn tW1 (by simp)) (hK.turn tW1 (by simp)) (by omega))
  have hd0 : (rs0 (tokR s.data.toList)).2.deep = 0 := by cases tokR s.data.toList <;> rfl
  obtain ⟨en, hen⟩ : ∃ q, (rs0 (tokR s.data.toList)).1 = q := ⟨_, rfl⟩
  obtain ⟨s0, hs0⟩ : ∃ q, (rs0 (tokR s.data.toList)).2 = q := ⟨_, rfl⟩
  rw [hen, hs0]
  rw [hen, hs0] at HOP
  rw [hs0] at hd0
  have HD0 := Lib.hid hd0
  have HW1 := Lib.hid hW1
  have HT1 := Lib.hid tW1
  have HA := Lib.hid aW1
  have HBB := Lib.hid bW1
  clear hW1 tW1 aW1 bW1 hS hK hen hs0 hd0
  go_enter Tryz.func13, Tryz.ntmps13
  go_upto_region 1 with (fail)
  rw [HW1.out]
  go_wp2_with fail
  refine HOP.out.mono ?_
  rintro e2 w2 ⟨b, rfl, hb2, h2, t2⟩
  have HWH := Lib.hid (wholeS_any en b s0 w2 h2 HD0.out)
  have HT2 := Lib.hid t2
  clear h2 t2 HOP
  obtain ⟨x, hx⟩ : ∃ q, (stmtN en 10 s0).1 = q := ⟨_, rfl⟩
  obtain ⟨f, hf⟩ : ∃ q, finish en (stmtN en 10 s0).2 = q := ⟨_, rfl⟩
  rw [hx, hf] at HWH
  have HX := Lib.hid (And.intro hx hf)
  clear hx hf
  go_wp2_with fail
  refine HWH.out.mono ?_
  rintro e3 w3 ⟨t3, hres⟩
  have hT3 : Turn [b] W1 w3 := (HT2.out.more (by simp)).trans t3 (fun g hg => .inl hg)
  have hra := hT3.heap HA.out (by simp; omega)
  have hrb := hT3.heap HBB.out (by simp; omega)
  have zz0 : w3.cell? ⟨r, 0, none⟩ = some (.int .i64 0) := cell_of_row w3 r 0 _ _ _ hra
  have zf0 : w3.frozen? ⟨r, 0, none⟩ = false := frozen_of_row w3 r 0 _ _ hra
  have zz1 : w3.cell? ⟨r, 1, none⟩ = some (.string ⟨#[]⟩) := cell_of_row w3 r 1 _ _ _ hra
  have zf1 : w3.frozen? ⟨r, 1, none⟩ = false := frozen_of_row w3 r 1 _ _ hra
  have zz2 : w3.cell? ⟨r, 2, none⟩ = some (.string ⟨#[]⟩) := cell_of_row w3 r 2 _ _ _ hra
  have zf2 : w3.frozen? ⟨r, 2, none⟩ = false := frozen_of_row w3 r 2 _ _ hra
  have zz3 : w3.cell? ⟨r, 3, none⟩ = some (.string ⟨#[]⟩) := cell_of_row w3 r 3 _ _ _ hra
  have zf3 : w3.frozen? ⟨r, 3, none⟩ = false := frozen_of_row w3 r 3 _ _ hra
  have zz4 : w3.cell? ⟨r, 4, none⟩ = some (.string ⟨#[]⟩) := cell_of_row w3 r 4 _ _ _ hra
  have zf4 : w3.frozen? ⟨r, 4, none⟩ = false := frozen_of_row w3 r 4 _ _ hra
  have zz5 : w3.cell? ⟨r, 5, none⟩ = some (.string ⟨#[]⟩) := cell_of_row w3 r 5 _ _ _ hra
  have zf5 : w3.frozen? ⟨r, 5, none⟩ = false := frozen_of_row w3 r 5 _ _ hra
  have zz6 : w3.cell? ⟨r, 6, none⟩ = some (.slice none 0 0) := cell_of_row w3 r 6 _ _ _ hra
  have zf6 : w3.frozen? ⟨r, 6, none⟩ = false := frozen_of_row w3 r 6 _ _ hra
  have zz7 : w3.cell? ⟨r, 7, none⟩ = some (.int .i64 0) := cell_of_row w3 r 7 _ _ _ hra
  have zf7 : w3.frozen? ⟨r, 7, none⟩ = false := frozen_of_row w3 r 7 _ _ hra
  have zz8 : w3.cell? ⟨r, 8, none⟩ = some (.slice none 0 0) := cell_of_row w3 r 8 _ _ _ hra
  have zf8 : w3.frozen? ⟨r, 8, none⟩ = false := frozen_of_row w3 r 8 _ _ hra
  have zz9 : w3.cell? ⟨r, 9, none⟩ = some (.slice none 0 0) := cell_of_row w3 r 9 _ _ _ hra
  have zf9 : w3.frozen? ⟨r, 9, none⟩ = false := frozen_of_row w3 r 9 _ _ hra
  have zz10 : w3.cell? ⟨r, 10, none⟩ = some (.int .i64 0) := cell_of_row w3 r 10 _ _ _ hra
  have zf10 : w3.frozen? ⟨r, 10, none⟩ = false := frozen_of_row w3 r 10 _ _ hra
  have zz11 : w3.cell? ⟨r, 11, none⟩ = some (.int .i64 0) := cell_of_row w3 r 11 _ _ _ hra
  have zf11 : w3.frozen? ⟨r, 11, none⟩ = false := frozen_of_row w3 r 11 _ _ hra
  have yy0 : w3.cell? ⟨r + 1, 0, none⟩ = some (.int .i64 0) := cell_of_row w3 (r + 1) 0 _ _ _ hrb
  have yf0 : w3.frozen? ⟨r + 1, 0, none⟩ = false := frozen_of_row w3 (r + 1) 0 _ _ hrb
  have yy1 : w3.cell? ⟨r + 1, 1, none⟩ = some (.int .i64 0) := cell_of_row w3 (r + 1) 1 _ _ _ hrb
  have yf1 : w3.frozen? ⟨r + 1, 1, none⟩ = false := frozen_of_row w3 (r + 1) 1 _ _ hrb
  have yy2 : w3.cell? ⟨r + 1, 2, none⟩ = some (.int .i64 0) := cell_of_row w3 (r + 1) 2 _ _ _ hrb
  have yf2 : w3.frozen? ⟨r + 1, 2, none⟩ = false := frozen_of_row w3 (r + 1) 2 _ _ hrb
  have HT3 := Lib.hid hT3
  have hsz2 := HT2.out.size
  clear hra hrb t3 hT3 HWH
  obtain ⟨lf, fe, fl, fc, ff, fd⟩ := f
  rcases hres with ⟨hne, rfl⟩ | ⟨he0, cs, rfl, hr3⟩
  · have HNE := Lib.hid hne
    clear hne
    go_wp2_with fail
    refine bodyPost_ret (v := .tuple #[.agg #[.int .i64 0, .string ⟨#[]⟩, .string ⟨#[]⟩, .string ⟨#[]⟩, .string ⟨#[]⟩, .string ⟨#[]⟩, .slice none 0 0, .int .i64 0, .slice none 0 0, .slice none 0 0, .int .i64 0, .int .i64 0], .agg #[.int .i64 (fe : Int), .int .i64 (fl : Int), .int .i64 (fc : Int)]]) (by simp [results, Tryz.results13, go_sem, zz0, zz1, zz2, zz3, zz4, zz5, zz6, zz7, zz8, zz9, zz10, zz11, yy0, yy1, yy2]) rfl ?_
    rw [HX.out.1, HX.out.2]
    have key : ∀ W', Turn [r, r + 1] w3 W' → Turn [] w W' ∧ ResIs RdS #[.int .i64 0, .string ⟨#[]⟩, .string ⟨#[]⟩, .string ⟨#[]⟩, .string ⟨#[]⟩, .string ⟨#[]⟩, .slice none 0 0, .int .i64 0, .slice none 0 0, .slice none 0 0, .int .i64 0, .int .i64 0] ⟨lf, fe, fl, fc, ff, fd⟩ (fun g => w.heap.size ≤ g) W' x (Ending.returned (.tuple #[.agg #[.int .i64 0, .string ⟨#[]⟩, .string ⟨#[]⟩, .string ⟨#[]⟩, .string ⟨#[]⟩, .string ⟨#[]⟩, .slice none 0 0, .int .i64 0, .slice none 0 0, .slice none 0 0, .int .i64 0, .int .i64 0], .agg #[.int .i64 (fe : Int), .int .i64 (fl : Int), .int .i64 (fc : Int)]])) := fun W' tE =>
      ⟨(HT1.out.trans HT3.out (fun g hg => by simp at hg; exact .inr (by omega))).trans tE (fun g hg => .inr (by simp at hg; omega)), Or.inl ⟨HNE.out, rfl⟩⟩
    refine key _ ?_
    exact ((((((((((((((((Turn.refl [r, r + 1] w3).setCell (.inl (by simp)) _).setCell (.inl (by simp)) _).setCell (.inl (by simp)) _).setCell (.inl (by simp)) _).setCell (.inl (by simp)) _).setCell (.inl (by simp)) _).setCell (.inl (by simp)) _).setCell (.inl (by simp)) _).setCell (.inl (by simp)) _).setCell (.inl (by simp)) _).setCell (.inl (by simp)) _).setCell (.inl (by simp)) _).setCell (.inl (by simp)) _).setCell (.inl (by simp)) _).setCell (.inl (by simp)) _)
  · have HE0 := Lib.hid he0
    obtain ⟨xd, xx, xy, xz, xt, xf, xag, xn, xbd, xot, xln, xcl⟩ := x
    obtain ⟨V1, V2, V3, ecs, k1, k2, k3⟩ := RdS.parts hr3
    subst ecs
    obtain ⟨P1, q1, rfl, _, _⟩ := k1
    obtain ⟨P2, q2, rfl, _, _⟩ := k2
    obtain ⟨P3, p3, rfl, _, _⟩ := k3
    have HRD := Lib.hid hr3
    clear he0 hr3
    go_wp2_with fail
    refine bodyPost_ret (v := .tuple #[.agg #[.int .i64 xd, .string xx, .string xy, .string xz, .string xt, .string xf, .slice P1 xag.length q1, .int .i64 xn, .slice P2 xbd.length q2, .slice P3 xot.length p3, .int .i64 xln, .int .i64 xcl], .agg #[.int .i64 0, .int .i64 0, .int .i64 0]]) (by simp [results, Tryz.results13, go_sem, zz0, zz1, zz2, zz3, zz4, zz5, zz6, zz7, zz8, zz9, zz10, zz11, yy0, yy1, yy2]) rfl ?_
    rw [HX.out.1, HX.out.2]
    have key : ∀ W', Turn [r, r + 1] w3 W' → Turn [] w W' ∧ ResIs RdS #[.int .i64 0, .string ⟨#[]⟩, .string ⟨#[]⟩, .string ⟨#[]⟩, .string ⟨#[]⟩, .string ⟨#[]⟩, .slice none 0 0, .int .i64 0, .slice none 0 0, .slice none 0 0, .int .i64 0, .int .i64 0] ⟨lf, fe, fl, fc, ff, fd⟩ (fun g => w.heap.size ≤ g) W' (.mk xd xx xy xz xt xf xag xn xbd xot xln xcl) (Ending.returned (.tuple #[.agg #[.int .i64 xd, .string xx, .string xy, .string xz, .string xt, .string xf, .slice P1 xag.length q1, .int .i64 xn, .slice P2 xbd.length q2, .slice P3 xot.length p3, .int .i64 xln, .int .i64 xcl], .agg #[.int .i64 0, .int .i64 0, .int .i64 0]])) := fun W' tE =>
      ⟨(HT1.out.trans HT3.out (fun g hg => by simp at hg; exact .inr (by omega))).trans tE (fun g hg => .inr (by simp at hg; omega)), Or.inr ⟨HE0.out, [.int .i64 xd, .string xx, .string xy, .string xz, .string xt, .string xf, .slice P1 xag.length q1, .int .i64 xn, .slice P2 xbd.length q2, .slice P3 xot.length p3, .int .i64 xln, .int .i64 xcl], rfl, goodS.mono (goodS.turn HRD.out tE (by simp; omega)) (fun g hg _ => by omega)⟩⟩
    refine key _ ?_
    exact ((((((((((((((((Turn.refl [r, r + 1] w3).setCell (.inl (by simp)) _).setCell (.inl (by simp)) _).setCell (.inl (by simp)) _).setCell (.inl (by simp)) _).setCell (.inl (by simp)) _).setCell (.inl (by simp)) _).setCell (.inl (by simp)) _).setCell (.inl (by simp)) _).setCell (.inl (by simp)) _).setCell (.inl (by simp)) _).setCell (.inl (by simp)) _).setCell (.inl (by simp)) _).setCell (.inl (by simp)) _).setCell (.inl (by simp)) _).setCell (.inl (by simp)) _)
end Go.Proofs.YtnmhcgkccchacaaGreatDoor
