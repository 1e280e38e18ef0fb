import Derived.Test.YtnmhcgkccchacaaGreatDoorQ08Eit

/- whole, Stmt. Printed by mkwhl.py. -/
set_option linter.unusedSimpArgs false
set_option linter.unusedVariables false
set_option maxRecDepth 100000
namespace Go.Proofs.YtnmhcgkccchacaaGreatDoor
open Go.RowKit

set_option maxHeartbeats 12800000 in
theorem wholeS_any (en : Nat × Nat) (b : Nat) (s : RS) (w : World) (hP : Pr en w b s) (hd : s.deep = 0) :
    Calls Tryz.prog 34 #[.pointer (some ⟨b, 0, none⟩), .func (.func 35) #[.pointer (some ⟨b, 0, none⟩)] #[]] w fun e w' => Turn [b] w w' ∧
      ResIs RdS #[.int .i64 0, .string ⟨#[]⟩, .string ⟨#[]⟩, .string ⟨#[]⟩, .string ⟨#[]⟩, .string ⟨#[]⟩, .slice none 0 0, .int .i64 0, .slice none 0 0, .slice none 0 0, .int .i64 0, .int .i64 0] (finish en (stmtN en 10 s).2) (fun g => w.heap.size ≤ g) w' (stmtN en 10 s).1 e := by
  have hbl := hP.lt
  obtain ⟨W1, hW1⟩ : ∃ W, (w.alloc (.cells #[.int .i64 0, .string ⟨#[]⟩, .string ⟨#[]⟩, .string ⟨#[]⟩, .string ⟨#[]⟩, .string ⟨#[]⟩, .slice none 0 0, .int .i64 0, .slice none 0 0, .slice none 0 0, .int .i64 0, .int .i64 0] 41)).alloc (.cells #[.int .i64 0, .int .i64 0, .int .i64 0] 34) = W := ⟨_, rfl⟩
  obtain ⟨r, hr⟩ : ∃ r, w.heap.size = r := ⟨_, rfl⟩
  have tW1 : Turn [] w W1 := by rw [← hW1]; exact ((Turn.refl [] w).alloc _).alloc _
  have aW1 : W1.heap[r]? = some (.cells #[.int .i64 0, .string ⟨#[]⟩, .string ⟨#[]⟩, .string ⟨#[]⟩, .string ⟨#[]⟩, .string ⟨#[]⟩, .slice none 0 0, .int .i64 0, .slice none 0 0, .slice none 0 0, .int .i64 0, .int .i64 0] 41 (0, 0)) := by rw [← hW1, ← hr]; exact ((Turn.refl [] _).alloc _).heap (heap_alloc_new w _) (by simp)
  have bW1 : W1.heap[r + 1]? = some (.cells #[.int .i64 0, .int .i64 0, .int .i64 0] 34 (0, 0)) := by
    rw [← hW1, ← hr]
    have := heap_alloc_new (w.alloc (.cells #[.int .i64 0, .string ⟨#[]⟩, .string ⟨#[]⟩, .string ⟨#[]⟩, .string ⟨#[]⟩, .string ⟨#[]⟩, .slice none 0 0, .int .i64 0, .slice none 0 0, .slice none 0 0, .int .i64 0, .int .i64 0] 41)) (.cells #[.int .i64 0, .int .i64 0, .int .i64 0] 34)
    rwa [World.size_alloc] at this
  have sW1 : W1.heap.size = r + 2 := by rw [← hW1, ← hr]; simp
  have HTH := Lib.hid (st_said en 10 b s W1 (hP.up tW1) (by omega) (by omega))
  have HW1 := Lib.hid hW1
  have HT1 := Lib.hid tW1
  have HA := Lib.hid aW1
  have HBB := Lib.hid bW1
  obtain ⟨x, hx⟩ : ∃ q, (stmtN en 10 s).1 = q := ⟨_, rfl⟩
  obtain ⟨s2, hs2⟩ : ∃ q, (stmtN en 10 s).2 = q := ⟨_, rfl⟩
  obtain ⟨f, hf⟩ : ∃ q, finish en s2 = q := ⟨_, rfl⟩
  rw [hx, hs2, hf]
  rw [hx, hs2] at HTH
  have HF := Lib.hid hf
  clear hW1 tW1 aW1 bW1 hP hd hx hs2 hf
  go_enter Tryz.func34, Tryz.ntmps34
  go_upto_region 1 with (fail)
  rw [HW1.out]
  go_wp2_with fail
  refine HTH.out.mono ?_
  rintro e2 w2 ⟨cs, rfl, hr2, h2, t2⟩
  obtain ⟨xd, xx, xy, xz, xt, xf, xag, xn, xbd, xot, xln, xcl⟩ := x
  obtain ⟨V1, V2, V3, ecs, k1, k2, k3⟩ := RdS.parts hr2
  subst ecs
  obtain ⟨P1, q1, rfl, _, _⟩ := k1
  obtain ⟨P2, q2, rfl, _, _⟩ := k2
  obtain ⟨P3, p3, rfl, _, _⟩ := k3
  obtain ⟨W3, hW3⟩ : ∃ W, w2.alloc (.cells #[.int .i64 xd, .string xx, .string xy, .string xz, .string xt, .string xf, .slice P1 xag.length q1, .int .i64 xn, .slice P2 xbd.length q2, .slice P3 xot.length p3, .int .i64 xln, .int .i64 xcl] 41) = W := ⟨_, rfl⟩
  obtain ⟨fb, hfb⟩ : ∃ q, w2.heap.size = q := ⟨_, rfl⟩
  have tW3 : Turn [] w2 W3 := by rw [← hW3]; exact (Turn.refl [] w2).alloc _
  have fW3 : W3.heap[fb]? = some (.cells #[.int .i64 xd, .string xx, .string xy, .string xz, .string xt, .string xf, .slice P1 xag.length q1, .int .i64 xn, .slice P2 xbd.length q2, .slice P3 xot.length p3, .int .i64 xln, .int .i64 xcl] 41 (0, 0)) := by rw [← hW3, ← hfb]; exact heap_alloc_new w2 _
  have hrf : r + 2 ≤ fb := by have := t2.size; omega
  have hb3 : Turn [b] W1 W3 := t2.trans' tW3
  have HFI := Lib.hid (finish_any en b s2 W3 (h2.up tW3))
  have HRD := Lib.hid ((goodS.turn hr2 tW3 (by simp)))
  have HT3 := Lib.hid hb3
  have HFB := Lib.hid fW3
  have HW3 := Lib.hid hW3
  have HFBS := Lib.hid hfb
  clear hW3 tW3 fW3 hb3 h2 t2 hr2 hfb
  go_upto_region 2 with (fail)
  rw [HW3.out, HFBS.out]
  go_wp2_with fail
  refine HFI.out.mono ?_
  rintro e4 w4 ⟨rfl, h4, t4⟩
  rw [HF.out] at h4
  obtain ⟨lf, fe, fl, fc, ff, fd⟩ := f
  obtain ⟨v4, hI4⟩ := h4
  have q3 : w4.cell? ⟨b, 3, none⟩ = some (.int .i64 (fe : Int)) := cell_of_row w4 b 3 _ _ _ hI4.blk
  have q4 : w4.cell? ⟨b, 4, none⟩ = some (.int .i64 (fl : Int)) := cell_of_row w4 b 4 _ _ _ hI4.blk
  have q5 : w4.cell? ⟨b, 5, none⟩ = some (.int .i64 (fc : Int)) := cell_of_row w4 b 5 _ _ _ hI4.blk
  have hT4 : Turn [b] W1 w4 := HT3.out.trans t4 (fun g hg => .inl hg)
  have hra := hT4.heap HA.out (by simp; omega)
  have hrb := hT4.heap HBB.out (by simp; omega)
  have hfb4 := t4.heap HFB.out (by simp; omega)
  have HT4 := Lib.hid hT4
  have hs4 := HT4.out.size
  by_cases he : fe = 0
  · subst he
    have HRD4 := Lib.hid ((goodS.turn HRD.out t4 (by simp; omega)))
    have m0 : w4.cell? ⟨fb, 0, none⟩ = some (.int .i64 xd) := cell_of_row w4 fb 0 _ _ _ hfb4
    have m1 : w4.cell? ⟨fb, 1, none⟩ = some (.string xx) := cell_of_row w4 fb 1 _ _ _ hfb4
    have m2 : w4.cell? ⟨fb, 2, none⟩ = some (.string xy) := cell_of_row w4 fb 2 _ _ _ hfb4
    have m3 : w4.cell? ⟨fb, 3, none⟩ = some (.string xz) := cell_of_row w4 fb 3 _ _ _ hfb4
    have m4 : w4.cell? ⟨fb, 4, none⟩ = some (.string xt) := cell_of_row w4 fb 4 _ _ _ hfb4
    have m5 : w4.cell? ⟨fb, 5, none⟩ = some (.string xf) := cell_of_row w4 fb 5 _ _ _ hfb4
    have m6 : w4.cell? ⟨fb, 6, none⟩ = some (.slice P1 xag.length q1) := cell_of_row w4 fb 6 _ _ _ hfb4
    have m7 : w4.cell? ⟨fb, 7, none⟩ = some (.int .i64 xn) := cell_of_row w4 fb 7 _ _ _ hfb4
    have m8 : w4.cell? ⟨fb, 8, none⟩ = some (.slice P2 xbd.length q2) := cell_of_row w4 fb 8 _ _ _ hfb4
    have m9 : w4.cell? ⟨fb, 9, none⟩ = some (.slice P3 xot.length p3) := cell_of_row w4 fb 9 _ _ _ hfb4
    have m10 : w4.cell? ⟨fb, 10, none⟩ = some (.int .i64 xln) := cell_of_row w4 fb 10 _ _ _ hfb4
    have m11 : w4.cell? ⟨fb, 11, none⟩ = some (.int .i64 xcl) := cell_of_row w4 fb 11 _ _ _ hfb4
    have zz0 : w4.cell? ⟨r, 0, none⟩ = some (.int .i64 0) := cell_of_row w4 r 0 _ _ _ hra
    have zf0 : w4.frozen? ⟨r, 0, none⟩ = false := frozen_of_row w4 r 0 _ _ hra
    have zz1 : w4.cell? ⟨r, 1, none⟩ = some (.string ⟨#[]⟩) := cell_of_row w4 r 1 _ _ _ hra
    have zf1 : w4.frozen? ⟨r, 1, none⟩ = false := frozen_of_row w4 r 1 _ _ hra
    have zz2 : w4.cell? ⟨r, 2, none⟩ = some (.string ⟨#[]⟩) := cell_of_row w4 r 2 _ _ _ hra
    have zf2 : w4.frozen? ⟨r, 2, none⟩ = false := frozen_of_row w4 r 2 _ _ hra
    have zz3 : w4.cell? ⟨r, 3, none⟩ = some (.string ⟨#[]⟩) := cell_of_row w4 r 3 _ _ _ hra
    have zf3 : w4.frozen? ⟨r, 3, none⟩ = false := frozen_of_row w4 r 3 _ _ hra
    have zz4 : w4.cell? ⟨r, 4, none⟩ = some (.string ⟨#[]⟩) := cell_of_row w4 r 4 _ _ _ hra
    have zf4 : w4.frozen? ⟨r, 4, none⟩ = false := frozen_of_row w4 r 4 _ _ hra
    have zz5 : w4.cell? ⟨r, 5, none⟩ = some (.string ⟨#[]⟩) := cell_of_row w4 r 5 _ _ _ hra
    have zf5 : w4.frozen? ⟨r, 5, none⟩ = false := frozen_of_row w4 r 5 _ _ hra
    have zz6 : w4.cell? ⟨r, 6, none⟩ = some (.slice none 0 0) := cell_of_row w4 r 6 _ _ _ hra
    have zf6 : w4.frozen? ⟨r, 6, none⟩ = false := frozen_of_row w4 r 6 _ _ hra
    have zz7 : w4.cell? ⟨r, 7, none⟩ = some (.int .i64 0) := cell_of_row w4 r 7 _ _ _ hra
    have zf7 : w4.frozen? ⟨r, 7, none⟩ = false := frozen_of_row w4 r 7 _ _ hra
    have zz8 : w4.cell? ⟨r, 8, none⟩ = some (.slice none 0 0) := cell_of_row w4 r 8 _ _ _ hra
    have zf8 : w4.frozen? ⟨r, 8, none⟩ = false := frozen_of_row w4 r 8 _ _ hra
    have zz9 : w4.cell? ⟨r, 9, none⟩ = some (.slice none 0 0) := cell_of_row w4 r 9 _ _ _ hra
    have zf9 : w4.frozen? ⟨r, 9, none⟩ = false := frozen_of_row w4 r 9 _ _ hra
    have zz10 : w4.cell? ⟨r, 10, none⟩ = some (.int .i64 0) := cell_of_row w4 r 10 _ _ _ hra
    have zf10 : w4.frozen? ⟨r, 10, none⟩ = false := frozen_of_row w4 r 10 _ _ hra
    have zz11 : w4.cell? ⟨r, 11, none⟩ = some (.int .i64 0) := cell_of_row w4 r 11 _ _ _ hra
    have zf11 : w4.frozen? ⟨r, 11, none⟩ = false := frozen_of_row w4 r 11 _ _ hra
    have yy0 : w4.cell? ⟨r + 1, 0, none⟩ = some (.int .i64 0) := cell_of_row w4 (r + 1) 0 _ _ _ hrb
    have yf0 : w4.frozen? ⟨r + 1, 0, none⟩ = false := frozen_of_row w4 (r + 1) 0 _ _ hrb
    have yy1 : w4.cell? ⟨r + 1, 1, none⟩ = some (.int .i64 0) := cell_of_row w4 (r + 1) 1 _ _ _ hrb
    have yf1 : w4.frozen? ⟨r + 1, 1, none⟩ = false := frozen_of_row w4 (r + 1) 1 _ _ hrb
    have yy2 : w4.cell? ⟨r + 1, 2, none⟩ = some (.int .i64 0) := cell_of_row w4 (r + 1) 2 _ _ _ hrb
    have yf2 : w4.frozen? ⟨r + 1, 2, none⟩ = false := frozen_of_row w4 (r + 1) 2 _ _ hrb
    clear hra hrb hfb4 hI4 t4 hT4
    go_wp2_with fail
    refine bodyPost_ret (v := .tuple #[.agg #[.int .i64 xd, .string xx, .string xy, .string xz, .string xt, .string xf, .slice P1 xag.length q1, .int .i64 xn, .slice P2 xbd.length q2, .slice P3 xot.length p3, .int .i64 xln, .int .i64 xcl], .agg #[.int .i64 0, .int .i64 0, .int .i64 0]]) (by simp [results, Tryz.results34, go_sem, zz0, zz1, zz2, zz3, zz4, zz5, zz6, zz7, zz8, zz9, zz10, zz11, yy0, yy1, yy2]) rfl ?_
    have key : ∀ W', Turn [r, r + 1] w4 W' → Turn [b] w W' ∧ ResIs RdS #[.int .i64 0, .string ⟨#[]⟩, .string ⟨#[]⟩, .string ⟨#[]⟩, .string ⟨#[]⟩, .string ⟨#[]⟩, .slice none 0 0, .int .i64 0, .slice none 0 0, .slice none 0 0, .int .i64 0, .int .i64 0] ⟨lf, 0, fl, fc, ff, fd⟩ (fun g => w.heap.size ≤ g) W' (.mk xd xx xy xz xt xf xag xn xbd xot xln xcl) (Ending.returned (.tuple #[.agg #[.int .i64 xd, .string xx, .string xy, .string xz, .string xt, .string xf, .slice P1 xag.length q1, .int .i64 xn, .slice P2 xbd.length q2, .slice P3 xot.length p3, .int .i64 xln, .int .i64 xcl], .agg #[.int .i64 0, .int .i64 0, .int .i64 0]])) := fun W' tE =>
      ⟨((HT1.out.more (by simp)).trans HT4.out (fun g hg => .inl hg)).trans tE (fun g hg => by simp at hg; omega), Or.inr ⟨rfl, [.int .i64 xd, .string xx, .string xy, .string xz, .string xt, .string xf, .slice P1 xag.length q1, .int .i64 xn, .slice P2 xbd.length q2, .slice P3 xot.length p3, .int .i64 xln, .int .i64 xcl], rfl, goodS.mono (goodS.turn HRD4.out tE (by simp; omega)) (fun g hg _ => by omega)⟩⟩
    refine key _ ?_
    exact ((((((((((((((((Turn.refl [r, r + 1] w4).setCell (.inl (by simp)) _).setCell (.inl (by simp)) _).setCell (.inl (by simp)) _).setCell (.inl (by simp)) _).setCell (.inl (by simp)) _).setCell (.inl (by simp)) _).setCell (.inl (by simp)) _).setCell (.inl (by simp)) _).setCell (.inl (by simp)) _).setCell (.inl (by simp)) _).setCell (.inl (by simp)) _).setCell (.inl (by simp)) _).setCell (.inl (by simp)) _).setCell (.inl (by simp)) _).setCell (.inl (by simp)) _)
  · have z1 : decide ((fe : Int) = 0) = false := by simp; omega
    have z2 : ((fe : Int) == 0) = false := by simp; omega
    have z3 : ¬ (fe : Int) = 0 := by omega
    have z4 : (fe : Int) ≠ 0 := by omega
    obtain ⟨W5, hW5⟩ : ∃ W, w4.alloc (.cells #[.int .i64 0, .string ⟨#[]⟩, .string ⟨#[]⟩, .string ⟨#[]⟩, .string ⟨#[]⟩, .string ⟨#[]⟩, .slice none 0 0, .int .i64 0, .slice none 0 0, .slice none 0 0, .int .i64 0, .int .i64 0] 41) = W := ⟨_, rfl⟩
    obtain ⟨nb, hnb⟩ : ∃ q, w4.heap.size = q := ⟨_, rfl⟩
    have tW5 : Turn [] w4 W5 := by rw [← hW5]; exact (Turn.refl [] w4).alloc _
    have hno : W5.heap[nb]? = some (.cells #[.int .i64 0, .string ⟨#[]⟩, .string ⟨#[]⟩, .string ⟨#[]⟩, .string ⟨#[]⟩, .string ⟨#[]⟩, .slice none 0 0, .int .i64 0, .slice none 0 0, .slice none 0 0, .int .i64 0, .int .i64 0] 41 (0, 0)) := by rw [← hW5, ← hnb]; exact heap_alloc_new w4 _
    have hra5 := tW5.heap hra (by simp)
    have hrb5 := tW5.heap hrb (by simp)
    have hbk5 := tW5.heap hI4.blk (by simp)
    have u3 : W5.cell? ⟨b, 3, none⟩ = some (.int .i64 (fe : Int)) := cell_of_row W5 b 3 _ _ _ hbk5
    have u4 : W5.cell? ⟨b, 4, none⟩ = some (.int .i64 (fl : Int)) := cell_of_row W5 b 4 _ _ _ hbk5
    have u5 : W5.cell? ⟨b, 5, none⟩ = some (.int .i64 (fc : Int)) := cell_of_row W5 b 5 _ _ _ hbk5
    have m0 : W5.cell? ⟨nb, 0, none⟩ = some (.int .i64 0) := cell_of_row W5 nb 0 _ _ _ hno
    have m1 : W5.cell? ⟨nb, 1, none⟩ = some (.string ⟨#[]⟩) := cell_of_row W5 nb 1 _ _ _ hno
    have m2 : W5.cell? ⟨nb, 2, none⟩ = some (.string ⟨#[]⟩) := cell_of_row W5 nb 2 _ _ _ hno
    have m3 : W5.cell? ⟨nb, 3, none⟩ = some (.string ⟨#[]⟩) := cell_of_row W5 nb 3 _ _ _ hno
    have m4 : W5.cell? ⟨nb, 4, none⟩ = some (.string ⟨#[]⟩) := cell_of_row W5 nb 4 _ _ _ hno
    have m5 : W5.cell? ⟨nb, 5, none⟩ = some (.string ⟨#[]⟩) := cell_of_row W5 nb 5 _ _ _ hno
    have m6 : W5.cell? ⟨nb, 6, none⟩ = some (.slice none 0 0) := cell_of_row W5 nb 6 _ _ _ hno
    have m7 : W5.cell? ⟨nb, 7, none⟩ = some (.int .i64 0) := cell_of_row W5 nb 7 _ _ _ hno
    have m8 : W5.cell? ⟨nb, 8, none⟩ = some (.slice none 0 0) := cell_of_row W5 nb 8 _ _ _ hno
    have m9 : W5.cell? ⟨nb, 9, none⟩ = some (.slice none 0 0) := cell_of_row W5 nb 9 _ _ _ hno
    have m10 : W5.cell? ⟨nb, 10, none⟩ = some (.int .i64 0) := cell_of_row W5 nb 10 _ _ _ hno
    have m11 : W5.cell? ⟨nb, 11, none⟩ = some (.int .i64 0) := cell_of_row W5 nb 11 _ _ _ hno
    have zz0 : W5.cell? ⟨r, 0, none⟩ = some (.int .i64 0) := cell_of_row W5 r 0 _ _ _ hra5
    have zf0 : W5.frozen? ⟨r, 0, none⟩ = false := frozen_of_row W5 r 0 _ _ hra5
    have zz1 : W5.cell? ⟨r, 1, none⟩ = some (.string ⟨#[]⟩) := cell_of_row W5 r 1 _ _ _ hra5
    have zf1 : W5.frozen? ⟨r, 1, none⟩ = false := frozen_of_row W5 r 1 _ _ hra5
    have zz2 : W5.cell? ⟨r, 2, none⟩ = some (.string ⟨#[]⟩) := cell_of_row W5 r 2 _ _ _ hra5
    have zf2 : W5.frozen? ⟨r, 2, none⟩ = false := frozen_of_row W5 r 2 _ _ hra5
    have zz3 : W5.cell? ⟨r, 3, none⟩ = some (.string ⟨#[]⟩) := cell_of_row W5 r 3 _ _ _ hra5
    have zf3 : W5.frozen? ⟨r, 3, none⟩ = false := frozen_of_row W5 r 3 _ _ hra5
    have zz4 : W5.cell? ⟨r, 4, none⟩ = some (.string ⟨#[]⟩) := cell_of_row W5 r 4 _ _ _ hra5
    have zf4 : W5.frozen? ⟨r, 4, none⟩ = false := frozen_of_row W5 r 4 _ _ hra5
    have zz5 : W5.cell? ⟨r, 5, none⟩ = some (.string ⟨#[]⟩) := cell_of_row W5 r 5 _ _ _ hra5
    have zf5 : W5.frozen? ⟨r, 5, none⟩ = false := frozen_of_row W5 r 5 _ _ hra5
    have zz6 : W5.cell? ⟨r, 6, none⟩ = some (.slice none 0 0) := cell_of_row W5 r 6 _ _ _ hra5
    have zf6 : W5.frozen? ⟨r, 6, none⟩ = false := frozen_of_row W5 r 6 _ _ hra5
    have zz7 : W5.cell? ⟨r, 7, none⟩ = some (.int .i64 0) := cell_of_row W5 r 7 _ _ _ hra5
    have zf7 : W5.frozen? ⟨r, 7, none⟩ = false := frozen_of_row W5 r 7 _ _ hra5
    have zz8 : W5.cell? ⟨r, 8, none⟩ = some (.slice none 0 0) := cell_of_row W5 r 8 _ _ _ hra5
    have zf8 : W5.frozen? ⟨r, 8, none⟩ = false := frozen_of_row W5 r 8 _ _ hra5
    have zz9 : W5.cell? ⟨r, 9, none⟩ = some (.slice none 0 0) := cell_of_row W5 r 9 _ _ _ hra5
    have zf9 : W5.frozen? ⟨r, 9, none⟩ = false := frozen_of_row W5 r 9 _ _ hra5
    have zz10 : W5.cell? ⟨r, 10, none⟩ = some (.int .i64 0) := cell_of_row W5 r 10 _ _ _ hra5
    have zf10 : W5.frozen? ⟨r, 10, none⟩ = false := frozen_of_row W5 r 10 _ _ hra5
    have zz11 : W5.cell? ⟨r, 11, none⟩ = some (.int .i64 0) := cell_of_row W5 r 11 _ _ _ hra5
    have zf11 : W5.frozen? ⟨r, 11, none⟩ = false := frozen_of_row W5 r 11 _ _ hra5
    have yy0 : W5.cell? ⟨r + 1, 0, none⟩ = some (.int .i64 0) := cell_of_row W5 (r + 1) 0 _ _ _ hrb5
    have yf0 : W5.frozen? ⟨r + 1, 0, none⟩ = false := frozen_of_row W5 (r + 1) 0 _ _ hrb5
    have yy1 : W5.cell? ⟨r + 1, 1, none⟩ = some (.int .i64 0) := cell_of_row W5 (r + 1) 1 _ _ _ hrb5
    have yf1 : W5.frozen? ⟨r + 1, 1, none⟩ = false := frozen_of_row W5 (r + 1) 1 _ _ hrb5
    have yy2 : W5.cell? ⟨r + 1, 2, none⟩ = some (.int .i64 0) := cell_of_row W5 (r + 1) 2 _ _ _ hrb5
    have yf2 : W5.frozen? ⟨r + 1, 2, none⟩ = false := frozen_of_row W5 (r + 1) 2 _ _ hrb5
    have HT5 := Lib.hid (HT4.out.trans' tW5)
    have HW5 := Lib.hid hW5
    have HNB := Lib.hid hnb
    have hne1 : ¬ r = nb := by omega
    have hne2 : ¬ r + 1 = nb := by omega
    have hne3 : ¬ r = b := by omega
    have hne4 : ¬ r + 1 = b := by omega
    have HZ := Lib.hid he
    clear hra hrb hfb4 hI4 t4 hT4 hra5 hrb5 hbk5 hno tW5 hW5 hnb he
    go_upto_region 5 with (fail)
    rw [HW5.out, HNB.out]
    refine wp_region_held_drew (S := fun w' => True) (by kernel_rfl) ?_ (fun hHeld => ?_)
    · trivial
    refine wpAnyH_take (i := 1) (oi := { dst := some 19, op := Op.move (Operand.tmp 0), type := 57, pos := _, after := #[{ on := 5, ground := Ground.gcOnly Departure.lateStores }], guard := none }) (v := ?_) rfl (by kernel_rfl) (by kernel_rfl) (by kernel_rfl) (fun _ _ _ h => h) (Or.inl ⟨by rfl, ?_⟩) (by assumption) ?_
    rotate_left
    · intro w hSw; (try dsimp only at hSw); go_simp; (try with_reducible rfl)
    try simp only [Act.put, List.setIfInBounds_toArray, List.set_cons_zero, List.set_cons_succ]
    refine wpAnyH_take (i := 2) (oi := { dst := some 20, op := Op.nilCheck (Operand.tmp 19), type := 0, pos := _, after := #[{ on := 1, ground := Ground.data }, { on := 5, ground := Ground.gcOnly Departure.lateStores }], guard := none }) (v := ?_) rfl (by kernel_rfl) (by kernel_rfl) (by kernel_rfl) (fun _ _ _ h => h) (Or.inl ⟨by rfl, ?_⟩) (by assumption) ?_
    rotate_left
    · intro w hSw; (try dsimp only at hSw); go_simp; (try with_reducible rfl)
    try simp only [Act.put, List.setIfInBounds_toArray, List.set_cons_zero, List.set_cons_succ]
    refine wpAnyH_take (i := 3) (oi := { dst := some 21, op := Op.fieldAddr 95 (Operand.tmp 20) 2, type := 0, pos := _, after := #[{ on := 2, ground := Ground.data }, { on := 5, ground := Ground.gcOnly Departure.lateStores }], guard := none }) (v := ?_) rfl (by kernel_rfl) (by kernel_rfl) (by kernel_rfl) (fun _ _ _ h => h) (Or.inl ⟨by rfl, ?_⟩) (by assumption) ?_
    rotate_left
    · intro w hSw; (try dsimp only at hSw); go_simp; (try with_reducible rfl)
    try simp only [Act.put, List.setIfInBounds_toArray, List.set_cons_zero, List.set_cons_succ]
    refine wpAnyH_ready (rs := [0, 4]) (by kernel_rfl) (by simp) ?_
    refine AllReadyH.cons (o := { dst := some 18, op := Op.load 41 (Operand.tmp 7), type := 41, pos := _, after := #[], guard := none }) rfl (fun K hK => ?_) (AllReadyH.cons (o := { dst := some 22, op := Op.load 34 (Operand.tmp 21), type := 34, pos := _, after := #[{ on := 3, ground := Ground.data }, { on := 5, ground := Ground.gcOnly Departure.lateStores }], guard := none }) rfl (fun K hK => ?_) AllReadyH.nil)
    · go_simp
      refine hK.out _ _ ?_ (fun hHeld => ?_)
      · trivial
      clear hK K
      try simp only [Act.put, List.setIfInBounds_toArray, List.set_cons_zero, List.set_cons_succ]
      refine wpAnyH_ready (rs := [4, 5]) (by kernel_rfl) (by simp) ?_
      refine AllReadyH.cons (o := { dst := some 22, op := Op.load 34 (Operand.tmp 21), type := 34, pos := _, after := #[{ on := 3, ground := Ground.data }, { on := 5, ground := Ground.gcOnly Departure.lateStores }], guard := none }) rfl (fun K hK => ?_) (AllReadyH.cons (o := { dst := none, op := Op.store 41 (Operand.tmp 4) (Operand.tmp 18), type := 0, pos := _, after := #[{ on := 0, ground := Ground.data }, { on := 0, ground := Ground.phase }, { on := 1, ground := Ground.textOnly Departure.lateStores }, { on := 2, ground := Ground.textOnly Departure.lateStores }, { on := 3, ground := Ground.textOnly Departure.lateStores }, { on := 4, ground := Ground.textOnly Departure.lateStores }], guard := none }) rfl (fun K hK => ?_) AllReadyH.nil)
      · go_simp
        refine hK.out _ _ ?_ (fun hHeld => ?_)
        · trivial
        clear hK K
        try simp only [Act.put, List.setIfInBounds_toArray, List.set_cons_zero, List.set_cons_succ]
        refine wpAnyH_ready (rs := [5]) (by kernel_rfl) (by simp) ?_
        refine AllReadyH.cons (o := { dst := none, op := Op.store 41 (Operand.tmp 4) (Operand.tmp 18), type := 0, pos := _, after := #[{ on := 0, ground := Ground.data }, { on := 0, ground := Ground.phase }, { on := 1, ground := Ground.textOnly Departure.lateStores }, { on := 2, ground := Ground.textOnly Departure.lateStores }, { on := 3, ground := Ground.textOnly Departure.lateStores }, { on := 4, ground := Ground.textOnly Departure.lateStores }], guard := none }) rfl (fun K hK => ?_) AllReadyH.nil
        go_simp
        refine hK.out _ _ ?_ (fun hHeld => ?_)
        · trivial
        clear hK K
        try simp only [Act.put, List.setIfInBounds_toArray, List.set_cons_zero, List.set_cons_succ]
        refine wpAnyH_ready (rs := [6]) (by kernel_rfl) (by simp) ?_
        refine AllReadyH.cons (o := { dst := none, op := Op.store 34 (Operand.tmp 5) (Operand.tmp 22), type := 0, pos := _, after := #[{ on := 4, ground := Ground.data }, { on := 5, ground := Ground.chain }, { on := 0, ground := Ground.phase }, { on := 1, ground := Ground.phase }, { on := 2, ground := Ground.phase }, { on := 3, ground := Ground.phase }, { on := 4, ground := Ground.phase }, { on := 5, ground := Ground.phase }], guard := none }) rfl (fun K hK => ?_) AllReadyH.nil
        go_simp
        refine hK.out _ _ ?_ (fun hHeld => ?_)
        · trivial
        clear hK K
        try simp only [Act.put, List.setIfInBounds_toArray, List.set_cons_zero, List.set_cons_succ]
        refine wpAnyH_done (by kernel_rfl) ?_ _
        go_wp2_with fail
        refine bodyPost_ret (v := .tuple #[.agg #[.int .i64 0, .string ⟨#[]⟩, .string ⟨#[]⟩, .string ⟨#[]⟩, .string ⟨#[]⟩, .string ⟨#[]⟩, .slice none 0 0, .int .i64 0, .slice none 0 0, .slice none 0 0, .int .i64 0, .int .i64 0], .agg #[.int .i64 (fe : Int), .int .i64 (fl : Int), .int .i64 (fc : Int)]]) (by simp [results, Tryz.results34, go_sem, zz0, zz1, zz2, zz3, zz4, zz5, zz6, zz7, zz8, zz9, zz10, zz11, yy0, yy1, yy2]) rfl ?_
        have key : ∀ W', Turn [r, r + 1] W5 W' → Turn [b] w W' ∧ ResIs RdS #[.int .i64 0, .string ⟨#[]⟩, .string ⟨#[]⟩, .string ⟨#[]⟩, .string ⟨#[]⟩, .string ⟨#[]⟩, .slice none 0 0, .int .i64 0, .slice none 0 0, .slice none 0 0, .int .i64 0, .int .i64 0] ⟨lf, fe, fl, fc, ff, fd⟩ (fun g => w.heap.size ≤ g) W' (.mk xd xx xy xz xt xf xag xn xbd xot xln xcl) (Ending.returned (.tuple #[.agg #[.int .i64 0, .string ⟨#[]⟩, .string ⟨#[]⟩, .string ⟨#[]⟩, .string ⟨#[]⟩, .string ⟨#[]⟩, .slice none 0 0, .int .i64 0, .slice none 0 0, .slice none 0 0, .int .i64 0, .int .i64 0], .agg #[.int .i64 (fe : Int), .int .i64 (fl : Int), .int .i64 (fc : Int)]])) := fun W' tE =>
          ⟨((HT1.out.more (by simp)).trans HT5.out (fun g hg => .inl hg)).trans tE (fun g hg => by simp at hg; omega), Or.inl ⟨HZ.out, rfl⟩⟩
        refine key _ ?_
        exact ((((((((((((((((Turn.refl [r, r + 1] W5).setCell (.inl (by simp)) _).setCell (.inl (by simp)) _).setCell (.inl (by simp)) _).setCell (.inl (by simp)) _).setCell (.inl (by simp)) _).setCell (.inl (by simp)) _).setCell (.inl (by simp)) _).setCell (.inl (by simp)) _).setCell (.inl (by simp)) _).setCell (.inl (by simp)) _).setCell (.inl (by simp)) _).setCell (.inl (by simp)) _).setCell (.inl (by simp)) _).setCell (.inl (by simp)) _).setCell (.inl (by simp)) _).drew
      · go_simp
        refine hK.out _ _ ?_ (fun hHeld => ?_)
        · trivial
        clear hK K
        try simp only [Act.put, List.setIfInBounds_toArray, List.set_cons_zero, List.set_cons_succ]
        refine wpAnyH_ready (rs := [4]) (by kernel_rfl) (by simp) ?_
        refine AllReadyH.cons (o := { dst := some 22, op := Op.load 34 (Operand.tmp 21), type := 34, pos := _, after := #[{ on := 3, ground := Ground.data }, { on := 5, ground := Ground.gcOnly Departure.lateStores }], guard := none }) rfl (fun K hK => ?_) AllReadyH.nil
        go_simp
        refine hK.out _ _ ?_ (fun hHeld => ?_)
        · trivial
        clear hK K
        try simp only [Act.put, List.setIfInBounds_toArray, List.set_cons_zero, List.set_cons_succ]
        refine wpAnyH_ready (rs := [6]) (by kernel_rfl) (by simp) ?_
        refine AllReadyH.cons (o := { dst := none, op := Op.store 34 (Operand.tmp 5) (Operand.tmp 22), type := 0, pos := _, after := #[{ on := 4, ground := Ground.data }, { on := 5, ground := Ground.chain }, { on := 0, ground := Ground.phase }, { on := 1, ground := Ground.phase }, { on := 2, ground := Ground.phase }, { on := 3, ground := Ground.phase }, { on := 4, ground := Ground.phase }, { on := 5, ground := Ground.phase }], guard := none }) rfl (fun K hK => ?_) AllReadyH.nil
        go_simp
        refine hK.out _ _ ?_ (fun hHeld => ?_)
        · trivial
        clear hK K
        try simp only [Act.put, List.setIfInBounds_toArray, List.set_cons_zero, List.set_cons_succ]
        refine wpAnyH_done (by kernel_rfl) ?_ _
        go_wp2_with fail
        refine bodyPost_ret (v := .tuple #[.agg #[.int .i64 0, .string ⟨#[]⟩, .string ⟨#[]⟩, .string ⟨#[]⟩, .string ⟨#[]⟩, .string ⟨#[]⟩, .slice none 0 0, .int .i64 0, .slice none 0 0, .slice none 0 0, .int .i64 0, .int .i64 0], .agg #[.int .i64 (fe : Int), .int .i64 (fl : Int), .int .i64 (fc : Int)]]) (by simp [results, Tryz.results34, go_sem, zz0, zz1, zz2, zz3, zz4, zz5, zz6, zz7, zz8, zz9, zz10, zz11, yy0, yy1, yy2]) rfl ?_
        have key : ∀ W', Turn [r, r + 1] W5 W' → Turn [b] w W' ∧ ResIs RdS #[.int .i64 0, .string ⟨#[]⟩, .string ⟨#[]⟩, .string ⟨#[]⟩, .string ⟨#[]⟩, .string ⟨#[]⟩, .slice none 0 0, .int .i64 0, .slice none 0 0, .slice none 0 0, .int .i64 0, .int .i64 0] ⟨lf, fe, fl, fc, ff, fd⟩ (fun g => w.heap.size ≤ g) W' (.mk xd xx xy xz xt xf xag xn xbd xot xln xcl) (Ending.returned (.tuple #[.agg #[.int .i64 0, .string ⟨#[]⟩, .string ⟨#[]⟩, .string ⟨#[]⟩, .string ⟨#[]⟩, .string ⟨#[]⟩, .slice none 0 0, .int .i64 0, .slice none 0 0, .slice none 0 0, .int .i64 0, .int .i64 0], .agg #[.int .i64 (fe : Int), .int .i64 (fl : Int), .int .i64 (fc : Int)]])) := fun W' tE =>
          ⟨((HT1.out.more (by simp)).trans HT5.out (fun g hg => .inl hg)).trans tE (fun g hg => by simp at hg; omega), Or.inl ⟨HZ.out, rfl⟩⟩
        refine key _ ?_
        exact ((((((((((((((((Turn.refl [r, r + 1] W5).setCell (.inl (by simp)) _).setCell (.inl (by simp)) _).setCell (.inl (by simp)) _).setCell (.inl (by simp)) _).setCell (.inl (by simp)) _).setCell (.inl (by simp)) _).setCell (.inl (by simp)) _).setCell (.inl (by simp)) _).setCell (.inl (by simp)) _).setCell (.inl (by simp)) _).setCell (.inl (by simp)) _).setCell (.inl (by simp)) _).setCell (.inl (by simp)) _).setCell (.inl (by simp)) _).setCell (.inl (by simp)) _).drew
    · go_simp
      refine hK.out _ _ ?_ (fun hHeld => ?_)
      · trivial
      clear hK K
      try simp only [Act.put, List.setIfInBounds_toArray, List.set_cons_zero, List.set_cons_succ]
      refine wpAnyH_ready (rs := [0]) (by kernel_rfl) (by simp) ?_
      refine AllReadyH.cons (o := { dst := some 18, op := Op.load 41 (Operand.tmp 7), type := 41, pos := _, after := #[], guard := none }) rfl (fun K hK => ?_) AllReadyH.nil
      go_simp
      refine hK.out _ _ ?_ (fun hHeld => ?_)
      · trivial
      clear hK K
      try simp only [Act.put, List.setIfInBounds_toArray, List.set_cons_zero, List.set_cons_succ]
      refine wpAnyH_ready (rs := [5]) (by kernel_rfl) (by simp) ?_
      refine AllReadyH.cons (o := { dst := none, op := Op.store 41 (Operand.tmp 4) (Operand.tmp 18), type := 0, pos := _, after := #[{ on := 0, ground := Ground.data }, { on := 0, ground := Ground.phase }, { on := 1, ground := Ground.textOnly Departure.lateStores }, { on := 2, ground := Ground.textOnly Departure.lateStores }, { on := 3, ground := Ground.textOnly Departure.lateStores }, { on := 4, ground := Ground.textOnly Departure.lateStores }], guard := none }) rfl (fun K hK => ?_) AllReadyH.nil
      go_simp
      refine hK.out _ _ ?_ (fun hHeld => ?_)
      · trivial
      clear hK K
      try simp only [Act.put, List.setIfInBounds_toArray, List.set_cons_zero, List.set_cons_succ]
      refine wpAnyH_ready (rs := [6]) (by kernel_rfl) (by simp) ?_
      refine AllReadyH.cons (o := { dst := none, op := Op.store 34 (Operand.tmp 5) (Operand.tmp 22), type := 0, pos := _, after := #[{ on := 4, ground := Ground.data }, { on := 5, ground := Ground.chain }, { on := 0, ground := Ground.phase }, { on := 1, ground := Ground.phase }, { on := 2, ground := Ground.phase }, { on := 3, ground := Ground.phase }, { on := 4, ground := Ground.phase }, { on := 5, ground := Ground.phase }], guard := none }) rfl (fun K hK => ?_) AllReadyH.nil
      go_simp
      refine hK.out _ _ ?_ (fun hHeld => ?_)
      · trivial
      clear hK K
      try simp only [Act.put, List.setIfInBounds_toArray, List.set_cons_zero, List.set_cons_succ]
      refine wpAnyH_done (by kernel_rfl) ?_ _
      go_wp2_with fail
      refine bodyPost_ret (v := .tuple #[.agg #[.int .i64 0, .string ⟨#[]⟩, .string ⟨#[]⟩, .string ⟨#[]⟩, .string ⟨#[]⟩, .string ⟨#[]⟩, .slice none 0 0, .int .i64 0, .slice none 0 0, .slice none 0 0, .int .i64 0, .int .i64 0], .agg #[.int .i64 (fe : Int), .int .i64 (fl : Int), .int .i64 (fc : Int)]]) (by simp [results, Tryz.results34, go_sem, zz0, zz1, zz2, zz3, zz4, zz5, zz6, zz7, zz8, zz9, zz10, zz11, yy0, yy1, yy2]) rfl ?_
      have key : ∀ W', Turn [r, r + 1] W5 W' → Turn [b] w W' ∧ ResIs RdS #[.int .i64 0, .string ⟨#[]⟩, .string ⟨#[]⟩, .string ⟨#[]⟩, .string ⟨#[]⟩, .string ⟨#[]⟩, .slice none 0 0, .int .i64 0, .slice none 0 0, .slice none 0 0, .int .i64 0, .int .i64 0] ⟨lf, fe, fl, fc, ff, fd⟩ (fun g => w.heap.size ≤ g) W' (.mk xd xx xy xz xt xf xag xn xbd xot xln xcl) (Ending.returned (.tuple #[.agg #[.int .i64 0, .string ⟨#[]⟩, .string ⟨#[]⟩, .string ⟨#[]⟩, .string ⟨#[]⟩, .string ⟨#[]⟩, .slice none 0 0, .int .i64 0, .slice none 0 0, .slice none 0 0, .int .i64 0, .int .i64 0], .agg #[.int .i64 (fe : Int), .int .i64 (fl : Int), .int .i64 (fc : Int)]])) := fun W' tE =>
        ⟨((HT1.out.more (by simp)).trans HT5.out (fun g hg => .inl hg)).trans tE (fun g hg => by simp at hg; omega), Or.inl ⟨HZ.out, rfl⟩⟩
      refine key _ ?_
      exact ((((((((((((((((Turn.refl [r, r + 1] W5).setCell (.inl (by simp)) _).setCell (.inl (by simp)) _).setCell (.inl (by simp)) _).setCell (.inl (by simp)) _).setCell (.inl (by simp)) _).setCell (.inl (by simp)) _).setCell (.inl (by simp)) _).setCell (.inl (by simp)) _).setCell (.inl (by simp)) _).setCell (.inl (by simp)) _).setCell (.inl (by simp)) _).setCell (.inl (by simp)) _).setCell (.inl (by simp)) _).setCell (.inl (by simp)) _).setCell (.inl (by simp)) _).drew
end Go.Proofs.YtnmhcgkccchacaaGreatDoor
