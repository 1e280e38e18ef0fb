import Derived.Test.YtnmhcgkccchacaaGreatDoorQ08Eit

/- whole, Parse. Printed by mkwhl.py. -/
set_option linter.unusedSimpArgs false
set_option linter.unusedVariables false
set_option maxRecDepth 100000
namespace Go.Proofs.YtnmhcgkccchacaaGreatDoor
open Go.RowKit

set_option maxHeartbeats 12800000 in
theorem wholeP_any (en : Nat × Nat) (b : Nat) (s : RS) (w : World) (hP : Pr en w b s) (hd : s.deep = 0) :
    Calls Tryz.prog 22 #[.pointer (some ⟨b, 0, none⟩), .func (.func 23) #[.pointer (some ⟨b, 0, none⟩)] #[]] w fun e w' => Turn [b] w w' ∧
      ResIs RdG #[.slice none 0 0, .string ⟨#[]⟩, .string ⟨#[]⟩, .bool false, .bool false, .slice none 0 0, .slice none 0 0, .slice none 0 0, .int .i64 0, .int .i64 0] (finish en (program en s).2) (fun g => w.heap.size ≤ g) w' (program en s).1 e := by
  have hbl := hP.lt
  obtain ⟨W1, hW1⟩ : ∃ W, (w.alloc (.cells #[.slice none 0 0, .string ⟨#[]⟩, .string ⟨#[]⟩, .bool false, .bool false, .slice none 0 0, .slice none 0 0, .slice none 0 0, .int .i64 0, .int .i64 0] 31)).alloc (.cells #[.int .i64 0, .int .i64 0, .int .i64 0] 34) = W := ⟨_, rfl⟩
  obtain ⟨r, hr⟩ : ∃ r, w.heap.size = r := ⟨_, rfl⟩
  have tW1 : Turn [] w W1 := by rw [← hW1]; exact ((Turn.refl [] w).alloc _).alloc _
  have aW1 : W1.heap[r]? = some (.cells #[.slice none 0 0, .string ⟨#[]⟩, .string ⟨#[]⟩, .bool false, .bool false, .slice none 0 0, .slice none 0 0, .slice none 0 0, .int .i64 0, .int .i64 0] 31 (0, 0)) := by rw [← hW1, ← hr]; exact ((Turn.refl [] _).alloc _).heap (heap_alloc_new w _) (by simp)
  have bW1 : W1.heap[r + 1]? = some (.cells #[.int .i64 0, .int .i64 0, .int .i64 0] 34 (0, 0)) := by
    rw [← hW1, ← hr]
    have := heap_alloc_new (w.alloc (.cells #[.slice none 0 0, .string ⟨#[]⟩, .string ⟨#[]⟩, .bool false, .bool false, .slice none 0 0, .slice none 0 0, .slice none 0 0, .int .i64 0, .int .i64 0] 31)) (.cells #[.int .i64 0, .int .i64 0, .int .i64 0] 34)
    rwa [World.size_alloc] at this
  have sW1 : W1.heap.size = r + 2 := by rw [← hW1, ← hr]; simp
  have HTH := Lib.hid (program_any en b s W1 (hP.up tW1) hd)
  have HW1 := Lib.hid hW1
  have HT1 := Lib.hid tW1
  have HA := Lib.hid aW1
  have HBB := Lib.hid bW1
  obtain ⟨x, hx⟩ : ∃ q, (program en s).1 = q := ⟨_, rfl⟩
  obtain ⟨s2, hs2⟩ : ∃ q, (program en s).2 = q := ⟨_, rfl⟩
  obtain ⟨f, hf⟩ : ∃ q, finish en s2 = q := ⟨_, rfl⟩
  rw [hx, hs2, hf]
  rw [hx, hs2] at HTH
  have HF := Lib.hid hf
  clear hW1 tW1 aW1 bW1 hP hd hx hs2 hf
  go_enter Tryz.func22, Tryz.ntmps22
  go_upto_region 1 with (fail)
  rw [HW1.out]
  go_wp2_with fail
  refine HTH.out.mono ?_
  rintro e2 w2 ⟨cs, rfl, hr2, h2, t2⟩
  obtain ⟨xcs, ⟨mr, mn, mst, mb, mps, mls, mbd, mln, mcl⟩⟩ := x
  obtain ⟨V, mc, ecs, k0, Y1, Y2, Y3, emc, k1, k2, k3⟩ := id hr2
  simp only at emc k0
  subst emc
  subst ecs
  obtain ⟨P0, q0, rfl, _, _⟩ := k0
  obtain ⟨P1, q1, rfl, _, _⟩ := k1
  obtain ⟨P2, q2, rfl, _, _⟩ := k2
  obtain ⟨P3, p3, rfl, _, _⟩ := k3
  obtain ⟨W3, hW3⟩ : ∃ W, w2.alloc (.cells #[.slice P0 xcs.length q0, .string mr, .string mn, .bool mst, .bool mb, .slice P1 mps.length q1, .slice P2 mls.length q2, .slice P3 mbd.length p3, .int .i64 mln, .int .i64 mcl] 31) = W := ⟨_, rfl⟩
  obtain ⟨fb, hfb⟩ : ∃ q, w2.heap.size = q := ⟨_, rfl⟩
  have tW3 : Turn [] w2 W3 := by rw [← hW3]; exact (Turn.refl [] w2).alloc _
  have fW3 : W3.heap[fb]? = some (.cells #[.slice P0 xcs.length q0, .string mr, .string mn, .bool mst, .bool mb, .slice P1 mps.length q1, .slice P2 mls.length q2, .slice P3 mbd.length p3, .int .i64 mln, .int .i64 mcl] 31 (0, 0)) := by rw [← hW3, ← hfb]; exact heap_alloc_new w2 _
  have hrf : r + 2 ≤ fb := by have := t2.size; omega
  have hb3 : Turn [b] W1 W3 := t2.trans' tW3
  have HFI := Lib.hid (finish_any en b s2 W3 (h2.up tW3))
  have HRD := Lib.hid ((hr2.turn tW3 (by simp)))
  have HT3 := Lib.hid hb3
  have HFB := Lib.hid fW3
  have HW3 := Lib.hid hW3
  have HFBS := Lib.hid hfb
  clear hW3 tW3 fW3 hb3 h2 t2 hr2 hfb
  go_upto_region 2 with (fail)
  rw [HW3.out, HFBS.out]
  go_wp2_with fail
  refine HFI.out.mono ?_
  rintro e4 w4 ⟨rfl, h4, t4⟩
  rw [HF.out] at h4
  obtain ⟨lf, fe, fl, fc, ff, fd⟩ := f
  obtain ⟨v4, hI4⟩ := h4
  have q3 : w4.cell? ⟨b, 3, none⟩ = some (.int .i64 (fe : Int)) := cell_of_row w4 b 3 _ _ _ hI4.blk
  have q4 : w4.cell? ⟨b, 4, none⟩ = some (.int .i64 (fl : Int)) := cell_of_row w4 b 4 _ _ _ hI4.blk
  have q5 : w4.cell? ⟨b, 5, none⟩ = some (.int .i64 (fc : Int)) := cell_of_row w4 b 5 _ _ _ hI4.blk
  have hT4 : Turn [b] W1 w4 := HT3.out.trans t4 (fun g hg => .inl hg)
  have hra := hT4.heap HA.out (by simp; omega)
  have hrb := hT4.heap HBB.out (by simp; omega)
  have hfb4 := t4.heap HFB.out (by simp; omega)
  have HT4 := Lib.hid hT4
  have hs4 := HT4.out.size
  by_cases he : fe = 0
  · subst he
    have HRD4 := Lib.hid ((HRD.out.turn t4 (by simp; omega)))
    have m0 : w4.cell? ⟨fb, 0, none⟩ = some (.slice P0 xcs.length q0) := cell_of_row w4 fb 0 _ _ _ hfb4
    have m1 : w4.cell? ⟨fb, 1, none⟩ = some (.string mr) := cell_of_row w4 fb 1 _ _ _ hfb4
    have m2 : w4.cell? ⟨fb, 2, none⟩ = some (.string mn) := cell_of_row w4 fb 2 _ _ _ hfb4
    have m3 : w4.cell? ⟨fb, 3, none⟩ = some (.bool mst) := cell_of_row w4 fb 3 _ _ _ hfb4
    have m4 : w4.cell? ⟨fb, 4, none⟩ = some (.bool mb) := cell_of_row w4 fb 4 _ _ _ hfb4
    have m5 : w4.cell? ⟨fb, 5, none⟩ = some (.slice P1 mps.length q1) := cell_of_row w4 fb 5 _ _ _ hfb4
    have m6 : w4.cell? ⟨fb, 6, none⟩ = some (.slice P2 mls.length q2) := cell_of_row w4 fb 6 _ _ _ hfb4
    have m7 : w4.cell? ⟨fb, 7, none⟩ = some (.slice P3 mbd.length p3) := cell_of_row w4 fb 7 _ _ _ hfb4
    have m8 : w4.cell? ⟨fb, 8, none⟩ = some (.int .i64 mln) := cell_of_row w4 fb 8 _ _ _ hfb4
    have m9 : w4.cell? ⟨fb, 9, none⟩ = some (.int .i64 mcl) := cell_of_row w4 fb 9 _ _ _ hfb4
    have zz0 : w4.cell? ⟨r, 0, none⟩ = some (.slice none 0 0) := cell_of_row w4 r 0 _ _ _ hra
    have zf0 : w4.frozen? ⟨r, 0, none⟩ = false := frozen_of_row w4 r 0 _ _ hra
    have zz1 : w4.cell? ⟨r, 1, none⟩ = some (.string ⟨#[]⟩) := cell_of_row w4 r 1 _ _ _ hra
    have zf1 : w4.frozen? ⟨r, 1, none⟩ = false := frozen_of_row w4 r 1 _ _ hra
    have zz2 : w4.cell? ⟨r, 2, none⟩ = some (.string ⟨#[]⟩) := cell_of_row w4 r 2 _ _ _ hra
    have zf2 : w4.frozen? ⟨r, 2, none⟩ = false := frozen_of_row w4 r 2 _ _ hra
    have zz3 : w4.cell? ⟨r, 3, none⟩ = some (.bool false) := cell_of_row w4 r 3 _ _ _ hra
    have zf3 : w4.frozen? ⟨r, 3, none⟩ = false := frozen_of_row w4 r 3 _ _ hra
    have zz4 : w4.cell? ⟨r, 4, none⟩ = some (.bool false) := cell_of_row w4 r 4 _ _ _ hra
    have zf4 : w4.frozen? ⟨r, 4, none⟩ = false := frozen_of_row w4 r 4 _ _ hra
    have zz5 : w4.cell? ⟨r, 5, none⟩ = some (.slice none 0 0) := cell_of_row w4 r 5 _ _ _ hra
    have zf5 : w4.frozen? ⟨r, 5, none⟩ = false := frozen_of_row w4 r 5 _ _ hra
    have zz6 : w4.cell? ⟨r, 6, none⟩ = some (.slice none 0 0) := cell_of_row w4 r 6 _ _ _ hra
    have zf6 : w4.frozen? ⟨r, 6, none⟩ = false := frozen_of_row w4 r 6 _ _ hra
    have zz7 : w4.cell? ⟨r, 7, none⟩ = some (.slice none 0 0) := cell_of_row w4 r 7 _ _ _ hra
    have zf7 : w4.frozen? ⟨r, 7, none⟩ = false := frozen_of_row w4 r 7 _ _ hra
    have zz8 : w4.cell? ⟨r, 8, none⟩ = some (.int .i64 0) := cell_of_row w4 r 8 _ _ _ hra
    have zf8 : w4.frozen? ⟨r, 8, none⟩ = false := frozen_of_row w4 r 8 _ _ hra
    have zz9 : w4.cell? ⟨r, 9, none⟩ = some (.int .i64 0) := cell_of_row w4 r 9 _ _ _ hra
    have zf9 : w4.frozen? ⟨r, 9, none⟩ = false := frozen_of_row w4 r 9 _ _ hra
    have yy0 : w4.cell? ⟨r + 1, 0, none⟩ = some (.int .i64 0) := cell_of_row w4 (r + 1) 0 _ _ _ hrb
    have yf0 : w4.frozen? ⟨r + 1, 0, none⟩ = false := frozen_of_row w4 (r + 1) 0 _ _ hrb
    have yy1 : w4.cell? ⟨r + 1, 1, none⟩ = some (.int .i64 0) := cell_of_row w4 (r + 1) 1 _ _ _ hrb
    have yf1 : w4.frozen? ⟨r + 1, 1, none⟩ = false := frozen_of_row w4 (r + 1) 1 _ _ hrb
    have yy2 : w4.cell? ⟨r + 1, 2, none⟩ = some (.int .i64 0) := cell_of_row w4 (r + 1) 2 _ _ _ hrb
    have yf2 : w4.frozen? ⟨r + 1, 2, none⟩ = false := frozen_of_row w4 (r + 1) 2 _ _ hrb
    clear hra hrb hfb4 hI4 t4 hT4
    go_wp2_with fail
    refine bodyPost_ret (v := .tuple #[.agg #[.slice P0 xcs.length q0, .string mr, .string mn, .bool mst, .bool mb, .slice P1 mps.length q1, .slice P2 mls.length q2, .slice P3 mbd.length p3, .int .i64 mln, .int .i64 mcl], .agg #[.int .i64 0, .int .i64 0, .int .i64 0]]) (by simp [results, Tryz.results22, go_sem, zz0, zz1, zz2, zz3, zz4, zz5, zz6, zz7, zz8, zz9, yy0, yy1, yy2]) rfl ?_
    have key : ∀ W', Turn [r, r + 1] w4 W' → Turn [b] w W' ∧ ResIs RdG #[.slice none 0 0, .string ⟨#[]⟩, .string ⟨#[]⟩, .bool false, .bool false, .slice none 0 0, .slice none 0 0, .slice none 0 0, .int .i64 0, .int .i64 0] ⟨lf, 0, fl, fc, ff, fd⟩ (fun g => w.heap.size ≤ g) W' ⟨xcs, ⟨mr, mn, mst, mb, mps, mls, mbd, mln, mcl⟩⟩ (Ending.returned (.tuple #[.agg #[.slice P0 xcs.length q0, .string mr, .string mn, .bool mst, .bool mb, .slice P1 mps.length q1, .slice P2 mls.length q2, .slice P3 mbd.length p3, .int .i64 mln, .int .i64 mcl], .agg #[.int .i64 0, .int .i64 0, .int .i64 0]])) := fun W' tE =>
      ⟨((HT1.out.more (by simp)).trans HT4.out (fun g hg => .inl hg)).trans tE (fun g hg => by simp at hg; omega), Or.inr ⟨rfl, [.slice P0 xcs.length q0, .string mr, .string mn, .bool mst, .bool mb, .slice P1 mps.length q1, .slice P2 mls.length q2, .slice P3 mbd.length p3, .int .i64 mln, .int .i64 mcl], rfl, (HRD4.out.turn tE (by simp; omega)).mono (fun g hg _ => by omega)⟩⟩
    refine key _ ?_
    exact ((((((((((((((Turn.refl [r, r + 1] w4).setCell (.inl (by simp)) _).setCell (.inl (by simp)) _).setCell (.inl (by simp)) _).setCell (.inl (by simp)) _).setCell (.inl (by simp)) _).setCell (.inl (by simp)) _).setCell (.inl (by simp)) _).setCell (.inl (by simp)) _).setCell (.inl (by simp)) _).setCell (.inl (by simp)) _).setCell (.inl (by simp)) _).setCell (.inl (by simp)) _).setCell (.inl (by simp)) _)
  · have z1 : decide ((fe : Int) = 0) = false := by simp; omega
    have z2 : ((fe : Int) == 0) = false := by simp; omega
    have z3 : ¬ (fe : Int) = 0 := by omega
    have z4 : (fe : Int) ≠ 0 := by omega
    obtain ⟨W5, hW5⟩ : ∃ W, w4.alloc (.cells #[.slice none 0 0, .string ⟨#[]⟩, .string ⟨#[]⟩, .bool false, .bool false, .slice none 0 0, .slice none 0 0, .slice none 0 0, .int .i64 0, .int .i64 0] 31) = W := ⟨_, rfl⟩
    obtain ⟨nb, hnb⟩ : ∃ q, w4.heap.size = q := ⟨_, rfl⟩
    have tW5 : Turn [] w4 W5 := by rw [← hW5]; exact (Turn.refl [] w4).alloc _
    have hno : W5.heap[nb]? = some (.cells #[.slice none 0 0, .string ⟨#[]⟩, .string ⟨#[]⟩, .bool false, .bool false, .slice none 0 0, .slice none 0 0, .slice none 0 0, .int .i64 0, .int .i64 0] 31 (0, 0)) := by rw [← hW5, ← hnb]; exact heap_alloc_new w4 _
    have hra5 := tW5.heap hra (by simp)
    have hrb5 := tW5.heap hrb (by simp)
    have hbk5 := tW5.heap hI4.blk (by simp)
    have u3 : W5.cell? ⟨b, 3, none⟩ = some (.int .i64 (fe : Int)) := cell_of_row W5 b 3 _ _ _ hbk5
    have u4 : W5.cell? ⟨b, 4, none⟩ = some (.int .i64 (fl : Int)) := cell_of_row W5 b 4 _ _ _ hbk5
    have u5 : W5.cell? ⟨b, 5, none⟩ = some (.int .i64 (fc : Int)) := cell_of_row W5 b 5 _ _ _ hbk5
    have m0 : W5.cell? ⟨nb, 0, none⟩ = some (.slice none 0 0) := cell_of_row W5 nb 0 _ _ _ hno
    have m1 : W5.cell? ⟨nb, 1, none⟩ = some (.string ⟨#[]⟩) := cell_of_row W5 nb 1 _ _ _ hno
    have m2 : W5.cell? ⟨nb, 2, none⟩ = some (.string ⟨#[]⟩) := cell_of_row W5 nb 2 _ _ _ hno
    have m3 : W5.cell? ⟨nb, 3, none⟩ = some (.bool false) := cell_of_row W5 nb 3 _ _ _ hno
    have m4 : W5.cell? ⟨nb, 4, none⟩ = some (.bool false) := cell_of_row W5 nb 4 _ _ _ hno
    have m5 : W5.cell? ⟨nb, 5, none⟩ = some (.slice none 0 0) := cell_of_row W5 nb 5 _ _ _ hno
    have m6 : W5.cell? ⟨nb, 6, none⟩ = some (.slice none 0 0) := cell_of_row W5 nb 6 _ _ _ hno
    have m7 : W5.cell? ⟨nb, 7, none⟩ = some (.slice none 0 0) := cell_of_row W5 nb 7 _ _ _ hno
    have m8 : W5.cell? ⟨nb, 8, none⟩ = some (.int .i64 0) := cell_of_row W5 nb 8 _ _ _ hno
    have m9 : W5.cell? ⟨nb, 9, none⟩ = some (.int .i64 0) := cell_of_row W5 nb 9 _ _ _ hno
    have zz0 : W5.cell? ⟨r, 0, none⟩ = some (.slice none 0 0) := cell_of_row W5 r 0 _ _ _ hra5
    have zf0 : W5.frozen? ⟨r, 0, none⟩ = false := frozen_of_row W5 r 0 _ _ hra5
    have zz1 : W5.cell? ⟨r, 1, none⟩ = some (.string ⟨#[]⟩) := cell_of_row W5 r 1 _ _ _ hra5
    have zf1 : W5.frozen? ⟨r, 1, none⟩ = false := frozen_of_row W5 r 1 _ _ hra5
    have zz2 : W5.cell? ⟨r, 2, none⟩ = some (.string ⟨#[]⟩) := cell_of_row W5 r 2 _ _ _ hra5
    have zf2 : W5.frozen? ⟨r, 2, none⟩ = false := frozen_of_row W5 r 2 _ _ hra5
    have zz3 : W5.cell? ⟨r, 3, none⟩ = some (.bool false) := cell_of_row W5 r 3 _ _ _ hra5
    have zf3 : W5.frozen? ⟨r, 3, none⟩ = false := frozen_of_row W5 r 3 _ _ hra5
    have zz4 : W5.cell? ⟨r, 4, none⟩ = some (.bool false) := cell_of_row W5 r 4 _ _ _ hra5
    have zf4 : W5.frozen? ⟨r, 4, none⟩ = false := frozen_of_row W5 r 4 _ _ hra5
    have zz5 : W5.cell? ⟨r, 5, none⟩ = some (.slice none 0 0) := cell_of_row W5 r 5 _ _ _ hra5
    have zf5 : W5.frozen? ⟨r, 5, none⟩ = false := frozen_of_row W5 r 5 _ _ hra5
    have zz6 : W5.cell? ⟨r, 6, none⟩ = some (.slice none 0 0) := cell_of_row W5 r 6 _ _ _ hra5
    have zf6 : W5.frozen? ⟨r, 6, none⟩ = false := frozen_of_row W5 r 6 _ _ hra5
    have zz7 : W5.cell? ⟨r, 7, none⟩ = some (.slice none 0 0) := cell_of_row W5 r 7 _ _ _ hra5
    have zf7 : W5.frozen? ⟨r, 7, none⟩ = false := frozen_of_row W5 r 7 _ _ hra5
    have zz8 : W5.cell? ⟨r, 8, none⟩ = some (.int .i64 0) := cell_of_row W5 r 8 _ _ _ hra5
    have zf8 : W5.frozen? ⟨r, 8, none⟩ = false := frozen_of_row W5 r 8 _ _ hra5
    have zz9 : W5.cell? ⟨r, 9, none⟩ = some (.int .i64 0) := cell_of_row W5 r 9 _ _ _ hra5
    have zf9 : W5.frozen? ⟨r, 9, none⟩ = false := frozen_of_row W5 r 9 _ _ hra5
    have yy0 : W5.cell? ⟨r + 1, 0, none⟩ = some (.int .i64 0) := cell_of_row W5 (r + 1) 0 _ _ _ hrb5
    have yf0 : W5.frozen? ⟨r + 1, 0, none⟩ = false := frozen_of_row W5 (r + 1) 0 _ _ hrb5
    have yy1 : W5.cell? ⟨r + 1, 1, none⟩ = some (.int .i64 0) := cell_of_row W5 (r + 1) 1 _ _ _ hrb5
    have yf1 : W5.frozen? ⟨r + 1, 1, none⟩ = false := frozen_of_row W5 (r + 1) 1 _ _ hrb5
    have yy2 : W5.cell? ⟨r + 1, 2, none⟩ = some (.int .i64 0) := cell_of_row W5 (r + 1) 2 _ _ _ hrb5
    have yf2 : W5.frozen? ⟨r + 1, 2, none⟩ = false := frozen_of_row W5 (r + 1) 2 _ _ hrb5
    have HT5 := Lib.hid (HT4.out.trans' tW5)
    have HW5 := Lib.hid hW5
    have HNB := Lib.hid hnb
    have hne1 : ¬ r = nb := by omega
    have hne2 : ¬ r + 1 = nb := by omega
    have hne3 : ¬ r = b := by omega
    have hne4 : ¬ r + 1 = b := by omega
    have HZ := Lib.hid he
    clear hra hrb hfb4 hI4 t4 hT4 hra5 hrb5 hbk5 hno tW5 hW5 hnb he
    go_upto_region 5 with (fail)
    rw [HW5.out, HNB.out]
    refine wp_region_held_drew (S := fun w' => True) (by kernel_rfl) ?_ (fun hHeld => ?_)
    · trivial
    refine wpAnyH_take (i := 1) (oi := { dst := some 19, op := Op.move (Operand.tmp 0), type := 57, pos := _, after := #[{ on := 5, ground := Ground.gcOnly Departure.lateStores }], guard := none }) (v := ?_) rfl (by kernel_rfl) (by kernel_rfl) (by kernel_rfl) (fun _ _ _ h => h) (Or.inl ⟨by rfl, ?_⟩) (by assumption) ?_
    rotate_left
    · intro w hSw; (try dsimp only at hSw); go_simp; (try with_reducible rfl)
    try simp only [Act.put, List.setIfInBounds_toArray, List.set_cons_zero, List.set_cons_succ]
    refine wpAnyH_take (i := 2) (oi := { dst := some 20, op := Op.nilCheck (Operand.tmp 19), type := 0, pos := _, after := #[{ on := 1, ground := Ground.data }, { on := 5, ground := Ground.gcOnly Departure.lateStores }], guard := none }) (v := ?_) rfl (by kernel_rfl) (by kernel_rfl) (by kernel_rfl) (fun _ _ _ h => h) (Or.inl ⟨by rfl, ?_⟩) (by assumption) ?_
    rotate_left
    · intro w hSw; (try dsimp only at hSw); go_simp; (try with_reducible rfl)
    try simp only [Act.put, List.setIfInBounds_toArray, List.set_cons_zero, List.set_cons_succ]
    refine wpAnyH_take (i := 3) (oi := { dst := some 21, op := Op.fieldAddr 95 (Operand.tmp 20) 2, type := 0, pos := _, after := #[{ on := 2, ground := Ground.data }, { on := 5, ground := Ground.gcOnly Departure.lateStores }], guard := none }) (v := ?_) rfl (by kernel_rfl) (by kernel_rfl) (by kernel_rfl) (fun _ _ _ h => h) (Or.inl ⟨by rfl, ?_⟩) (by assumption) ?_
    rotate_left
    · intro w hSw; (try dsimp only at hSw); go_simp; (try with_reducible rfl)
    try simp only [Act.put, List.setIfInBounds_toArray, List.set_cons_zero, List.set_cons_succ]
    refine wpAnyH_ready (rs := [0, 4]) (by kernel_rfl) (by simp) ?_
    refine AllReadyH.cons (o := { dst := some 18, op := Op.load 31 (Operand.tmp 7), type := 31, pos := _, after := #[], guard := none }) rfl (fun K hK => ?_) (AllReadyH.cons (o := { dst := some 22, op := Op.load 34 (Operand.tmp 21), type := 34, pos := _, after := #[{ on := 3, ground := Ground.data }, { on := 5, ground := Ground.gcOnly Departure.lateStores }], guard := none }) rfl (fun K hK => ?_) AllReadyH.nil)
    · go_simp
      refine hK.out _ _ ?_ (fun hHeld => ?_)
      · trivial
      clear hK K
      try simp only [Act.put, List.setIfInBounds_toArray, List.set_cons_zero, List.set_cons_succ]
      refine wpAnyH_ready (rs := [4, 5]) (by kernel_rfl) (by simp) ?_
      refine AllReadyH.cons (o := { dst := some 22, op := Op.load 34 (Operand.tmp 21), type := 34, pos := _, after := #[{ on := 3, ground := Ground.data }, { on := 5, ground := Ground.gcOnly Departure.lateStores }], guard := none }) rfl (fun K hK => ?_) (AllReadyH.cons (o := { dst := none, op := Op.store 31 (Operand.tmp 4) (Operand.tmp 18), type := 0, pos := _, after := #[{ on := 0, ground := Ground.data }, { on := 0, ground := Ground.phase }, { on := 1, ground := Ground.textOnly Departure.lateStores }, { on := 2, ground := Ground.textOnly Departure.lateStores }, { on := 3, ground := Ground.textOnly Departure.lateStores }, { on := 4, ground := Ground.textOnly Departure.lateStores }], guard := none }) rfl (fun K hK => ?_) AllReadyH.nil)
      · go_simp
        refine hK.out _ _ ?_ (fun hHeld => ?_)
        · trivial
        clear hK K
        try simp only [Act.put, List.setIfInBounds_toArray, List.set_cons_zero, List.set_cons_succ]
        refine wpAnyH_ready (rs := [5]) (by kernel_rfl) (by simp) ?_
        refine AllReadyH.cons (o := { dst := none, op := Op.store 31 (Operand.tmp 4) (Operand.tmp 18), type := 0, pos := _, after := #[{ on := 0, ground := Ground.data }, { on := 0, ground := Ground.phase }, { on := 1, ground := Ground.textOnly Departure.lateStores }, { on := 2, ground := Ground.textOnly Departure.lateStores }, { on := 3, ground := Ground.textOnly Departure.lateStores }, { on := 4, ground := Ground.textOnly Departure.lateStores }], guard := none }) rfl (fun K hK => ?_) AllReadyH.nil
        go_simp
        refine hK.out _ _ ?_ (fun hHeld => ?_)
        · trivial
        clear hK K
        try simp only [Act.put, List.setIfInBounds_toArray, List.set_cons_zero, List.set_cons_succ]
        refine wpAnyH_ready (rs := [6]) (by kernel_rfl) (by simp) ?_
        refine AllReadyH.cons (o := { dst := none, op := Op.store 34 (Operand.tmp 5) (Operand.tmp 22), type := 0, pos := _, after := #[{ on := 4, ground := Ground.data }, { on := 5, ground := Ground.chain }, { on := 0, ground := Ground.phase }, { on := 1, ground := Ground.phase }, { on := 2, ground := Ground.phase }, { on := 3, ground := Ground.phase }, { on := 4, ground := Ground.phase }, { on := 5, ground := Ground.phase }], guard := none }) rfl (fun K hK => ?_) AllReadyH.nil
        go_simp
        refine hK.out _ _ ?_ (fun hHeld => ?_)
        · trivial
        clear hK K
        try simp only [Act.put, List.setIfInBounds_toArray, List.set_cons_zero, List.set_cons_succ]
        refine wpAnyH_done (by kernel_rfl) ?_ _
        go_wp2_with fail
        refine bodyPost_ret (v := .tuple #[.agg #[.slice none 0 0, .string ⟨#[]⟩, .string ⟨#[]⟩, .bool false, .bool false, .slice none 0 0, .slice none 0 0, .slice none 0 0, .int .i64 0, .int .i64 0], .agg #[.int .i64 (fe : Int), .int .i64 (fl : Int), .int .i64 (fc : Int)]]) (by simp [results, Tryz.results22, go_sem, zz0, zz1, zz2, zz3, zz4, zz5, zz6, zz7, zz8, zz9, yy0, yy1, yy2]) rfl ?_
        have key : ∀ W', Turn [r, r + 1] W5 W' → Turn [b] w W' ∧ ResIs RdG #[.slice none 0 0, .string ⟨#[]⟩, .string ⟨#[]⟩, .bool false, .bool false, .slice none 0 0, .slice none 0 0, .slice none 0 0, .int .i64 0, .int .i64 0] ⟨lf, fe, fl, fc, ff, fd⟩ (fun g => w.heap.size ≤ g) W' ⟨xcs, ⟨mr, mn, mst, mb, mps, mls, mbd, mln, mcl⟩⟩ (Ending.returned (.tuple #[.agg #[.slice none 0 0, .string ⟨#[]⟩, .string ⟨#[]⟩, .bool false, .bool false, .slice none 0 0, .slice none 0 0, .slice none 0 0, .int .i64 0, .int .i64 0], .agg #[.int .i64 (fe : Int), .int .i64 (fl : Int), .int .i64 (fc : Int)]])) := fun W' tE =>
          ⟨((HT1.out.more (by simp)).trans HT5.out (fun g hg => .inl hg)).trans tE (fun g hg => by simp at hg; omega), Or.inl ⟨HZ.out, rfl⟩⟩
        refine key _ ?_
        exact ((((((((((((((Turn.refl [r, r + 1] W5).setCell (.inl (by simp)) _).setCell (.inl (by simp)) _).setCell (.inl (by simp)) _).setCell (.inl (by simp)) _).setCell (.inl (by simp)) _).setCell (.inl (by simp)) _).setCell (.inl (by simp)) _).setCell (.inl (by simp)) _).setCell (.inl (by simp)) _).setCell (.inl (by simp)) _).setCell (.inl (by simp)) _).setCell (.inl (by simp)) _).setCell (.inl (by simp)) _).drew
      · go_simp
        refine hK.out _ _ ?_ (fun hHeld => ?_)
        · trivial
        clear hK K
        try simp only [Act.put, List.setIfInBounds_toArray, List.set_cons_zero, List.set_cons_succ]
        refine wpAnyH_ready (rs := [4]) (by kernel_rfl) (by simp) ?_
        refine AllReadyH.cons (o := { dst := some 22, op := Op.load 34 (Operand.tmp 21), type := 34, pos := _, after := #[{ on := 3, ground := Ground.data }, { on := 5, ground := Ground.gcOnly Departure.lateStores }], guard := none }) rfl (fun K hK => ?_) AllReadyH.nil
        go_simp
        refine hK.out _ _ ?_ (fun hHeld => ?_)
        · trivial
        clear hK K
        try simp only [Act.put, List.setIfInBounds_toArray, List.set_cons_zero, List.set_cons_succ]
        refine wpAnyH_ready (rs := [6]) (by kernel_rfl) (by simp) ?_
        refine AllReadyH.cons (o := { dst := none, op := Op.store 34 (Operand.tmp 5) (Operand.tmp 22), type := 0, pos := _, after := #[{ on := 4, ground := Ground.data }, { on := 5, ground := Ground.chain }, { on := 0, ground := Ground.phase }, { on := 1, ground := Ground.phase }, { on := 2, ground := Ground.phase }, { on := 3, ground := Ground.phase }, { on := 4, ground := Ground.phase }, { on := 5, ground := Ground.phase }], guard := none }) rfl (fun K hK => ?_) AllReadyH.nil
        go_simp
        refine hK.out _ _ ?_ (fun hHeld => ?_)
        · trivial
        clear hK K
        try simp only [Act.put, List.setIfInBounds_toArray, List.set_cons_zero, List.set_cons_succ]
        refine wpAnyH_done (by kernel_rfl) ?_ _
        go_wp2_with fail
        refine bodyPost_ret (v := .tuple #[.agg #[.slice none 0 0, .string ⟨#[]⟩, .string ⟨#[]⟩, .bool false, .bool false, .slice none 0 0, .slice none 0 0, .slice none 0 0, .int .i64 0, .int .i64 0], .agg #[.int .i64 (fe : Int), .int .i64 (fl : Int), .int .i64 (fc : Int)]]) (by simp [results, Tryz.results22, go_sem, zz0, zz1, zz2, zz3, zz4, zz5, zz6, zz7, zz8, zz9, yy0, yy1, yy2]) rfl ?_
        have key : ∀ W', Turn [r, r + 1] W5 W' → Turn [b] w W' ∧ ResIs RdG #[.slice none 0 0, .string ⟨#[]⟩, .string ⟨#[]⟩, .bool false, .bool false, .slice none 0 0, .slice none 0 0, .slice none 0 0, .int .i64 0, .int .i64 0] ⟨lf, fe, fl, fc, ff, fd⟩ (fun g => w.heap.size ≤ g) W' ⟨xcs, ⟨mr, mn, mst, mb, mps, mls, mbd, mln, mcl⟩⟩ (Ending.returned (.tuple #[.agg #[.slice none 0 0, .string ⟨#[]⟩, .string ⟨#[]⟩, .bool false, .bool false, .slice none 0 0, .slice none 0 0, .slice none 0 0, .int .i64 0, .int .i64 0], .agg #[.int .i64 (fe : Int), .int .i64 (fl : Int), .int .i64 (fc : Int)]])) := fun W' tE =>
          ⟨((HT1.out.more (by simp)).trans HT5.out (fun g hg => .inl hg)).trans tE (fun g hg => by simp at hg; omega), Or.inl ⟨HZ.out, rfl⟩⟩
        refine key _ ?_
        exact ((((((((((((((Turn.refl [r, r + 1] W5).setCell (.inl (by simp)) _).setCell (.inl (by simp)) _).setCell (.inl (by simp)) _).setCell (.inl (by simp)) _).setCell (.inl (by simp)) _).setCell (.inl (by simp)) _).setCell (.inl (by simp)) _).setCell (.inl (by simp)) _).setCell (.inl (by simp)) _).setCell (.inl (by simp)) _).setCell (.inl (by simp)) _).setCell (.inl (by simp)) _).setCell (.inl (by simp)) _).drew
    · go_simp
      refine hK.out _ _ ?_ (fun hHeld => ?_)
      · trivial
      clear hK K
      try simp only [Act.put, List.setIfInBounds_toArray, List.set_cons_zero, List.set_cons_succ]
      refine wpAnyH_ready (rs := [0]) (by kernel_rfl) (by simp) ?_
      refine AllReadyH.cons (o := { dst := some 18, op := Op.load 31 (Operand.tmp 7), type := 31, pos := _, after := #[], guard := none }) rfl (fun K hK => ?_) AllReadyH.nil
      go_simp
      refine hK.out _ _ ?_ (fun hHeld => ?_)
      · trivial
      clear hK K
      try simp only [Act.put, List.setIfInBounds_toArray, List.set_cons_zero, List.set_cons_succ]
      refine wpAnyH_ready (rs := [5]) (by kernel_rfl) (by simp) ?_
      refine AllReadyH.cons (o := { dst := none, op := Op.store 31 (Operand.tmp 4) (Operand.tmp 18), type := 0, pos := _, after := #[{ on := 0, ground := Ground.data }, { on := 0, ground := Ground.phase }, { on := 1, ground := Ground.textOnly Departure.lateStores }, { on := 2, ground := Ground.textOnly Departure.lateStores }, { on := 3, ground := Ground.textOnly Departure.lateStores }, { on := 4, ground := Ground.textOnly Departure.lateStores }], guard := none }) rfl (fun K hK => ?_) AllReadyH.nil
      go_simp
      refine hK.out _ _ ?_ (fun hHeld => ?_)
      · trivial
      clear hK K
      try simp only [Act.put, List.setIfInBounds_toArray, List.set_cons_zero, List.set_cons_succ]
      refine wpAnyH_ready (rs := [6]) (by kernel_rfl) (by simp) ?_
      refine AllReadyH.cons (o := { dst := none, op := Op.store 34 (Operand.tmp 5) (Operand.tmp 22), type := 0, pos := _, after := #[{ on := 4, ground := Ground.data }, { on := 5, ground := Ground.chain }, { on := 0, ground := Ground.phase }, { on := 1, ground := Ground.phase }, { on := 2, ground := Ground.phase }, { on := 3, ground := Ground.phase }, { on := 4, ground := Ground.phase }, { on := 5, ground := Ground.phase }], guard := none }) rfl (fun K hK => ?_) AllReadyH.nil
      go_simp
      refine hK.out _ _ ?_ (fun hHeld => ?_)
      · trivial
      clear hK K
      try simp only [Act.put, List.setIfInBounds_toArray, List.set_cons_zero, List.set_cons_succ]
      refine wpAnyH_done (by kernel_rfl) ?_ _
      go_wp2_with fail
      refine bodyPost_ret (v := .tuple #[.agg #[.slice none 0 0, .string ⟨#[]⟩, .string ⟨#[]⟩, .bool false, .bool false, .slice none 0 0, .slice none 0 0, .slice none 0 0, .int .i64 0, .int .i64 0], .agg #[.int .i64 (fe : Int), .int .i64 (fl : Int), .int .i64 (fc : Int)]]) (by simp [results, Tryz.results22, go_sem, zz0, zz1, zz2, zz3, zz4, zz5, zz6, zz7, zz8, zz9, yy0, yy1, yy2]) rfl ?_
      have key : ∀ W', Turn [r, r + 1] W5 W' → Turn [b] w W' ∧ ResIs RdG #[.slice none 0 0, .string ⟨#[]⟩, .string ⟨#[]⟩, .bool false, .bool false, .slice none 0 0, .slice none 0 0, .slice none 0 0, .int .i64 0, .int .i64 0] ⟨lf, fe, fl, fc, ff, fd⟩ (fun g => w.heap.size ≤ g) W' ⟨xcs, ⟨mr, mn, mst, mb, mps, mls, mbd, mln, mcl⟩⟩ (Ending.returned (.tuple #[.agg #[.slice none 0 0, .string ⟨#[]⟩, .string ⟨#[]⟩, .bool false, .bool false, .slice none 0 0, .slice none 0 0, .slice none 0 0, .int .i64 0, .int .i64 0], .agg #[.int .i64 (fe : Int), .int .i64 (fl : Int), .int .i64 (fc : Int)]])) := fun W' tE =>
        ⟨((HT1.out.more (by simp)).trans HT5.out (fun g hg => .inl hg)).trans tE (fun g hg => by simp at hg; omega), Or.inl ⟨HZ.out, rfl⟩⟩
      refine key _ ?_
      exact ((((((((((((((Turn.refl [r, r + 1] W5).setCell (.inl (by simp)) _).setCell (.inl (by simp)) _).setCell (.inl (by simp)) _).setCell (.inl (by simp)) _).setCell (.inl (by simp)) _).setCell (.inl (by simp)) _).setCell (.inl (by simp)) _).setCell (.inl (by simp)) _).setCell (.inl (by simp)) _).setCell (.inl (by simp)) _).setCell (.inl (by simp)) _).setCell (.inl (by simp)) _).setCell (.inl (by simp)) _).drew
end Go.Proofs.YtnmhcgkccchacaaGreatDoor

/- Parse. Printed by mkpar.py. -/
set_option linter.unusedSimpArgs false
set_option linter.unusedVariables false
set_option maxRecDepth 100000
namespace Go.Proofs.YtnmhcgkccchacaaGreatDoor
open Go.RowKit

set_option maxHeartbeats 12800000 in
theorem Parse_any (s : ByteArray) (w : World) (hS : Sg w) (hK : Kw w) (h8 : 7 < w.heap.size) :
    Calls Tryz.prog 10 #[.string s] w fun e w' => Turn [] w w' ∧
      ResIs RdG #[.slice none 0 0, .string ⟨#[]⟩, .string ⟨#[]⟩, .bool false, .bool false, .slice none 0 0, .slice none 0 0, .slice none 0 0, .int .i64 0, .int .i64 0] (finish (rs0 (tokR s.data.toList)).1 (program (rs0 (tokR s.data.toList)).1 (rs0 (tokR s.data.toList)).2).2) (fun g => w.heap.size ≤ g) w' (program (rs0 (tokR s.data.toList)).1 (rs0 (tokR s.data.toList)).2).1 e := by
  have hmf := mf
  obtain ⟨W1, hW1⟩ : ∃ W, (w.alloc (.cells #[.slice none 0 0, .string ⟨#[]⟩, .string ⟨#[]⟩, .bool false, .bool false, .slice none 0 0, .slice none 0 0, .slice none 0 0, .int .i64 0, .int .i64 0] 31)).alloc (.cells #[.int .i64 0, .int .i64 0, .int .i64 0] 34) = W := ⟨_, rfl⟩
  obtain ⟨r, hr⟩ : ∃ r, w.heap.size = r := ⟨_, rfl⟩
  have tW1 : Turn [] w W1 := by rw [← hW1]; exact ((Turn.refl [] w).alloc _).alloc _
  have aW1 : W1.heap[r]? = some (.cells #[.slice none 0 0, .string ⟨#[]⟩, .string ⟨#[]⟩, .bool false, .bool false, .slice none 0 0, .slice none 0 0, .slice none 0 0, .int .i64 0, .int .i64 0] 31 (0, 0)) := by rw [← hW1, ← hr]; exact ((Turn.refl [] _).alloc _).heap (heap_alloc_new w _) (by simp)
  have bW1 : W1.heap[r + 1]? = some (.cells #[.int .i64 0, .int .i64 0, .int .i64 0] 34 (0, 0)) := by
    rw [← hW1, ← hr]
    have := heap_alloc_new (w.alloc (.cells #[.slice none 0 0, .string ⟨#[]⟩, .string ⟨#[]⟩, .bool false, .bool false, .slice none 0 0, .slice none 0 0, .slice none 0 0, .int .i64 0, .int .i64 0] 31)) (.cells #[.int .i64 0, .int .i64 0, .int .i64 0] 34)
    rwa [World.size_alloc] at this
  have sW1 : W1.heap.size = r + 2 := by rw [← hW1, ← hr]; simp
  have HOP := Lib.hid (open_any s W1 (hS.turn tW1 (by simp)) (hK.turn tW1 (by simp)) (by omega))
  have hd0 : (rs0 (tokR s.data.toList)).2.deep = 0 := by cases tokR s.data.toList <;> rfl
  obtain ⟨en, hen⟩ : ∃ q, (rs0 (tokR s.data.toList)).1 = q := ⟨_, rfl⟩
  obtain ⟨s0, hs0⟩ : ∃ q, (rs0 (tokR s.data.toList)).2 = q := ⟨_, rfl⟩
  rw [hen, hs0]
  rw [hen, hs0] at HOP
  rw [hs0] at hd0
  have HD0 := Lib.hid hd0
  have HW1 := Lib.hid hW1
  have HT1 := Lib.hid tW1
  have HA := Lib.hid aW1
  have HBB := Lib.hid bW1
  clear hW1 tW1 aW1 bW1 hS hK hen hs0 hd0
  go_enter Tryz.func10, Tryz.ntmps10
  go_upto_region 1 with (fail)
  rw [HW1.out]
  go_wp2_with fail
  refine HOP.out.mono ?_
  rintro e2 w2 ⟨b, rfl, hb2, h2, t2⟩
  have HWH := Lib.hid (wholeP_any en b s0 w2 h2 HD0.out)
  have HT2 := Lib.hid t2
  clear h2 t2 HOP
  obtain ⟨x, hx⟩ : ∃ q, (program en s0).1 = q := ⟨_, rfl⟩
  obtain ⟨f, hf⟩ : ∃ q, finish en (program en s0).2 = q := ⟨_, rfl⟩
  rw [hx, hf] at HWH
  have HX := Lib.hid (And.intro hx hf)
  clear hx hf
  go_wp2_with fail
  refine HWH.out.mono ?_
  rintro e3 w3 ⟨t3, hres⟩
  have hT3 : Turn [b] W1 w3 := (HT2.out.more (by simp)).trans t3 (fun g hg => .inl hg)
  have hra := hT3.heap HA.out (by simp; omega)
  have hrb := hT3.heap HBB.out (by simp; omega)
  have zz0 : w3.cell? ⟨r, 0, none⟩ = some (.slice none 0 0) := cell_of_row w3 r 0 _ _ _ hra
  have zf0 : w3.frozen? ⟨r, 0, none⟩ = false := frozen_of_row w3 r 0 _ _ hra
  have zz1 : w3.cell? ⟨r, 1, none⟩ = some (.string ⟨#[]⟩) := cell_of_row w3 r 1 _ _ _ hra
  have zf1 : w3.frozen? ⟨r, 1, none⟩ = false := frozen_of_row w3 r 1 _ _ hra
  have zz2 : w3.cell? ⟨r, 2, none⟩ = some (.string ⟨#[]⟩) := cell_of_row w3 r 2 _ _ _ hra
  have zf2 : w3.frozen? ⟨r, 2, none⟩ = false := frozen_of_row w3 r 2 _ _ hra
  have zz3 : w3.cell? ⟨r, 3, none⟩ = some (.bool false) := cell_of_row w3 r 3 _ _ _ hra
  have zf3 : w3.frozen? ⟨r, 3, none⟩ = false := frozen_of_row w3 r 3 _ _ hra
  have zz4 : w3.cell? ⟨r, 4, none⟩ = some (.bool false) := cell_of_row w3 r 4 _ _ _ hra
  have zf4 : w3.frozen? ⟨r, 4, none⟩ = false := frozen_of_row w3 r 4 _ _ hra
  have zz5 : w3.cell? ⟨r, 5, none⟩ = some (.slice none 0 0) := cell_of_row w3 r 5 _ _ _ hra
  have zf5 : w3.frozen? ⟨r, 5, none⟩ = false := frozen_of_row w3 r 5 _ _ hra
  have zz6 : w3.cell? ⟨r, 6, none⟩ = some (.slice none 0 0) := cell_of_row w3 r 6 _ _ _ hra
  have zf6 : w3.frozen? ⟨r, 6, none⟩ = false := frozen_of_row w3 r 6 _ _ hra
  have zz7 : w3.cell? ⟨r, 7, none⟩ = some (.slice none 0 0) := cell_of_row w3 r 7 _ _ _ hra
  have zf7 : w3.frozen? ⟨r, 7, none⟩ = false := frozen_of_row w3 r 7 _ _ hra
  have zz8 : w3.cell? ⟨r, 8, none⟩ = some (.int .i64 0) := cell_of_row w3 r 8 _ _ _ hra
  have zf8 : w3.frozen? ⟨r, 8, none⟩ = false := frozen_of_row w3 r 8 _ _ hra
  have zz9 : w3.cell? ⟨r, 9, none⟩ = some (.int .i64 0) := cell_of_row w3 r 9 _ _ _ hra
  have zf9 : w3.frozen? ⟨r, 9, none⟩ = false := frozen_of_row w3 r 9 _ _ hra
  have yy0 : w3.cell? ⟨r + 1, 0, none⟩ = some (.int .i64 0) := cell_of_row w3 (r + 1) 0 _ _ _ hrb
  have yf0 : w3.frozen? ⟨r + 1, 0, none⟩ = false := frozen_of_row w3 (r + 1) 0 _ _ hrb
  have yy1 : w3.cell? ⟨r + 1, 1, none⟩ = some (.int .i64 0) := cell_of_row w3 (r + 1) 1 _ _ _ hrb
  have yf1 : w3.frozen? ⟨r + 1, 1, none⟩ = false := frozen_of_row w3 (r + 1) 1 _ _ hrb
  have yy2 : w3.cell? ⟨r + 1, 2, none⟩ = some (.int .i64 0) := cell_of_row w3 (r + 1) 2 _ _ _ hrb
  have yf2 : w3.frozen? ⟨r + 1, 2, none⟩ = false := frozen_of_row w3 (r + 1) 2 _ _ hrb
  have HT3 := Lib.hid hT3
  have hsz2 := HT2.out.size
  clear hra hrb t3 hT3 HWH
  obtain ⟨lf, fe, fl, fc, ff, fd⟩ := f
  rcases hres with ⟨hne, rfl⟩ | ⟨he0, cs, rfl, hr3⟩
  · have HNE := Lib.hid hne
    clear hne
    go_wp2_with fail
    refine bodyPost_ret (v := .tuple #[.agg #[.slice none 0 0, .string ⟨#[]⟩, .string ⟨#[]⟩, .bool false, .bool false, .slice none 0 0, .slice none 0 0, .slice none 0 0, .int .i64 0, .int .i64 0], .agg #[.int .i64 (fe : Int), .int .i64 (fl : Int), .int .i64 (fc : Int)]]) (by simp [results, Tryz.results10, go_sem, zz0, zz1, zz2, zz3, zz4, zz5, zz6, zz7, zz8, zz9, yy0, yy1, yy2]) rfl ?_
    rw [HX.out.1, HX.out.2]
    have key : ∀ W', Turn [r, r + 1] w3 W' → Turn [] w W' ∧ ResIs RdG #[.slice none 0 0, .string ⟨#[]⟩, .string ⟨#[]⟩, .bool false, .bool false, .slice none 0 0, .slice none 0 0, .slice none 0 0, .int .i64 0, .int .i64 0] ⟨lf, fe, fl, fc, ff, fd⟩ (fun g => w.heap.size ≤ g) W' x (Ending.returned (.tuple #[.agg #[.slice none 0 0, .string ⟨#[]⟩, .string ⟨#[]⟩, .bool false, .bool false, .slice none 0 0, .slice none 0 0, .slice none 0 0, .int .i64 0, .int .i64 0], .agg #[.int .i64 (fe : Int), .int .i64 (fl : Int), .int .i64 (fc : Int)]])) := fun W' tE =>
      ⟨(HT1.out.trans HT3.out (fun g hg => by simp at hg; exact .inr (by omega))).trans tE (fun g hg => .inr (by simp at hg; omega)), Or.inl ⟨HNE.out, rfl⟩⟩
    refine key _ ?_
    exact ((((((((((((((Turn.refl [r, r + 1] w3).setCell (.inl (by simp)) _).setCell (.inl (by simp)) _).setCell (.inl (by simp)) _).setCell (.inl (by simp)) _).setCell (.inl (by simp)) _).setCell (.inl (by simp)) _).setCell (.inl (by simp)) _).setCell (.inl (by simp)) _).setCell (.inl (by simp)) _).setCell (.inl (by simp)) _).setCell (.inl (by simp)) _).setCell (.inl (by simp)) _).setCell (.inl (by simp)) _)
  · have HE0 := Lib.hid he0
    obtain ⟨xcs, ⟨mr, mn, mst, mb, mps, mls, mbd, mln, mcl⟩⟩ := x
    obtain ⟨V, mc, ecs, k0, Y1, Y2, Y3, emc, k1, k2, k3⟩ := id hr3
    simp only at emc k0
    subst emc
    subst ecs
    obtain ⟨P0, q0, rfl, _, _⟩ := k0
    obtain ⟨P1, q1, rfl, _, _⟩ := k1
    obtain ⟨P2, q2, rfl, _, _⟩ := k2
    obtain ⟨P3, p3, rfl, _, _⟩ := k3
    have HRD := Lib.hid hr3
    clear he0 hr3
    go_wp2_with fail
    refine bodyPost_ret (v := .tuple #[.agg #[.slice P0 xcs.length q0, .string mr, .string mn, .bool mst, .bool mb, .slice P1 mps.length q1, .slice P2 mls.length q2, .slice P3 mbd.length p3, .int .i64 mln, .int .i64 mcl], .agg #[.int .i64 0, .int .i64 0, .int .i64 0]]) (by simp [results, Tryz.results10, go_sem, zz0, zz1, zz2, zz3, zz4, zz5, zz6, zz7, zz8, zz9, yy0, yy1, yy2]) rfl ?_
    rw [HX.out.1, HX.out.2]
    have key : ∀ W', Turn [r, r + 1] w3 W' → Turn [] w W' ∧ ResIs RdG #[.slice none 0 0, .string ⟨#[]⟩, .string ⟨#[]⟩, .bool false, .bool false, .slice none 0 0, .slice none 0 0, .slice none 0 0, .int .i64 0, .int .i64 0] ⟨lf, fe, fl, fc, ff, fd⟩ (fun g => w.heap.size ≤ g) W' ⟨xcs, ⟨mr, mn, mst, mb, mps, mls, mbd, mln, mcl⟩⟩ (Ending.returned (.tuple #[.agg #[.slice P0 xcs.length q0, .string mr, .string mn, .bool mst, .bool mb, .slice P1 mps.length q1, .slice P2 mls.length q2, .slice P3 mbd.length p3, .int .i64 mln, .int .i64 mcl], .agg #[.int .i64 0, .int .i64 0, .int .i64 0]])) := fun W' tE =>
      ⟨(HT1.out.trans HT3.out (fun g hg => by simp at hg; exact .inr (by omega))).trans tE (fun g hg => .inr (by simp at hg; omega)), Or.inr ⟨HE0.out, [.slice P0 xcs.length q0, .string mr, .string mn, .bool mst, .bool mb, .slice P1 mps.length q1, .slice P2 mls.length q2, .slice P3 mbd.length p3, .int .i64 mln, .int .i64 mcl], rfl, (HRD.out.turn tE (by simp; omega)).mono (fun g hg _ => by omega)⟩⟩
    refine key _ ?_
    exact ((((((((((((((Turn.refl [r, r + 1] w3).setCell (.inl (by simp)) _).setCell (.inl (by simp)) _).setCell (.inl (by simp)) _).setCell (.inl (by simp)) _).setCell (.inl (by simp)) _).setCell (.inl (by simp)) _).setCell (.inl (by simp)) _).setCell (.inl (by simp)) _).setCell (.inl (by simp)) _).setCell (.inl (by simp)) _).setCell (.inl (by simp)) _).setCell (.inl (by simp)) _).setCell (.inl (by simp)) _)
end Go.Proofs.YtnmhcgkccchacaaGreatDoor

/- The plain parser at texts that are known: the document's examples, lists as long as may be. -/
set_option linter.unusedSimpArgs false
set_option linter.unusedVariables false
set_option maxRecDepth 100000
namespace Go.Proofs.YtnmhcgkccchacaaGreatDoor
open Go.RowKit

/-- A text's fault, as the plain parser tells it; the main method's name. -/
def pfR (T : List UInt8) : Nat × Nat × Nat × List UInt8 :=
  let a := rs0 (tokR T)
  let r := program a.1 a.2
  let f := finish a.1 r.2
  (f.e, f.fl, f.fc, r.1.main.nm.data.toList)
/-- "main { }" and "main {". -/
theorem pf_awake1 : pfR [109, 97, 105, 110, 32, 123, 32, 125] = (0, 0, 0, [109, 97, 105, 110]) := by decide +kernel
theorem pf_awake2 : (pfR [109, 97, 105, 110, 32, 123]).1 = 10 ∧ (pfR [109, 97, 105, 110, 32, 123]).2.1 = 1 ∧ (pfR [109, 97, 105, 110, 32, 123]).2.2.1 = 7 := by decide +kernel
end Go.Proofs.YtnmhcgkccchacaaGreatDoor

/- awake. -/
set_option linter.unusedSimpArgs false
set_option linter.unusedVariables false
set_option maxRecDepth 100000
namespace Go.Proofs.YtnmhcgkccchacaaGreatDoor
open Go.RowKit

/-- What Parse answers, said of the plain parser's fault. -/
def progZ : Array Value := #[.slice none 0 0, .string ⟨#[]⟩, .string ⟨#[]⟩, .bool false, .bool false, .slice none 0 0, .slice none 0 0, .slice none 0 0, .int .i64 0, .int .i64 0]
def PRes (T : List UInt8) (A : Nat → Prop) (w' : World) (e : Ending) : Prop :=
  ((pfR T).1 ≠ 0 ∧ e = .returned (.tuple #[.agg progZ, .agg #[.int .i64 ((pfR T).1 : Int), .int .i64 ((pfR T).2.1 : Int), .int .i64 ((pfR T).2.2.1 : Int)]])) ∨
  ((pfR T).1 = 0 ∧ ∃ (xcs : List Cf) (mr mn : ByteArray) (mst mb : Bool) (mps mls : List Vf) (mbd : List St) (mln mcl : Int) (P0 P1 P2 P3 : Option Addr) (q0 q1 q2 q3 : Nat), mn.data.toList = (pfR T).2.2.2 ∧
    e = .returned (.tuple #[.agg #[.slice P0 xcs.length q0, .string mr, .string mn, .bool mst, .bool mb, .slice P1 mps.length q1, .slice P2 mls.length q2, .slice P3 mbd.length q3, .int .i64 mln, .int .i64 mcl], .agg #[.int .i64 0, .int .i64 0, .int .i64 0]]))
theorem parse_plain (s : ByteArray) (w : World) (hS : Sg w) (hK : Kw w) (h8 : 7 < w.heap.size) :
    Calls Tryz.prog 10 #[.string s] w fun e w' => Turn [] w w' ∧ PRes s.data.toList (fun g => w.heap.size ≤ g) w' e := by
  refine (Parse_any s w hS hK h8).mono ?_
  rintro e w' ⟨t, h⟩
  refine ⟨t, ?_⟩
  rcases h with ⟨h1, h2⟩ | ⟨h1, cs, h2, h3⟩
  · exact Or.inl ⟨h1, h2⟩
  · refine Or.inr ⟨h1, ?_⟩
    obtain ⟨g, hg⟩ : ∃ q, (program (rs0 (tokR s.data.toList)).1 (rs0 (tokR s.data.toList)).2).1 = q := ⟨_, rfl⟩
    have hn : (pfR s.data.toList).2.2.2 = g.main.nm.data.toList := by rw [← hg]; rfl
    rw [hg] at h3
    obtain ⟨xcs, ⟨mr, mn, mst, mb, mps, mls, mbd, mln, mcl⟩⟩ := g
    obtain ⟨V, mc, ecs, k0, Y1, Y2, Y3, emc, k1, k2, k3⟩ := h3
    simp only at emc k0
    subst emc
    subst ecs
    obtain ⟨P0, q0, rfl, _, _⟩ := k0
    obtain ⟨P1, q1, rfl, _, _⟩ := k1
    obtain ⟨P2, q2, rfl, _, _⟩ := k2
    obtain ⟨P3, q3, rfl, _, _⟩ := k3
    exact ⟨xcs, mr, mn, mst, mb, mps, mls, mbd, mln, mcl, P0, P1, P2, P3, q0, q1, q2, q3, hn.symm, h2⟩

set_option maxHeartbeats 12800000 in
theorem awake_any (w : World) (hS : Sg w) (hK : Kw w) (h8 : 7 < w.heap.size) :
    Calls Tryz.prog 9 #[] w fun e w' => e = .returned (.bool true) ∧ Turn [] w w' := by
  have H1 := Lib.hid (parse_plain ⟨#[109, 97, 105, 110, 32, 123, 32, 125]⟩ w hS hK h8)
  have H2 : Hid (∀ W, Turn [] w W → Calls Tryz.prog 10 #[.string ⟨#[109, 97, 105, 110, 32, 123]⟩] W fun e w' => Turn [] W w' ∧ PRes [109, 97, 105, 110, 32, 123] (fun g => W.heap.size ≤ g) w' e) :=
    Lib.hid fun W t => parse_plain ⟨#[109, 97, 105, 110, 32, 123]⟩ W (hS.turn t (by simp)) (hK.turn t (by simp)) (Nat.lt_of_lt_of_le h8 t.size)
  clear hS hK h8
  go_enter Tryz.func9, Tryz.ntmps9
  go_wp2_with fail
  refine H1.out.mono ?_
  rintro e1 w1 ⟨t1, h1⟩
  have ha := pf_awake1
  rcases h1 with ⟨hne, _⟩ | ⟨_, xcs, mr, mn, mst, mb, mps, mls, mbd, mln, mcl, P0, P1, P2, P3, q0, q1, q2, q3, hn, rfl⟩
  · exact absurd (by exact congrArg Prod.fst ha) hne
  have hmn : mn = ⟨#[109, 97, 105, 110]⟩ := by
    apply ByteArray.ext
    have : mn.data.toList = [109, 97, 105, 110] := hn.trans (congrArg (fun q => q.2.2.2) ha)
    exact Array.toList_inj.1 this
  subst hmn
  have HT1 := Lib.hid t1
  clear t1 ha hn H1
  obtain ⟨W2, hW2⟩ : ∃ W, (w1.alloc (.cells #[.slice P0 xcs.length q0, .string mr, .string ⟨#[109, 97, 105, 110]⟩, .bool mst, .bool mb, .slice P1 mps.length q1, .slice P2 mls.length q2, .slice P3 mbd.length q3, .int .i64 mln, .int .i64 mcl] 31)).alloc (.cells #[.int .i64 0, .int .i64 0, .int .i64 0] 34) = W := ⟨_, rfl⟩
  obtain ⟨r, hr⟩ : ∃ r, w1.heap.size = r := ⟨_, rfl⟩
  have tW2 : Turn [] w1 W2 := by rw [← hW2]; exact ((Turn.refl [] w1).alloc _).alloc _
  have aW : W2.heap[r]? = some (.cells #[.slice P0 xcs.length q0, .string mr, .string ⟨#[109, 97, 105, 110]⟩, .bool mst, .bool mb, .slice P1 mps.length q1, .slice P2 mls.length q2, .slice P3 mbd.length q3, .int .i64 mln, .int .i64 mcl] 31 (0, 0)) := by
    rw [← hW2, ← hr]; exact ((Turn.refl [] _).alloc _).heap (heap_alloc_new w1 _) (by simp)
  have bW : W2.heap[r + 1]? = some (.cells #[.int .i64 0, .int .i64 0, .int .i64 0] 34 (0, 0)) := by
    rw [← hW2, ← hr]
    have := heap_alloc_new (w1.alloc (.cells #[.slice P0 xcs.length q0, .string mr, .string ⟨#[109, 97, 105, 110]⟩, .bool mst, .bool mb, .slice P1 mps.length q1, .slice P2 mls.length q2, .slice P3 mbd.length q3, .int .i64 mln, .int .i64 mcl] 31)) (.cells #[.int .i64 0, .int .i64 0, .int .i64 0] 34)
    rwa [World.size_alloc] at this
  have H3 := Lib.hid (H2.out W2 (HT1.out.trans' tW2))
  have HT2 := Lib.hid (HT1.out.trans' tW2)
  have HA := Lib.hid aW
  have HB := Lib.hid bW
  have HW2 := Lib.hid hW2
  have HR := Lib.hid hr
  clear tW2 aW bW hW2 H2
  go_upto_region 2 with (fail)
  rw [HW2.out]
  clear hr
  go_wp2_with fail
  refine H3.out.mono ?_
  rintro e3 w3 ⟨t3, h3⟩
  obtain ⟨a1, a2, a3⟩ := pf_awake2
  rcases h3 with ⟨_, rfl⟩ | ⟨he, _⟩
  · rw [a1, a2, a3]
    have ra := t3.heap HA.out (by simp)
    have rb := t3.heap HB.out (by simp)
    obtain ⟨W4, hW4⟩ : ∃ W, (w3.alloc (.cells progZ 31)).alloc (.cells #[.int .i64 10, .int .i64 1, .int .i64 7] 34) = W := ⟨_, rfl⟩
    have t4 : Turn [] w3 W4 := by rw [← hW4]; exact ((Turn.refl [] w3).alloc _).alloc _
    obtain ⟨u, hu⟩ : ∃ u, w3.heap.size = u := ⟨_, rfl⟩
    have dW : W4.heap[u + 1]? = some (.cells #[.int .i64 10, .int .i64 1, .int .i64 7] 34 (0, 0)) := by
      rw [← hW4, ← hu]
      have := heap_alloc_new (w3.alloc (.cells progZ 31)) (.cells #[.int .i64 10, .int .i64 1, .int .i64 7] 34)
      rwa [World.size_alloc] at this
    have ra4 := t4.heap ra (by simp)
    have rb4 := t4.heap rb (by simp)
    have c2 : W4.cell? ⟨r, 2, none⟩ = some (.string ⟨#[109, 97, 105, 110]⟩) := cell_of_row W4 r 2 _ _ _ ra4
    have f0 : W4.cell? ⟨r + 1, 0, none⟩ = some (.int .i64 0) := cell_of_row W4 (r + 1) 0 _ _ _ rb4
    have f1 : W4.cell? ⟨r + 1, 1, none⟩ = some (.int .i64 0) := cell_of_row W4 (r + 1) 1 _ _ _ rb4
    have f2 : W4.cell? ⟨r + 1, 2, none⟩ = some (.int .i64 0) := cell_of_row W4 (r + 1) 2 _ _ _ rb4
    have g0 : W4.cell? ⟨u + 1, 0, none⟩ = some (.int .i64 10) := cell_of_row W4 (u + 1) 0 _ _ _ dW
    have g1 : W4.cell? ⟨u + 1, 1, none⟩ = some (.int .i64 1) := cell_of_row W4 (u + 1) 1 _ _ _ dW
    have g2 : W4.cell? ⟨u + 1, 2, none⟩ = some (.int .i64 7) := cell_of_row W4 (u + 1) 2 _ _ _ dW
    have HT4 := Lib.hid ((HT2.out.trans' t3).trans' t4)
    unfold progZ at hW4 ⊢
    have HW4 := Lib.hid hW4
    have HU := Lib.hid hu
    clear hW4 t4 ra rb ra4 rb4 dW t3 a1 a2 a3
    go_upto_region 3 with (fail)
    rw [HW4.out]
    go_wp2_with fail
    go_ret
    exact ⟨rfl, HT4.out⟩
  · rw [a1] at he
    cases he
end Go.Proofs.YtnmhcgkccchacaaGreatDoor
