/- Rows of numbers in a line, and what one put makes of them; the document's example. -/
import Derived.Test.YtchccoolnelohaaPut
set_option linter.unusedSimpArgs false
set_option linter.unusedVariables false
namespace Go.Proofs.Ytchccoolnelohaa
open Go.RowKit Go.Maps

/-- f a, f (a + 1), .., n of them. -/
def seg (f : Nat → Int) (a n : Nat) : List Int := (List.range' a n).map f
theorem seg_length (f : Nat → Int) (a n : Nat) : (seg f a n).length = n := by simp [seg]
theorem seg_zero (f : Nat → Int) (a : Nat) : seg f a 0 = [] := rfl
theorem seg_cons (f : Nat → Int) (a n : Nat) : seg f a (n + 1) = f a :: seg f (a + 1) n := by
  unfold seg
  rw [List.range'_succ]
  rfl
theorem seg_snoc (f : Nat → Int) (a n : Nat) : seg f a (n + 1) = seg f a n ++ [f (a + n)] := by
  unfold seg
  rw [List.range'_1_concat, List.map_append]
  rfl
theorem mem_seg {f : Nat → Int} {a n : Nat} {x : Int} : x ∈ seg f a n ↔ ∃ j, a ≤ j ∧ j < a + n ∧ f j = x := by
  unfold seg
  simp [List.mem_map, List.mem_range'_1, and_assoc]

theorem putL_one_yes {l : List Int} {x : Int} (h : okQ l x = true) : putL l [x] = l ++ [x] := put1_yes h
theorem putL_one_no {l : List Int} {x : Int} (h : okQ l x = false) : putL l [x] = l := put1_no h
theorem putL_two {l : List Int} {x : Int} (h : okQ l x = true) : putL l [x, x] = l ++ [x] := by
  show put1 (put1 l x) x = _
  rw [put1_yes h, put1_no (okQ_in (by simp))]
theorem cnt_one_yes {l : List Int} {x : Int} (h : okQ l x = true) : cnt l [x] = 1 := by unfold cnt; rw [putL_one_yes h]; simp
theorem cnt_one_no {l : List Int} {x : Int} (h : okQ l x = false) : cnt l [x] = 0 := by unfold cnt; rw [putL_one_no h]; simp
theorem cnt_two {l : List Int} {x : Int} (h : okQ l x = true) : cnt l [x, x] = 1 := by unfold cnt; rw [putL_two h]; simp

/-- One int, two ints, three ints in a new block. -/
theorem Ints.one (w : World) (x : Int) : Ints (w.alloc (.cells #[.int .i64 x] 3)) (some ⟨w.heap.size, 0, none⟩) [x] := fun k z hz => by
  match k, hz with
  | 0, hz => simp at hz; subst hz; exact ⟨_, _, rfl, by simp, by simp⟩
theorem Ints.two (w : World) (x y : Int) : Ints (w.alloc (.cells #[.int .i64 x, .int .i64 y] 3)) (some ⟨w.heap.size, 0, none⟩) [x, y] := fun k z hz => by
  match k, hz with
  | 0, hz => simp at hz; subst hz; exact ⟨_, _, rfl, by simp, by simp⟩
  | 1, hz => simp at hz; subst hz; exact ⟨_, _, rfl, by simp, by simp⟩
theorem Ints.three (w : World) (x y z : Int) : Ints (w.alloc (.cells #[.int .i64 x, .int .i64 y, .int .i64 z] 3)) (some ⟨w.heap.size, 0, none⟩) [x, y, z] := fun k u hz => by
  match k, hz with
  | 0, hz => simp at hz; subst hz; exact ⟨_, _, rfl, by simp, by simp⟩
  | 1, hz => simp at hz; subst hz; exact ⟨_, _, rfl, by simp, by simp⟩
  | 2, hz => simp at hz; subst hz; exact ⟨_, _, rfl, by simp, by simp⟩
theorem Qu.fresh {F : List Nat} {w : World} {b : Nat} {l : List Int} (h : Qu w b F l) : ∀ a : Addr, (some (⟨w.heap.size, 0, none⟩ : Addr)) = some a → a.block ∉ F := by
  rintro a ⟨⟩ hm
  have := h.fl _ hm
  simp at this

/-- Put of one number, of two like ones, just laid in a new block. -/
theorem put_one (b : Nat) (F : List Nat) (l : List Int) (x : Int) (w : World) (h : Qu w b F l) (hl : l.length ≤ 100000) :
    Calls Try.prog 11 #[.pointer (some ⟨b, 0, none⟩), .slice (some ⟨w.heap.size, 0, none⟩) 1 1] (w.alloc (.cells #[.int .i64 x] 3)) fun e w' => e = .returned (.int .i64 (cnt l [x] : Int)) ∧ ∃ F', Qu w' b F' (putL l [x]) ∧ Foot w.heap.size F F' ∧ Turn F w w' := by
  have ta := (Turn.refl [] w).alloc (.cells #[.int .i64 x] 3)
  refine (put_any b F l [x] (some ⟨w.heap.size, 0, none⟩) 1 _ (h.turn' ta) (Ints.one w x) h.fresh (by simp; omega)).mono ?_
  rintro e w' ⟨rfl, F', hq, hf, ht⟩
  exact ⟨rfl, F', hq, (Foot.refl _ _).trans hf ta.size, (ta.more (G := F) (by simp)).trans ht (fun g hg => .inl hg)⟩
theorem put_two (b : Nat) (F : List Nat) (l : List Int) (x y : Int) (w : World) (h : Qu w b F l) (hl : l.length ≤ 100000) :
    Calls Try.prog 11 #[.pointer (some ⟨b, 0, none⟩), .slice (some ⟨w.heap.size, 0, none⟩) 2 2] (w.alloc (.cells #[.int .i64 x, .int .i64 y] 3)) fun e w' => e = .returned (.int .i64 (cnt l [x, y] : Int)) ∧ ∃ F', Qu w' b F' (putL l [x, y]) ∧ Foot w.heap.size F F' ∧ Turn F w w' := by
  have ta := (Turn.refl [] w).alloc (.cells #[.int .i64 x, .int .i64 y] 3)
  refine (put_any b F l [x, y] (some ⟨w.heap.size, 0, none⟩) 2 _ (h.turn' ta) (Ints.two w x y) h.fresh (by simp; omega)).mono ?_
  rintro e w' ⟨rfl, F', hq, hf, ht⟩
  exact ⟨rfl, F', hq, (Foot.refl _ _).trans hf ta.size, (ta.more (G := F) (by simp)).trans ht (fun g hg => .inl hg)⟩
theorem put_three (b : Nat) (F : List Nat) (l : List Int) (x y z : Int) (w : World) (h : Qu w b F l) (hl : l.length ≤ 100000) :
    Calls Try.prog 11 #[.pointer (some ⟨b, 0, none⟩), .slice (some ⟨w.heap.size, 0, none⟩) 3 3] (w.alloc (.cells #[.int .i64 x, .int .i64 y, .int .i64 z] 3)) fun e w' => e = .returned (.int .i64 (cnt l [x, y, z] : Int)) ∧ ∃ F', Qu w' b F' (putL l [x, y, z]) ∧ Foot w.heap.size F F' ∧ Turn F w w' := by
  have ta := (Turn.refl [] w).alloc (.cells #[.int .i64 x, .int .i64 y, .int .i64 z] 3)
  refine (put_any b F l [x, y, z] (some ⟨w.heap.size, 0, none⟩) 3 _ (h.turn' ta) (Ints.three w x y z) h.fresh (by simp; omega)).mono ?_
  rintro e w' ⟨rfl, F', hq, hf, ht⟩
  exact ⟨rfl, F', hq, (Foot.refl _ _).trans hf ta.size, (ta.more (G := F) (by simp)).trans ht (fun g hg => .inl hg)⟩

theorem aw1 : putL [] [3, 1, 3] = [3, 1] := by decide
theorem aw2 : cnt [] [3, 1, 3] = 2 := by decide
theorem aw3 : putL [1] [3] = [1, 3] := by decide
theorem aw4 : cnt [1] [3] = 1 := by decide

set_option maxRecDepth 100000 in
set_option maxHeartbeats 1000000 in
theorem awake_any (w : World) : Calls Try.prog 7 #[] w fun e w' => e = .returned (.bool true) ∧ Turn [] w w' := by
  go_enter Try.func7, Try.ntmps7
  go_wp2_with fail
  refine (new_any _).mono ?_
  rintro e w1 ⟨b, rfl, hq1, hb, ht1⟩
  have HQ1 := Lib.hid hq1
  have HT1 := Lib.hid ht1
  have HF1 : Hid (Foot w.heap.size [] [b]) := Lib.hid (fun g hg => .inr (by simp at hg; omega))
  clear hq1 ht1
  go_wp2_with fail
  refine (put_three b [b] [] 3 1 3 _ HQ1.out (by simp)).mono ?_
  rw [aw1, aw2]
  rintro e w2 ⟨rfl, F2, hq2, hf2, ht2⟩
  have HQ2 := Lib.hid hq2
  have HF2 := Lib.hid (HF1.out.trans hf2 HT1.out.size)
  have HT2 := Lib.hid (HT1.out.trans ht2 HF1.out)
  clear hq2 hf2 ht2 HQ1 HT1 HF1
  go_wp2_with fail
  refine (next_some b F2 3 [1] _ HQ2.out (by simp)).mono ?_
  rintro e w3 ⟨rfl, hq3, ht3⟩
  have HQ3 := Lib.hid hq3
  have HT3 := Lib.hid (HT2.out.trans ht3 HF2.out)
  clear hq3 ht3 HQ2 HT2
  go_wp2_with fail
  refine (put_one b F2 [1] 3 _ HQ3.out (by simp)).mono ?_
  rw [aw3, aw4]
  rintro e w4 ⟨rfl, F4, hq4, hf4, ht4⟩
  have HQ4 := Lib.hid hq4
  have HF4 := Lib.hid (HF2.out.trans hf4 HT3.out.size)
  have HT4 := Lib.hid (HT3.out.trans ht4 HF2.out)
  clear hq4 hf4 ht4 HQ3 HT3 HF2
  go_wp2_with fail
  refine (next_some b F4 1 [3] _ HQ4.out (by simp)).mono ?_
  rintro e w5 ⟨rfl, hq5, ht5⟩
  have HQ5 := Lib.hid hq5
  have HT5 := Lib.hid (HT4.out.trans ht5 HF4.out)
  clear hq5 ht5 HQ4 HT4
  go_wp2_with fail
  refine (next_some b F4 3 [] _ HQ5.out (by simp)).mono ?_
  rintro e w6 ⟨rfl, hq6, ht6⟩
  have HT6 := Lib.hid (HT5.out.trans ht6 HF4.out)
  clear hq6 ht6 HQ5 HT5
  go_wp2_with fail
  go_ret
  exact ⟨rfl, HT6.out⟩
end Go.Proofs.Ytchccoolnelohaa
