/- The numbering of tuples, read: count, thing; a tuple's numbers, in a list of their own. -/
import Derived.Test.YtepkpllfdfbmiaaTo
set_option linter.unusedSimpArgs false
set_option linter.unusedVariables false
namespace Go.Proofs.Ytepkpllfdfbmiaa
open Go.RowKit Go.Maps

theorem TP.sl {w : World} {b : Nat} {F : List Nat} {M V M2 V2 : Value} {L : List (List Int)} {S : List ByteArray} (h : TP w b F M V M2 V2 L S) (hL : ∀ t ∈ L, t.length = 9) : ∃ A c, V = .slice A L.length c ∧ L.length ≤ c ∧ ∀ (i : Nat) (t : List Int), L[i]? = some t → ∃ g, A = some ⟨g, 0, none⟩ ∧ g < w.heap.size ∧ ∀ (k : Nat) (y : Int), t[k]? = some y → w.cell? ⟨g, i * 9 + k, none⟩ = some (.int .i64 y) := h.row.form hL

theorem count_any (b : Nat) (F : List Nat) (L : List (List Int)) (S : List ByteArray) (w : World) (h : Tb w b F L S) (hL : ∀ t ∈ L, t.length = 9) :
    Calls Try.prog 21 #[.pointer (some ⟨b, 0, none⟩)] w fun e w' => e = .returned (.int .i64 (L.length : Int)) ∧ w = w' := by
  obtain ⟨M, V, M2, V2, hq⟩ := h
  obtain ⟨A, c, rfl, hlc, -⟩ := hq.sl hL
  have c1 : w.cell? ⟨b, 1, none⟩ = some (.slice A L.length c) := cell_of_row w b 1 _ 58 (0, 0) hq.blk
  clear hq hL
  go_enter Try.func21, Try.ntmps21
  go_wp2_with fail
  go_ret
  exact ⟨rfl, rfl⟩

set_option maxHeartbeats 800000 in
theorem thing_no (b : Nat) (F : List Nat) (L : List (List Int)) (S : List ByteArray) (id : Int) (w : World) (h : Tb w b F L S) (hL : ∀ t ∈ L, t.length = 9) (hid : id < 0 ∨ (L.length : Int) ≤ id) :
    Calls Try.prog 22 #[.pointer (some ⟨b, 0, none⟩), .int .i64 id] w fun e w' => e = .returned (.tuple #[tV zeroT, .bool false]) ∧ Turn [] w w' := by
  obtain ⟨M, V, M2, V2, hq⟩ := h
  obtain ⟨A, c, rfl, hlc, -⟩ := hq.sl hL
  have c1 : w.cell? ⟨b, 1, none⟩ = some (.slice A L.length c) := cell_of_row w b 1 _ 58 (0, 0) hq.blk
  have hb : b < w.heap.size := hq.fl b hq.fb
  clear hq hL
  by_cases h0 : id < 0
  · have d : decide (id < 0) = true := by simpa using h0
    go_enter Try.func22, Try.ntmps22
    go_wp2_with fail
    refine bodyPost_ret (v := .tuple #[tV zeroT, .bool false]) (by simp [results, Try.results22, go_sem, tV, tC, zeroT]) rfl ⟨rfl, ?_⟩
    exact ((Turn.refl _ _).alloc _).alloc _
  · have d : decide (id < 0) = false := by simpa using h0
    have d1 : decide ((L.length : Int) ≤ id) = true := by simp; omega
    go_enter Try.func22, Try.ntmps22
    go_wp2_with fail
    refine bodyPost_ret (v := .tuple #[tV zeroT, .bool false]) (by simp [results, Try.results22, go_sem, tV, tC, zeroT]) rfl ⟨rfl, ?_⟩
    exact ((Turn.refl _ _).alloc _).alloc _

set_option maxHeartbeats 800000 in
theorem thing_yes (b : Nat) (F : List Nat) (L : List (List Int)) (S : List ByteArray) (i : Nat) (t : List Int) (w : World) (h : Tb w b F L S) (hL : ∀ t ∈ L, t.length = 9) (hi : L[i]? = some t) (hl : L.length ≤ 1000000) :
    Calls Try.prog 22 #[.pointer (some ⟨b, 0, none⟩), .int .i64 (i : Int)] w fun e w' => e = .returned (.tuple #[tV t, .bool true]) ∧ Turn [] w w' := by
  obtain ⟨M, V, M2, V2, hq⟩ := h
  obtain ⟨A, c, rfl, hlc, hrow⟩ := hq.sl hL
  have c1 : w.cell? ⟨b, 1, none⟩ = some (.slice A L.length c) := cell_of_row w b 1 _ 58 (0, 0) hq.blk
  have hb : b < w.heap.size := hq.fl b hq.fb
  obtain ⟨g, rfl, hg, hc⟩ := hrow i t hi
  have hil : i < L.length := (List.getElem?_eq_some_iff.1 hi).1
  obtain ⟨a0, a1, a2, a3, a4, a5, a6, a7, a8, rfl⟩ := nine (hL t (List.mem_of_getElem? hi))
  have d0 : w.cell? ⟨g, i * 9, none⟩ = some (.int .i64 a0) := hc 0 a0 rfl
  have d1 := hc 1 a1 rfl
  have d2 := hc 2 a2 rfl
  have d3 := hc 3 a3 rfl
  have d4 := hc 4 a4 rfl
  have d5 := hc 5 a5 rfl
  have d6 := hc 6 a6 rfl
  have d7 := hc 7 a7 rfl
  have d8 := hc 8 a8 rfl
  have e0 : decide ((i : Int) < 0) = false := by simp
  have e1 : decide ((L.length : Int) ≤ (i : Int)) = false := by simp; omega
  have e1' : decide (L.length ≤ i) = false := by simp; omega
  clear hq hL hrow hc hi
  go_enter Try.func22, Try.ntmps22
  go_wp2_with fail
  refine bodyPost_ret (v := .tuple #[tV [a0, a1, a2, a3, a4, a5, a6, a7, a8], .bool true]) (by simp [results, Try.results22, go_sem, tV, tC, zeroT]) rfl ⟨rfl, ?_⟩
  exact ((Turn.refl _ _).alloc _)

theorem eq23_nil (w : World) : (binOp .eql 23 (.slice none 0 0) (.slice none 0 0)).run Try.prog w = .ok (.bool true) w := by kernel_rfl
theorem eq23_some (a : Addr) (n c : Nat) (w : World) : (binOp .eql 23 (.slice (some a) n c) (.slice none 0 0)).run Try.prog w = .ok (.bool false) w := by kernel_rfl
attribute [local go_sem] eq23_nil eq23_some

/-- append of a slice in one row onto an empty slice that has no room. -/
theorem wpList_clone {ops : Array Oper} {rest : List Oper} {o : Oper} {a : Act} {Q : Exit → Act → World → Prop} (hgd : o.guard = none) (s x : Operand)
    (ho : o.op = .call { callee := .builtin .append, args := #[s, x], argTypes := #[23, 23] })
    (W : World) (l : List Int) (A : Option Addr) (c : Nat) (hs : a.eval s = .slice (some ⟨W.heap.size, 0, none⟩) 0 0) (hx : a.eval x = .slice A l.length c) (hr : Ints W A l)
    (hl : l.length ≤ 1000000)
    (h : ∀ v' w', OwnI w' W.heap.size v' l → Turn [] W w' → wpList Try.prog ops Q rest (a.put o.dst v') w') :
    wpList Try.prog ops Q (o :: rest) a (W.alloc (.cells #[] 3)) := by
  refine wpList_appAll hgd s x ho (W.alloc (.cells #[] 3)) W.heap.size (.slice (some ⟨W.heap.size, 0, none⟩) 0 0) [] l A l.length c hs ?_ hx (hr.below ((Turn.refl [] W).alloc _)) rfl (by simp) hl (by simp) ?_
  · exact World.ownsRow_made W #[] 0 (Nat.le_refl _) (by unfold maxLen; omega) rfl
  · intro v' w' ho2 ht2 _
    exact h v' w' (by simpa using ho2) (((Turn.refl [] W).alloc _).trans ht2 (by simp [Value.ownBlock]))

set_option maxHeartbeats 800000 in
theorem clone_any (A : Addr) (l : List Int) (c : Nat) (w : World) (h : Ints w (some A) l) (hl : l.length ≤ 1000000) :
    Calls Try.prog 31 #[.slice (some A) l.length c] w fun e w' => ∃ v', e = .returned v' ∧ OwnI w' w.heap.size v' l ∧ Turn [] w w' := by
  have HI := Lib.hid h
  clear h
  go_enter Try.func31, Try.ntmps31
  go_wp2_with (at_builtin; refine wpList_clone rfl (.tmp 5) (.tmp 6) rfl w l (some A) c rfl rfl HI.out hl ?_; intro v' w2 ho2 ht2)
  go_ret
  exact ⟨_, rfl, ho2, ht2⟩

theorem tup_at {ns : List Int} {k : Nat} {y : Int} (h : ns[k]? = some y) : (tup ns)[k + 1]? = some y := by
  unfold tup
  rw [List.getElem?_cons_succ, List.getElem?_append_left (List.getElem?_eq_some_iff.1 h).1]
  exact h

theorem slice59 (g n : Nat) (w : World) (hn : n ≤ 8) : (Instr.sliceAt 59 (.pointer (some ⟨g, 1, none⟩)) none (some (.int .i64 (n : Int))) none).run Try.prog w = .ok (.slice (some ⟨g, 1, none⟩) n 8) w := by
  obtain rfl | rfl | rfl | rfl | rfl | rfl | rfl | rfl | rfl : n = 0 ∨ n = 1 ∨ n = 2 ∨ n = 3 ∨ n = 4 ∨ n = 5 ∨ n = 6 ∨ n = 7 ∨ n = 8 := by omega
  all_goals kernel_rfl

set_option maxHeartbeats 800000 in
theorem all_any (ns : List Int) (w : World) (hn : ns.length ≤ 8) :
    Calls Try.prog 23 #[tV (tup ns)] w fun e w' => ∃ v', e = .returned v' ∧ OwnI w' w.heap.size v' ns ∧ Turn [] w w' := by
  have h9 := tup_length hn
  have hv : Vr (w.alloc (.cells (tC (tup ns)) 61)) w.heap.size (tup ns) := Vr.box w h9
  have hI : Ints (w.alloc (.cells (tC (tup ns)) 61)) (some ⟨w.heap.size, 1, none⟩) ns := fun k y hy =>
    ⟨_, _, rfl, hv.lt, by rw [cell_of_row _ _ _ _ _ _ hv.2, Nat.add_comm]; exact tC_at (tup_at hy)⟩
  obtain ⟨b0, b1, b2, b3, b4, b5, b6, b7, b8, hb⟩ := nine h9
  have e0 : b0 = (ns.length : Int) := by
    unfold tup at hb
    injection hb with h _
    exact h.symm
  rw [hb] at hI hv ⊢
  rw [tC9] at hI hv
  rw [tV9]
  subst e0
  have HI := Lib.hid hI
  have hsl := slice59 w.heap.size ns.length
  have hsl' : ∀ w0 : World, (Instr.sliceAt 59 (.pointer (some ⟨w.heap.size, 1, none⟩)) none (some (.int .i64 (ns.length : Int))) none).run Try.prog w0 = .ok (.slice (some ⟨w.heap.size, 1, none⟩) ns.length 8) w0 := fun w0 => hsl w0 hn
  clear hI hv hb h9 hsl
  go_enter Try.func23, Try.ntmps23
  go_wp2_with fail
  refine (clone_any ⟨w.heap.size, 1, none⟩ ns 8 _ HI.out (by omega)).mono ?_
  rintro e w1 ⟨v', rfl, ho, ht⟩
  have HO := Lib.hid (ho.mono (B' := w.heap.size) (by simp))
  have HT := Lib.hid (((Turn.refl [] w).alloc _).trans' ht)
  clear ho ht
  go_wp2_with fail
  go_ret
  exact ⟨_, rfl, HO.out, HT.out⟩
end Go.Proofs.Ytepkpllfdfbmiaa
