/- put: one row more. -/
import Derived.Test.YtoekaehpcjhhaaaGreatDoorShp
set_option linter.unusedSimpArgs false
set_option linter.unusedVariables false
namespace Go.Proofs.YtoekaehpcjhhaaaGreatDoor
open Go.RowKit

/-- append of one row, laid in a block of its own. -/
theorem step_row {ops : Array Oper} {o : Oper} {a : Act} {K : Act → World → Prop} {Q : Exit → Act → World → Prop} {E : Prop} (hgd : o.guard = none) (s x : Operand)
    (ho : o.op = .call { callee := .builtin .append, args := #[s, x], argTypes := #[63, 63] }) (W : World) (V : Value) (R : List Row) (D : Nat) (X : ByteArray) (vb c : Nat)
    (hs : a.eval s = V) (hx : a.eval x = .slice (some ⟨vb, 0, none⟩) 1 c) (hown : OwnR W V R) (hb : W.heap[vb]? = some (.cells #[.int .i64 (D : Int), .string X] 77 (0, 0))) (hl : R.length ≤ 1000000000)
    (h : ∀ v' w', OwnR w' v' (R ++ [(D, X)]) → Turn V.ownBlock.toList W w' → (v'.ownBlock = V.ownBlock ∨ ∃ g, v'.ownBlock = some g ∧ W.heap.size ≤ g) → K (a.put o.dst v') w') :
    if Region.wanted o (yielded ops a.tmps) = true then Oper.wp Tryz.prog o a W K Q else E := by
  refine step_appR hgd s x 63 ho W 77 _ 2 24 Tryz.underlying63 row_info rfl (by omega) V R.length _ hs hown (some ⟨vb, 0, none⟩) 1 c (rcs (D, X)) hx ⟨rfl, .inr ⟨vb, 0, rfl, (Array.getElem?_eq_some_iff.1 hb).1, fun j u hj => ?_⟩⟩ ?_ (by simp only [maxLen]; omega) (by omega) ?_
  · rw [cell_of_row W vb _ _ _ _ hb, Nat.zero_add]
    simpa [rcs] using hj
  · intro u hu
    simp [rcs] at hu
    rcases hu with rfl | rfl <;> rfl
  · intro v' w' h1 h2 h3
    refine h v' w' ?_ h2 (h3.imp id fun e => ⟨_, e, Nat.le_refl _⟩)
    unfold OwnR
    rw [List.length_append, List.flatMap_append]
    simpa using h1

set_option maxHeartbeats 4000000 in
set_option maxRecDepth 100000 in
theorem put_any (T b : Nat) (F : List Nat) (R : List Row) (D : Nat) (A : Option Addr) (c : Nat) (xs : List ByteArray) (w : World) (h : Sh T w b F R D) (hx : Sts w A xs) (hc : xs.length ≤ c) (hn : xs.length ≤ 140737488355328) (hl : (cat xs).size ≤ 140737488355328) (hR : R.length ≤ 1000000000) :
    Calls Tryz.prog 56 #[.pointer (some ⟨b, 0, none⟩), .slice A xs.length c] w fun e w' => e = .returned (.tuple #[]) ∧ ∃ F', Sh T w' b F' (R ++ [(D, cat xs)]) D ∧ Foot w.heap.size F F' ∧ Turn F w w' := by
  obtain ⟨V, h⟩ := h
  obtain ⟨AV, cV, hVf, hVc, hVm⟩ := owns_form h.row
  have H := Lib.hid h
  have HVF := Lib.hid hVf
  have hbl : b < w.heap.size := h.fl b h.fb
  have c0 : w.cell? ⟨b, 0, none⟩ = some V := cell_of_row w b 0 _ T (0, 0) h.blk
  have c1 : w.cell? ⟨b, 1, none⟩ = some (.int .i64 (D : Int)) := cell_of_row w b 1 _ T (0, 0) h.blk
  have HJ := Lib.hid (fun W (hW : Sts W A xs) => join_any A c xs ⟨#[]⟩ W hW hc hn (by rw [jn_none]; exact hl))
  have HX := Lib.hid hx
  obtain ⟨n, hnn⟩ : ∃ n, xs.length = n := ⟨_, rfl⟩
  obtain ⟨X, hX⟩ : ∃ X, cat xs = X := ⟨_, rfl⟩
  have HJ' : Hid (∀ W, Sts W A xs → Calls Tryz.prog 32 #[.slice A n c, .string ⟨#[]⟩] W fun e w' => e = .returned (.string X) ∧ Turn [] W w') := Lib.hid (by
    intro W hW
    have := HJ.out W hW
    rw [hnn, jn_none, hX] at this
    exact this)
  have HNX := Lib.hid (And.intro hnn hX)
  rw [hnn, hX]
  clear h hx HJ hnn hX hVf hl hn hc
  go_enter Tryz.func56, Tryz.ntmps56
  go_wp2_with fail
  go_region_law (first
    | (go_simp
       go_at_call 32
       (refine (HJ'.out w.drew (HX.out.turn' ((Turn.refl [] w).drew))).mono ?_)
       rintro e w1 ⟨rfl, t1⟩
       have h1 := H.out.turn ((Turn.refl [] w).drew.trans' t1) (by simp)
       have d0 : w1.cell? ⟨b, 0, none⟩ = some V := cell_of_row w1 b 0 _ T (0, 0) h1.blk
       have d1 : w1.cell? ⟨b, 1, none⟩ = some (.int .i64 (D : Int)) := cell_of_row w1 b 1 _ T (0, 0) h1.blk
       have g0 : (w1.alloc (.cells #[.int .i64 (D : Int), .string X] 77)).cell? ⟨b, 0, none⟩ = some V := cell_of_row _ b 0 _ T (0, 0) (((Turn.refl [] w1).alloc _).heap h1.blk (by simp))
       have g1 : (w1.alloc (.cells #[.int .i64 (D : Int), .string X] 77)).cell? ⟨b, 1, none⟩ = some (.int .i64 (D : Int)) := cell_of_row _ b 1 _ T (0, 0) (((Turn.refl [] w1).alloc _).heap h1.blk (by simp))
       have H1 := Lib.hid h1
       have HT1 := Lib.hid t1
       clear t1 h1)
    | (refine step_row rfl (.tmp 8) (.tmp 16) rfl _ V R D X w1.heap.size 1 (by simp [Act.eval, Act.put]) (by simp [Act.eval, Act.put]) (by exact Turn.owns ((Turn.refl [] w1).alloc _) H1.out.row (by simp)) (by exact heap_alloc_new w1 _) hR ?_
       intro v5 w5 ho5 ht5 hm5
       have HST := Lib.hid ((H1.out.turn ((Turn.refl [] w1).alloc _) (by simp)).stored ho5 ht5 hm5)
       have hb5 := ht5.heap ((H1.out.turn ((Turn.refl [] w1).alloc _) (by simp)).blk) (fun hg => H1.out.vb (by simpa using hg))
       have e0 : w5.cell? ⟨b, 0, none⟩ = some V := cell_of_row w5 b 0 _ T (0, 0) hb5
       have f0 : w5.frozen? ⟨b, 0, none⟩ = false := frozen_of_row w5 b 0 _ T hb5
       obtain ⟨A5, c5, hv5, _, _⟩ := owns_form ho5
       rw [List.length_append, List.length_singleton] at hv5
       subst hv5
       clear ho5 ht5 hm5 hb5))
  all_goals
    go_wp2_with fail
    go_end0
    obtain ⟨F', hS, hF, hT⟩ := HST.out
    have tA : Turn [] w (w1.alloc (.cells #[.int .i64 (D : Int), .string X] 77)) := ((Turn.refl [] w).drew.trans' HT1.out).alloc _
    exact ⟨rfl, F', ⟨_, hS⟩, (Foot.refl w.heap.size F).trans hF tA.size, (tA.more (by simp)).trans hT (fun g hg => .inl hg)⟩
end Go.Proofs.YtoekaehpcjhhaaaGreatDoor
