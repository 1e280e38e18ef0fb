import Derived.Test.YtbocejiclellfaaGreatDoorRows
import Derived.WalkKit
import Derived.WalkSpells
import Derived.WalkLawsBesides
import Derived.Lib.Hide
import Derived.Below
import Derived.Laws.OwnMore
import Derived.Deep.AppendLies
import Derived.Deep.Draws
import Derived.Maps.AppendAt
import Derived.RegionTactic
import Derived.OwnWalk
import Derived.Deep.QuietTactic
import Derived.BigQuiet
import Derived.Laws.Bits64b
import Derived.Lib.TrailingZeros
import Derived.Shelf.Spec.TrailingZeros
import Derived.Handy
import Derived.BigRegion

/- Stage 1's text Kit: what stage 8 wants of it (printed by conv1.py). -/
set_option linter.unusedSimpArgs false
set_option linter.unusedVariables false
set_option maxRecDepth 100000
namespace Go.Proofs.YtbocejiclellfaaGreatDoor
open Go.RowKit

theorem ret_bool {a b : Bool} (h : a = b) : Ending.returned (.bool a) = .returned (.bool b) := by rw [h]
theorem ret_int {k : IntKind} {a b : Int} (h : a = b) : Ending.returned (.int k a) = .returned (.int k b) := by rw [h]
theorem at_lt {α : Type} {l : List α} {k : Nat} (h : k < l.length) : ∃ y, l[k]? = some y := ⟨l[k], List.getElem?_eq_getElem h⟩
theorem take_snoc {α : Type} {l : List α} {k : Nat} {y : α} (h : l[k]? = some y) : l.take (k + 1) = l.take k ++ [y] := by
  obtain ⟨hk, e⟩ := List.getElem?_eq_some_iff.1 h
  rw [List.take_succ_eq_append_getElem hk, e]
/-- From w to w' only the blocks of F, and new ones, have turned. -/
structure Turn (F : List Nat) (w w' : World) : Prop where
  os : w'.os = w.os
  tape : w'.tape = w.tape
  output : w'.output = w.output
  size : w.heap.size ≤ w'.heap.size
  block : ∀ k, k < w.heap.size → k ∉ F → w'.heap[k]? = w.heap[k]?
section
variable {F G : List Nat} {a b c w w' : World}
theorem Turn.refl (F : List Nat) (w : World) : Turn F w w := ⟨rfl, rfl, rfl, Nat.le_refl _, fun _ _ _ => rfl⟩
theorem Turn.trans (h : Turn F a b) (k : Turn G b c) (hG : ∀ g ∈ G, g ∈ F ∨ a.heap.size ≤ g) : Turn F a c :=
  ⟨k.os.trans h.os, k.tape.trans h.tape, k.output.trans h.output, Nat.le_trans h.size k.size, fun i hi hn =>
    (k.block i (Nat.lt_of_lt_of_le hi h.size) (fun hg => by
      rcases hG i hg with h1 | h1
      · exact hn h1
      · omega)).trans (h.block i hi hn)⟩
theorem Turn.trans' (h : Turn F a b) (k : Turn [] b c) : Turn F a c := h.trans k (by simp)
theorem Turn.more (h : Turn F a b) (hs : ∀ g ∈ F, g ∈ G ∨ a.heap.size ≤ g) : Turn G a b :=
  ⟨h.os, h.tape, h.output, h.size, fun i hi hn => h.block i hi (fun hf => by
    rcases hs i hf with h1 | h1
    · exact hn h1
    · omega)⟩
theorem Turn.drew (h : Turn F a w) : Turn F a w.drew := ⟨h.os, h.tape, h.output, h.size, h.block⟩
theorem Turn.drewN (h : Turn F a w) (n : Nat) : Turn F a (w.drewN n) := ⟨h.os, h.tape, h.output, h.size, h.block⟩
theorem Turn.alloc (h : Turn F a w) (o : Obj) : Turn F a (w.alloc o) :=
  h.trans' ⟨rfl, rfl, rfl, by simp, fun k hk _ => Below.heap_alloc _ _ _ hk⟩
theorem Turn.setCell (h : Turn F a w) {p : Addr} (hp : p.block ∈ F ∨ a.heap.size ≤ p.block) (u : Value) : Turn F a (w.setCell p u) :=
  h.trans (G := [p.block]) ⟨rfl, rfl, rfl, by simp [World.setCell], fun k hk hn => Below.heap_setCell _ _ _ _ (by simpa using hn)⟩ (by simpa using hp)
theorem Turn.grown {row : Option Nat} (h : Turn F a w) (hg : w.grownBy w' row) (hr : ∀ k, row = some k → k ∈ F ∨ a.heap.size ≤ k) : Turn F a w' :=
  h.trans (G := row.toList) ⟨hg.os, hg.tape, hg.output, hg.size, fun k hk hn => hg.block k hk (fun e => hn (by simp [← e]))⟩ (by
    intro g hgm
    exact hr g (by simpa using hgm))
theorem Turn.below (h : Below w.heap.size w w') : Turn F w w' := ⟨h.os, h.tape, h.output, h.size, fun k hk _ => h.block k hk⟩
theorem Turn.to_below (h : Turn [] w w') : Below w.heap.size w w' := ⟨h.os, h.tape, h.output, h.size, fun k hk => h.block k hk (by simp)⟩
theorem Turn.cell (h : Turn F w w') {p : Addr} (hp : p.block < w.heap.size) (hn : p.block ∉ F) : w'.cell? p = w.cell? p := World.cell?_of_block (h.block _ hp hn)
theorem Turn.heap (h : Turn F w w') {k : Nat} {o : Obj} (hk : w.heap[k]? = some o) (hn : k ∉ F) : w'.heap[k]? = some o :=
  (h.block k (Array.getElem?_eq_some_iff.1 hk).1 hn).trans hk
theorem Turn.owns {base : Nat} {e : TypeId} {size n : Nat} {v : Value} {xs : List Value} (h : Turn F w w') (ho : w.ownsRow base e size v n xs) (hn : ∀ g, v.ownBlock = some g → g ∉ F) : w'.ownsRow base e size v n xs := by
  refine ⟨ho.1, ?_⟩
  rcases ho.2 with hn | ⟨g, cap, cur, rfl, hb, hgg, rest⟩
  · exact .inl hn
  · exact .inr ⟨g, cap, cur, rfl, hb, h.heap hgg (hn g rfl), rest⟩
end

/-- The slice at A reads as the list l of ints. -/
def Ints (w : World) (A : Option Addr) (l : List Int) : Prop :=
  ∀ k y, l[k]? = some y → ∃ b off, A = some ⟨b, off, none⟩ ∧ b < w.heap.size ∧ w.cell? ⟨b, off + k, none⟩ = some (.int .i64 y)
theorem Ints.nil (w : World) (A : Option Addr) : Ints w A [] := fun k y h => by simp at h
theorem Ints.below {w w' : World} {A : Option Addr} {l : List Int} (h : Ints w A l) (hb : Turn [] w w') : Ints w' A l := fun k y hy => by
  obtain ⟨b, off, e, hlt, hc⟩ := h k y hy
  exact ⟨b, off, e, Nat.lt_of_lt_of_le hlt hb.size, (hb.cell (p := ⟨b, off + k, none⟩) hlt (by simp)).trans hc⟩
/-- The slice v is of the program's own making (from block B on) and holds the list l of ints. -/
def OwnI (w : World) (B : Nat) (v : Value) (l : List Int) : Prop := w.ownsRow B 3 1 v l.length (l.map (Value.int .i64))
theorem OwnI.nil (w : World) (B : Nat) : OwnI w B (.slice none 0 0) [] := World.ownsRow_nil w B 3 1
theorem OwnI.turn {F : List Nat} {w w' : World} {B : Nat} {v : Value} {l : List Int} (h : OwnI w B v l) (t : Turn F w w') (hn : ∀ g, v.ownBlock = some g → g ∉ F) : OwnI w' B v l := Turn.owns t h hn
theorem OwnI.turn' {w w' : World} {B : Nat} {v : Value} {l : List Int} (h : OwnI w B v l) (t : Turn [] w w') : OwnI w' B v l := Turn.owns t h (by simp)
theorem ownsRow_mono {w : World} {B B' : Nat} {e : TypeId} {size n : Nat} {v : Value} {xs : List Value} (h : w.ownsRow B e size v n xs) (hB : B' ≤ B) : w.ownsRow B' e size v n xs := by
  refine ⟨h.1, ?_⟩
  rcases h.2 with hn | ⟨g, cap, cur, rfl, hb, rest⟩
  · exact .inl hn
  · exact .inr ⟨g, cap, cur, rfl, by omega, rest⟩
theorem OwnI.mono {w : World} {B B' : Nat} {v : Value} {l : List Int} (h : OwnI w B v l) (hB : B' ≤ B) : OwnI w B' v l := ownsRow_mono h hB
theorem OwnI.form {w : World} {B : Nat} {v : Value} {l : List Int} (h : OwnI w B v l) : ∃ A c, v = .slice A l.length c ∧ Ints w A l ∧ l.length ≤ c := by
  rcases h.2 with ⟨rfl, hn⟩ | ⟨g, cap, cur, rfl, hb, hg, hnc, _, _, ht⟩
  · refine ⟨none, 0, by rw [hn], fun k y hy => ?_, by omega⟩
    rw [List.eq_nil_of_length_eq_zero hn] at hy
    simp at hy
  · refine ⟨_, cap, rfl, fun k y hy => ⟨g, 0, rfl, (Array.getElem?_eq_some_iff.1 hg).1, ?_⟩, hnc⟩
    have hk : k < l.length := (List.getElem?_eq_some_iff.1 hy).1
    have e := World.ownsRow.cellAt (cap := cap) h k (by omega)
    rw [Nat.zero_add, e]
    simp [hy]
theorem int_info : (Tryz.prog.info? 3).map (fun i => (i.zero, i.size, i.bytes)) = some (some (.int .i64 0), 1, 8) := by kernel_rfl
/-- append of one int, laid in a block of its own just ahead, onto a slice of the program's own. -/
theorem wpList_app1' {ops : Array Oper} {rest : List Oper} {o : Oper} {a : Act} {Q : Exit → Act → World → Prop} (hgd : o.guard = none) (s x : Operand)
    (ho : o.op = .call { callee := .builtin .append, args := #[s, x], argTypes := #[63, 63] })
    (W : World) (B : Nat) (v : Value) (l : List Int) (y : Int) (c : Nat) (hs : a.eval s = v) (hown : OwnI W B v l) (hx : a.eval x = .slice (some ⟨W.heap.size, 0, none⟩) 1 c)
    (hl : l.length ≤ 10000000) (hB : B ≤ W.heap.size)
    (h : ∀ v' w', OwnI w' B v' (l ++ [y]) → Turn v.ownBlock.toList W w' → (v'.ownBlock = v.ownBlock ∨ ∃ g, v'.ownBlock = some g ∧ W.heap.size ≤ g) → wpList Tryz.prog ops Q rest (a.put o.dst v') w') :
    wpList Tryz.prog ops Q (o :: rest) a (W.alloc (.cells #[.int .i64 y] 3)) := by
  obtain ⟨i0, hi0, hz0, hz1, hz2⟩ := info_parts int_info
  refine wpList_append_own_at (W.alloc (.cells #[.int .i64 y] 3)) hgd s x 63 ho B 3 i0 _ 1 8 Tryz.underlying63 hi0 hz0 hz1 hz2 rfl (by omega) v l.length (l.map (Value.int .i64)) hs
    (hown.turn' ((Turn.refl [] W).alloc _)) ⟨W.heap.size, 0, none⟩ 1 c [.int .i64 y] hx rfl ?_ (by simp [Value.oneCell']) (by simp only [maxLen]; omega) (by omega) (by simp; omega) ?_
  · intro j u hj
    match j, hj with
    | 0, hj =>
      simp at hj
      subst hj
      simp [Addr.add]
  · intro v' w' h1 h2 _ h4
    refine h v' w' ?_ (((Turn.refl _ W).alloc _).grown h2 (fun k hk => .inl (by simp [hk]))) ?_
    · unfold OwnI
      rw [List.length_append, List.map_append]
      exact h1
    · rcases h4 with h4 | h4
      · exact .inl h4
      · exact .inr ⟨_, h4, by simp⟩
theorem wpList_app1 {ops : Array Oper} {rest : List Oper} {o : Oper} {a : Act} {Q : Exit → Act → World → Prop} (hgd : o.guard = none) (s x : Operand)
    (ho : o.op = .call { callee := .builtin .append, args := #[s, x], argTypes := #[63, 63] })
    (W : World) (B : Nat) (v : Value) (l : List Int) (y : Int) (c : Nat) (hs : a.eval s = v) (hown : OwnI W B v l) (hx : a.eval x = .slice (some ⟨W.heap.size, 0, none⟩) 1 c)
    (hl : l.length ≤ 1000000) (hB : B ≤ W.heap.size)
    (h : ∀ v' w', OwnI w' B v' (l ++ [y]) → Turn v.ownBlock.toList W w' → (v'.ownBlock = v.ownBlock ∨ ∃ g, v'.ownBlock = some g ∧ W.heap.size ≤ g) → wpList Tryz.prog ops Q rest (a.put o.dst v') w') :
    wpList Tryz.prog ops Q (o :: rest) a (W.alloc (.cells #[.int .i64 y] 3)) := wpList_app1' hgd s x ho W B v l y c hs hown hx (by omega) hB h
theorem run_append_off_nil {P : Program} (w : World) (base : Nat) (t ty e : TypeId) (i : TypeInfo) (size : Nat) (ht : P.underlying t = some (.slice e)) (hi : P.info? e = some i)
    (v : Value) (n : Nat) (xs : List Value) (hown : w.ownsRow base e size v n xs) (c : Nat) : (Builtin.append_ #[t, t] ty #[v, .slice none 0 c]).run P w = .ok v w := by
  rcases hown.2 with ⟨rfl, rfl⟩ | ⟨g, cap, cur, rfl, _, _, hnc, _⟩
  · simp [Builtin.append_, run_underlying ht, sizeOf, typeInfo, hi, Builtin.lenOf, Builtin.firstCells]
  · simp [Builtin.append_, run_underlying ht, sizeOf, typeInfo, hi, Builtin.lenOf, Builtin.firstCells, hnc, storeCells]
/-- append of a whole slice of ints (nil let in) onto a slice of the program's own. -/
theorem wpList_appAll {ops : Array Oper} {rest : List Oper} {o : Oper} {a : Act} {Q : Exit → Act → World → Prop} (hgd : o.guard = none) (s x : Operand)
    (ho : o.op = .call { callee := .builtin .append, args := #[s, x], argTypes := #[63, 63] })
    (W : World) (B : Nat) (v : Value) (l t : List Int) (A : Option Addr) (m c : Nat) (hs : a.eval s = v) (hown : OwnI W B v l) (hx : a.eval x = .slice A m c) (hr : Ints W A t) (hm : m = t.length)
    (hl : l.length ≤ 1000000) (ht : t.length ≤ 1000000) (hB : B ≤ W.heap.size)
    (h : ∀ v' w', OwnI w' B v' (l ++ t) → Turn v.ownBlock.toList W w' → (v'.ownBlock = v.ownBlock ∨ ∃ g, v'.ownBlock = some g ∧ W.heap.size ≤ g) → wpList Tryz.prog ops Q rest (a.put o.dst v') w') :
    wpList Tryz.prog ops Q (o :: rest) a W := by
  subst hm
  obtain ⟨i0, hi0, hz0, hz1, hz2⟩ := info_parts int_info
  by_cases h0 : t = [] ∧ A = none
  · obtain ⟨rfl, rfl⟩ := h0
    refine wpList_plain hgd fun K hK => ?_
    have hrun := run_append_off_nil (P := Tryz.prog) W B 63 o.type 3 i0 1 Tryz.underlying63 hi0 v l.length _ hown c
    unfold Oper.wp execOp
    simp only [ho, resolve, invoke, builtin, Sem.run_bind, Sem.run_pure, Result.andThen_ok, List.map_toArray, List.map_cons, List.map_nil, hs, hx, List.length_nil, hrun]
    exact hK _ _ (h v W (by simpa using hown) (Turn.refl _ _) (.inl rfl))
  · have hA : ∃ ad, A = some ad ∧ ∀ k y, t[k]? = some y → W.cell? (ad.add k) = some (.int .i64 y) := by
      rcases A with _ | ad
      · rcases t with _ | ⟨y, t⟩
        · exact absurd ⟨rfl, rfl⟩ h0
        · obtain ⟨b, off, e, _⟩ := hr 0 y rfl
          cases e
      · refine ⟨ad, rfl, fun k y hy => ?_⟩
        obtain ⟨b, off, e, _, hc⟩ := hr k y hy
        injection e with e
        subst e
        rw [Addr.add_lit]
        exact hc
    obtain ⟨ad, rfl, hcell⟩ := hA
    refine wpList_append_own_at W hgd s x 63 ho B 3 i0 _ 1 8 Tryz.underlying63 hi0 hz0 hz1 hz2 rfl (by omega) v l.length (l.map (Value.int .i64)) hs
      hown ad t.length c (t.map (Value.int .i64)) hx (by simp) ?_ ?_ (by simp only [maxLen]; omega) (by omega) hB ?_
    · intro j u hj
      rw [List.getElem?_map] at hj
      cases hy : t[j]? with
      | none => rw [hy] at hj; cases hj
      | some y =>
        rw [hy] at hj
        injection hj with hj
        subst hj
        exact hcell j y hy
    · intro u hu
      obtain ⟨y, _, rfl⟩ := List.mem_map.1 hu
      rfl
    · intro v' w' h1 h2 _ h4
      refine h v' w' ?_ ((Turn.refl _ W).grown h2 (fun k hk => .inl (by simp [hk]))) ?_
      · unfold OwnI
        rw [List.length_append, List.map_append]
        exact h1
      · rcases h4 with h4 | h4
        · exact .inl h4
        · exact .inr ⟨_, h4, by simp⟩
theorem OwnI.lt {w : World} {B : Nat} {v : Value} {l : List Int} (h : OwnI w B v l) : ∀ k, v.ownBlock = some k → B ≤ k ∧ k < w.heap.size := World.ownsRow.lt h
end Go.Proofs.YtbocejiclellfaaGreatDoor

/- Stage 1's text Pop: what stage 8 wants of it (printed by conv1.py). -/
set_option linter.unusedSimpArgs false
set_option linter.unusedVariables false
set_option maxRecDepth 100000
namespace Go.Proofs.YtbocejiclellfaaGreatDoor
open Go.RowKit

/-- How many of the lowest f bits of x are set. -/
def popN : Nat → Nat → Nat
  | 0, _ => 0
  | f + 1, x => x % 2 + popN f (x / 2)
def val : List Nat → Nat
  | [] => 0
  | b :: t => b + 256 * val t
def s1 (b : Nat) : Nat := ((b / 2) &&& 85) + (b &&& 85)
end Go.Proofs.YtbocejiclellfaaGreatDoor

/- Stage 1's text Ref: what stage 8 wants of it (printed by conv1.py). -/
set_option linter.unusedSimpArgs false
set_option linter.unusedVariables false
set_option maxRecDepth 100000
namespace Go.Proofs.YtbocejiclellfaaGreatDoor
open Go.RowKit

def okB (n : Int) : Bool := decide (0 ≤ n ∧ n < 1048576)
set_option maxHeartbeats 400000 in
theorem mayHold_any (n : Int) (w : World) : Calls Tryz.prog 83 #[.int .i64 n] w fun e w' => e = .returned (.bool (okB n)) ∧ w = w' := by
  by_cases h0 : 0 ≤ n
  · have hd : decide (0 ≤ n) = true := by simpa using h0
    by_cases h1 : n < 1048576
    · go_enter Tryz.func83, Tryz.ntmps83
      go_wp2
      go_ret
      exact ⟨ret_bool (by simp [okB, h0, h1]), rfl⟩
    · go_enter Tryz.func83, Tryz.ntmps83
      go_wp2
      go_ret
      exact ⟨ret_bool (by simp [okB, h0, h1]), rfl⟩
  · have hd : decide (0 ≤ n) = false := by simpa using h0
    go_enter Tryz.func83, Tryz.ntmps83
    go_wp2
    go_ret
    exact ⟨ret_bool (by simp [okB]; omega), rfl⟩
def hasB (l : List Int) (x : Int) : Bool := l.contains x
theorem hasB_at {l : List Int} {k : Nat} {y : Int} (h : l[k]? = some y) : hasB l y = true := by
  simp [hasB, List.mem_of_getElem? h]
theorem hasB_next {l : List Int} {k : Nat} {x y : Int} (h : l[k]? = some y) (h0 : hasB (l.take k) x = false) (hn : (y == x) = false) : hasB (l.take (k + 1)) x = false := by
  rw [take_snoc h]
  simp [hasB] at *
  exact ⟨h0, fun e => hn e.symm⟩
theorem hasB_all {l : List Int} {k : Nat} {x : Int} (hk : ¬ k < l.length) (h0 : hasB (l.take k) x = false) : false = hasB l x := by
  rw [List.take_of_length_le (by omega)] at h0; exact h0.symm
def sameB (a b : List Int) : Bool := decide (a = b)
theorem sameB_at {a b : List Int} {k : Nat} {x y : Int} (hx : a[k]? = some x) (hy : b[k]? = some y) (hn : (x != y) = true) : false = sameB a b := by
  have : a ≠ b := by
    rintro rfl
    rw [hx] at hy
    injection hy with e
    simp [e] at hn
  simp [sameB, this]
theorem same_all {a b : List Int} {k : Nat} (hl : a.length = b.length) (hk : ¬ k < a.length) (h0 : a.take k = b.take k) : true = sameB a b := by
  rw [List.take_of_length_le (by omega), List.take_of_length_le (by omega)] at h0
  simp [sameB, h0]
/-- What Put answers: a list with a number more, in order. -/
def putL (l : List Int) (x : Int) : List Int := if okB x && !hasB l x then l.takeWhile (· < x) ++ x :: l.dropWhile (· < x) else l
theorem putL_no {l : List Int} {x : Int} (h : (okB x && !hasB l x) = false) : putL l x = l := by simp [putL, h]
theorem split_at {l : List Int} {x : Int} {k : Nat} (hk : k ≤ l.length) (h1 : ∀ y ∈ l.take k, y < x) (h2 : ∀ y, l[k]? = some y → ¬ y < x) : l.takeWhile (· < x) = l.take k ∧ l.dropWhile (· < x) = l.drop k := by
  induction l generalizing k with
  | nil => simp
  | cons z t ih =>
    cases k with
    | zero =>
      have := h2 z rfl
      simp [List.takeWhile_cons, List.dropWhile_cons, this]
    | succ k =>
      have hz : z < x := h1 z (by simp)
      have := ih (k := k) (by simpa using hk) (fun y hy => h1 y (by simp [hy])) (fun y hy => h2 y (by simpa using hy))
      simp [List.takeWhile_cons, List.dropWhile_cons, hz, this]
theorem putL_yes {l : List Int} {x : Int} {k : Nat} (h : (okB x && !hasB l x) = true) (hk : k ≤ l.length) (h1 : ∀ y ∈ l.take k, y < x) (h2 : ∀ y, l[k]? = some y → ¬ y < x) :
    putL l x = l.take k ++ [x] ++ l.drop k := by
  obtain ⟨e1, e2⟩ := split_at hk h1 h2
  simp [putL, h, e1, e2]
theorem Ints.drop {w : World} {b off : Nat} {l : List Int} (h : Ints w (some ⟨b, off, none⟩) l) (k : Nat) : Ints w (some ⟨b, off + k, none⟩) (l.drop k) := fun j y hy => by
  rw [List.getElem?_drop] at hy
  obtain ⟨b', off', e, hb, hc⟩ := h (k + j) y hy
  injection e with e
  injection e with e1 e2
  subst e1 e2
  exact ⟨b, off + k, rfl, hb, by rw [Nat.add_assoc]; exact hc⟩
end Go.Proofs.YtbocejiclellfaaGreatDoor

/- Stage 1's text Ref2: what stage 8 wants of it (printed by conv1.py). -/
set_option linter.unusedSimpArgs false
set_option linter.unusedVariables false
set_option maxRecDepth 100000
namespace Go.Proofs.YtbocejiclellfaaGreatDoor
open Go.RowKit

theorem okB_lo {x : Int} (h : okB x = true) : 0 ≤ x ∧ x < 1048576 := by simpa [okB] using h
def PutPost (w : World) (l : List Int) (x : Int) (e : Ending) (w' : World) : Prop := ∃ v', e = .returned v' ∧ OwnI w' w.heap.size v' (putL l x) ∧ Turn [] w w'
def OwnedPost (w : World) (B : Nat) (l : List Int) (e : Ending) (w' : World) : Prop := ∃ v', e = .returned v' ∧ OwnI w' B v' l ∧ Turn [] w w'
end Go.Proofs.YtbocejiclellfaaGreatDoor

/- Stage 1's text Bits: what stage 8 wants of it (printed by conv1.py). -/
set_option linter.unusedSimpArgs false
set_option linter.unusedVariables false
set_option maxRecDepth 100000
namespace Go.Proofs.YtbocejiclellfaaGreatDoor
open Go.RowKit

set_option maxHeartbeats 1000000 in
theorem tz64_walk (x k idx : Nat) (w : World) (hx0 : ((x : Int) == 0) = false)
    (key : IntKind.u64.wrap (bits BinOp.and IntKind.u64 (x : Int) (IntKind.u64.wrap (-(x : Int))) * 285870213051353865) / 288230376151711744 = (idx : Int))
    (hi : idx < 64) (hk : k < 64) (hcell : w.cell? ⟨0, idx, none⟩ = some (.int .u8 k)) :
    Calls Tryz.prog 97 #[.int .u64 x] w fun e w' => e = .returned (.int .i64 k) ∧ w = w' := by
  go_enter Tryz.func97, Tryz.ntmps97
  go_wp2_with (simp only [key])
  go_ret
  exact ⟨rfl, rfl⟩
/-- TrailingZeros64 of a number that isn't 0. -/
theorem tz64_any (x : Nat) (hx : x < 18446744073709551616) (hx0 : x ≠ 0) (w : World) (hT : TabAt 0 Lib.deBruijn64tab w) :
    Calls Tryz.prog 97 #[.int .u64 x] w fun e w' => e = .returned (.int .i64 (Lib.ctz 64 x)) ∧ w = w' := by
  obtain ⟨hlow, hk⟩ := Lib.lowest_bit 64 x hx0 hx
  obtain ⟨hi, htab⟩ := Lib.deBruijn64_at _ hk
  have hcell := hT _ hi
  rw [htab] at hcell
  exact tz64_walk x _ _ w (by simp; omega) (tz64_key x _ hx hx0 hlow) hi hk hcell
theorem wrap_u64_nat (n : Nat) (h : n < 18446744073709551616) : IntKind.u64.wrap (n : Int) = (n : Int) := by rw [IntKind.wrap_u64]; omega
end Go.Proofs.YtbocejiclellfaaGreatDoor

/- Stage 1's text Row: what stage 8 wants of it (printed by conv1.py). -/
set_option linter.unusedSimpArgs false
set_option linter.unusedVariables false
set_option maxRecDepth 100000
namespace Go.Proofs.YtbocejiclellfaaGreatDoor
open Go.RowKit

structure Row where
  at_ : Nat
  w0 : Nat
  w1 : Nat
  w2 : Nat
  w3 : Nat
def Row.cells (r : Row) : List Value := [.int .i64 r.at_, .int .u64 r.w0, .int .u64 r.w1, .int .u64 r.w2, .int .u64 r.w3]
def Row.val (r : Row) : Value := .agg #[.int .i64 r.at_, .int .u64 r.w0, .int .u64 r.w1, .int .u64 r.w2, .int .u64 r.w3]
/-- Its place and its words lie in their ranges. -/
structure Row.Fits (r : Row) : Prop where
  a : r.at_ < 4096
  b0 : r.w0 < 18446744073709551616
  b1 : r.w1 < 18446744073709551616
  b2 : r.w2 < 18446744073709551616
  b3 : r.w3 < 18446744073709551616
theorem idx44_0 (v0 v1 v2 v3 : Nat) (w : World) : (Instr.index 137 (.agg #[.int .u64 v0, .int .u64 v1, .int .u64 v2, .int .u64 v3]) (.int .i64 0)).run Tryz.prog w = .ok (.int .u64 v0) w := by kernel_rfl
theorem idx44_1 (v0 v1 v2 v3 : Nat) (w : World) : (Instr.index 137 (.agg #[.int .u64 v0, .int .u64 v1, .int .u64 v2, .int .u64 v3]) (.int .i64 1)).run Tryz.prog w = .ok (.int .u64 v1) w := by kernel_rfl
theorem idx44_2 (v0 v1 v2 v3 : Nat) (w : World) : (Instr.index 137 (.agg #[.int .u64 v0, .int .u64 v1, .int .u64 v2, .int .u64 v3]) (.int .i64 2)).run Tryz.prog w = .ok (.int .u64 v2) w := by kernel_rfl
theorem idx44_3 (v0 v1 v2 v3 : Nat) (w : World) : (Instr.index 137 (.agg #[.int .u64 v0, .int .u64 v1, .int .u64 v2, .int .u64 v3]) (.int .i64 3)).run Tryz.prog w = .ok (.int .u64 v3) w := by kernel_rfl
attribute [local go_sem] idx44_0 idx44_1 idx44_2 idx44_3
theorem popN_le (f x : Nat) : popN f x ≤ f := by
  induction f generalizing x with
  | zero => simp [popN]
  | succ f ih => have := ih (x / 2); simp only [popN]; omega
def Row.count (r : Row) : Nat := popN 64 r.w0 + popN 64 r.w1 + popN 64 r.w2 + popN 64 r.w3
end Go.Proofs.YtbocejiclellfaaGreatDoor

/- Stage 1's text Row2: what stage 8 wants of it (printed by conv1.py). -/
set_option linter.unusedSimpArgs false
set_option linter.unusedVariables false
set_option maxRecDepth 100000
namespace Go.Proofs.YtbocejiclellfaaGreatDoor
open Go.RowKit

attribute [local go_sem] idx44_0 idx44_1 idx44_2 idx44_3
theorem ret_bit {a b c d : Int} (h : a = b) (h' : c = d) : Ending.returned (.tuple #[.int .i64 a, .int .u64 c]) = .returned (.tuple #[.int .i64 b, .int .u64 d]) := by rw [h, h']
theorem pow_lt64 (n : Nat) : 2 ^ (n % 64) < 18446744073709551616 := Nat.lt_of_lt_of_le (Nat.pow_lt_pow_right (by omega) (Nat.mod_lt n (by omega))) (by decide)
theorem wrap_pow (n : Nat) : IntKind.u64.wrap (2 ^ (n % 64)) = ((2 ^ (n % 64) : Nat) : Int) := by
  have h := pow_lt64 n
  rw [show (2 : Int) ^ (n % 64) = ((2 ^ (n % 64) : Nat) : Int) by simp]
  exact wrap_u64_nat _ h
set_option maxHeartbeats 400000 in
theorem bitOf_walk (n : Nat) (w : World) (h : n < 1048576) :
    Calls Tryz.prog 87 #[.int .i64 n] w fun e w' => e = .returned (.tuple #[.int .i64 ((n % 256 / 64 : Nat) : Int), .int .u64 ((2 ^ (n % 64) : Nat) : Int)]) ∧ ∃ q, w' = w.drewN q := by
  go_enter Tryz.func87, Tryz.ntmps87
  go_wp2
  go_quiet (fail)
  go_wp2
  go_ret2
  exact ⟨ret_bit (by omega) (wrap_pow n), nq, rfl⟩
set_option maxHeartbeats 400000 in
theorem cmp_walk (a w0 w1 w2 w3 : Nat) (t : Nat) (w : World) (ha : a < 100000) (ht : t < 100000) :
    Calls Tryz.prog 94 #[.agg #[.int .i64 a, .int .u64 w0, .int .u64 w1, .int .u64 w2, .int .u64 w3], .int .i64 t] w fun e w' => e = .returned (.int .i64 ((a : Int) - t)) ∧ Turn [] w w' := by
  go_enter Tryz.func94, Tryz.ntmps94
  go_wp2
  go_ret
  exact ⟨rfl, Turn.below (by go_grown)⟩
/-- The slice v is of the program's own making (from block B on) and holds the rows rs. -/
def OwnR (w : World) (B : Nat) (v : Value) (rs : List Row) : Prop := w.ownsRow B 139 5 v rs.length (rs.flatMap Row.cells)
theorem OwnR.turn {F : List Nat} {w w' : World} {B : Nat} {v : Value} {rs : List Row} (h : OwnR w B v rs) (t : Turn F w w') (hn : ∀ g, v.ownBlock = some g → g ∉ F) : OwnR w' B v rs := Turn.owns t h hn
theorem OwnR.turn' {w w' : World} {B : Nat} {v : Value} {rs : List Row} (h : OwnR w B v rs) (t : Turn [] w w') : OwnR w' B v rs := Turn.owns t h (by simp)
theorem OwnR.lt {w : World} {B : Nat} {v : Value} {rs : List Row} (h : OwnR w B v rs) : ∀ k, v.ownBlock = some k → B ≤ k ∧ k < w.heap.size := World.ownsRow.lt h
theorem OwnR.mono {w : World} {B B' : Nat} {v : Value} {rs : List Row} (h : OwnR w B v rs) (hB : B' ≤ B) : OwnR w B' v rs := ownsRow_mono h hB
theorem flat_cons (r : Row) (rs : List Row) : (r :: rs).flatMap Row.cells = .int .i64 r.at_ :: .int .u64 r.w0 :: .int .u64 r.w1 :: .int .u64 r.w2 :: .int .u64 r.w3 :: rs.flatMap Row.cells := rfl
theorem flat_length (rs : List Row) : (rs.flatMap Row.cells).length = rs.length * 5 := by
  induction rs with
  | nil => rfl
  | cons r t ih => rw [flat_cons]; simp only [List.length_cons, ih]; omega
theorem flat_get {rs : List Row} {i : Nat} {r : Row} (h : rs[i]? = some r) (j : Nat) (hj : j < 5) : (rs.flatMap Row.cells)[i * 5 + j]? = r.cells[j]? := by
  induction rs generalizing i with
  | nil => simp at h
  | cons s t ih =>
    cases i with
    | zero =>
      simp at h
      subst h
      rw [flat_cons]
      match j, hj with
      | 0, _ => rfl
      | 1, _ => rfl
      | 2, _ => rfl
      | 3, _ => rfl
      | 4, _ => rfl
    | succ i =>
      rw [flat_cons, show (i + 1) * 5 + j = (i * 5 + j) + 5 by omega]
      simp only [List.getElem?_cons_succ]
      exact ih (by simpa using h)
/-- The cells of a row among the rows. -/
theorem OwnR.cells {w : World} {B g n cap : Nat} {rs : List Row} (h : OwnR w B (.slice (some ⟨g, 0, none⟩) n cap) rs) (hn : n = rs.length) {i : Nat} {r : Row} (hr : rs[i]? = some r) :
    w.cell? ⟨g, i * 5, none⟩ = some (.int .i64 r.at_) ∧ w.cell? ⟨g, i * 5 + 1, none⟩ = some (.int .u64 r.w0) ∧ w.cell? ⟨g, i * 5 + 2, none⟩ = some (.int .u64 r.w1) ∧ w.cell? ⟨g, i * 5 + 3, none⟩ = some (.int .u64 r.w2) ∧ w.cell? ⟨g, i * 5 + 4, none⟩ = some (.int .u64 r.w3) := by
  subst hn
  have hi : i < rs.length := (List.getElem?_eq_some_iff.1 hr).1
  have c := fun j (hj : j < 5) => (World.ownsRow.cellAt (cap := cap) h (i * 5 + j) (by omega)).trans (flat_get hr j hj)
  exact ⟨c 0 (by omega), c 1 (by omega), c 2 (by omega), c 3 (by omega), c 4 (by omega)⟩
theorem OwnR.frozen {w : World} {B g n cap : Nat} {rs : List Row} (h : OwnR w B (.slice (some ⟨g, 0, none⟩) n cap) rs) (hn : n = rs.length) (j : Nat) : w.frozen? ⟨g, j, none⟩ = false := by
  subst hn
  exact World.ownsRow.frozenAt (cap := cap) h j
theorem Turn.stored {F : List Nat} {w w' : World} {g : Nat} (h : w.grownBy w' (some g)) (hg : g ∈ F) : Turn F w w' := (Turn.refl F w).grown h (fun k hk => .inl (by injection hk with e; exact e ▸ hg))
end Go.Proofs.YtbocejiclellfaaGreatDoor

/- Stage 1's text Find: what stage 8 wants of it (printed by conv1.py). -/
set_option linter.unusedSimpArgs false
set_option linter.unusedVariables false
set_option maxRecDepth 100000
namespace Go.Proofs.YtbocejiclellfaaGreatDoor
open Go.RowKit

/-- The slice at A reads as the rows rs. -/
def RowsAt (w : World) (A : Option Addr) (rs : List Row) : Prop :=
  ∀ i r, rs[i]? = some r → ∃ g, A = some ⟨g, 0, none⟩ ∧ g < w.heap.size ∧ w.cell? ⟨g, i * 5, none⟩ = some (.int .i64 r.at_) ∧ w.cell? ⟨g, i * 5 + 1, none⟩ = some (.int .u64 r.w0) ∧
    w.cell? ⟨g, i * 5 + 2, none⟩ = some (.int .u64 r.w1) ∧ w.cell? ⟨g, i * 5 + 3, none⟩ = some (.int .u64 r.w2) ∧ w.cell? ⟨g, i * 5 + 4, none⟩ = some (.int .u64 r.w3)
theorem RowsAt.turn {F : List Nat} {w w' : World} {A : Option Addr} {rs : List Row} (h : RowsAt w A rs) (t : Turn F w w') (hn : ∀ g, A = some ⟨g, 0, none⟩ → g ∉ F) : RowsAt w' A rs := fun i r hr => by
  obtain ⟨g, e, hg, c⟩ := h i r hr
  have k := fun o => t.cell (p := ⟨g, o, none⟩) hg (hn g e)
  exact ⟨g, e, Nat.lt_of_lt_of_le hg t.size, (k _).trans c.1, (k _).trans c.2.1, (k _).trans c.2.2.1, (k _).trans c.2.2.2.1, (k _).trans c.2.2.2.2⟩
theorem RowsAt.turn' {w w' : World} {A : Option Addr} {rs : List Row} (h : RowsAt w A rs) (t : Turn [] w w') : RowsAt w' A rs := h.turn t (by simp)
theorem OwnR.form {w : World} {B : Nat} {v : Value} {rs : List Row} (h : OwnR w B v rs) : ∃ A c, v = .slice A rs.length c ∧ RowsAt w A rs ∧ rs.length ≤ c := by
  rcases h.2 with ⟨rfl, hn⟩ | ⟨g, cap, cur, rfl, hb, hg, hnc, _, _, ht⟩
  · refine ⟨none, 0, by rw [hn], fun k y hy => ?_, by omega⟩
    rw [List.eq_nil_of_length_eq_zero hn] at hy
    simp at hy
  · exact ⟨_, cap, rfl, fun k y hy => ⟨g, rfl, (Array.getElem?_eq_some_iff.1 hg).1, OwnR.cells h rfl hy⟩, hnc⟩
/-- Where the row of place t stands, or would stand. -/
structure Cut (rs : List Row) (t k : Nat) : Prop where
  le : k ≤ rs.length
  lo : ∀ i r, i < k → rs[i]? = some r → r.at_ < t
  hi : ∀ i r, k ≤ i → rs[i]? = some r → t ≤ r.at_
def hit (rs : List Row) (t k : Nat) : Bool := match rs[k]? with
  | some r => decide (r.at_ = t)
  | none => false
theorem hit_some {rs : List Row} {t k : Nat} {r : Row} (h : rs[k]? = some r) : hit rs t k = decide (r.at_ = t) := by simp [hit, h]
theorem hit_none {rs : List Row} {t k : Nat} (h : ¬ k < rs.length) : hit rs t k = false := by simp [hit, List.getElem?_eq_none (Nat.le_of_not_lt h)]
def Asc (rs : List Row) : Prop := rs.Pairwise (fun r s => r.at_ < s.at_)
theorem Asc.lt {rs : List Row} (h : Asc rs) {i j : Nat} {r s : Row} (hi : rs[i]? = some r) (hj : rs[j]? = some s) (hij : i < j) : r.at_ < s.at_ := by
  obtain ⟨h1, rfl⟩ := List.getElem?_eq_some_iff.1 hi
  obtain ⟨h2, rfl⟩ := List.getElem?_eq_some_iff.1 hj
  exact List.pairwise_iff_getElem.1 h i j h1 h2 hij
def FoundPost (rs : List Row) (t : Nat) (w : World) (e : Ending) (w' : World) : Prop := ∃ k : Nat, Cut rs t k ∧ e = .returned (.tuple #[.int .i64 k, .bool (hit rs t k)]) ∧ Turn [] w w'
theorem ret_ib {a b : Int} {c d : Bool} (h : a = b) (h' : c = d) : Ending.returned (.tuple #[.int .i64 a, .bool c]) = .returned (.tuple #[.int .i64 b, .bool d]) := by rw [h, h']
set_option maxHeartbeats 1000000 in
theorem search_any (A : Option Addr) (n c : Nat) (rs : List Row) (t : Nat) (w : World) (h : RowsAt w A rs) (hn : n = rs.length) (hl : n ≤ 100000) (ha : Asc rs) (hf : ∀ r ∈ rs, r.Fits) (ht : t < 100000) :
    Calls Tryz.prog 93 #[.slice A n c, .int .i64 t, .func (.func 94) #[] #[]] w (FoundPost rs t w) := by
  have HN := Lib.hid hn
  have H := Lib.hid h
  have HA := Lib.hid ha
  have HF := Lib.hid hf
  clear hn h ha hf
  go_enter Tryz.func93, Tryz.ntmps93
  go_wp2
  go_loopw [9, 10] (fun p q wr => ∃ i j : Nat, i ≤ j ∧ j ≤ n ∧ p = .int .i64 i ∧ q = .int .i64 j ∧ (∀ k r, k < i → rs[k]? = some r → r.at_ < t) ∧ (∀ k r, j ≤ k → rs[k]? = some r → t ≤ r.at_) ∧ Turn [] w wr) (fun p q _ => (intOf q - intOf p).toNat)
  case atStart => exact ⟨0, n, by omega, by omega, rfl, rfl, fun k r hk => by omega, fun k r hk hr => by
    have := (List.getElem?_eq_some_iff.1 hr).1
    have := HN.out
    omega, Turn.refl _ _⟩
  case round =>
    obtain ⟨i, j, hij, hj, rfl, rfl, h1, h2, ht1⟩ := hrel
    have H1 := Lib.hid h1
    have H2 := Lib.hid h2
    have HT := Lib.hid ht1
    clear h1 h2 ht1
    by_cases hlt : i < j
    · obtain ⟨m, hm⟩ : ∃ m, m = (i + j) / 2 := ⟨_, rfl⟩
      obtain ⟨r, hr⟩ := at_lt (show m < rs.length by have := HN.out; omega)
      obtain ⟨g, rfl, hg, c0, c1, c2, c3, c4⟩ := (H.out.turn' HT.out) m r hr
      have hfit := HF.out r (List.mem_of_getElem? hr)
      have hra := hfit.a
      have HR := Lib.hid hr
      have hm1 : i ≤ m := by omega
      have hm2 : m < j := by omega
      have HM := Lib.hid hm
      have hmi : ((i : Int) + (j : Int)) / 2 = (m : Int) := by omega
      clear hr hm hfit
      by_cases hc : r.at_ < t
      · have hd : decide ((r.at_ : Int) - (t : Int) < 0) = true := by simp; omega
        go_wp2_with (go_at_call 94; refine (cmp_walk r.at_ r.w0 r.w1 r.w2 r.w3 t _ (by omega) (by omega)).mono ?_; rintro e w' ⟨rfl, ht2⟩; have HT2 := Lib.hid ht2; clear ht2)
        go_roundw
        case rel => exact ⟨m + 1, j, by omega, by omega, by go_num, rfl, fun k s hk hs => by
          rcases Nat.lt_or_ge k m with h3 | h3
          · exact Nat.lt_trans (HA.out.lt hs HR.out h3) hc
          · have e : k = m := by omega
            subst e
            have := HR.out.symm.trans hs
            injection this with e
            subst e
            exact hc, H2.out, HT.out.trans' HT2.out⟩
        case measure => simp [intOf]; omega
      · have hd : decide ((r.at_ : Int) - (t : Int) < 0) = false := by simp; omega
        go_wp2_with (go_at_call 94; refine (cmp_walk r.at_ r.w0 r.w1 r.w2 r.w3 t _ (by omega) (by omega)).mono ?_; rintro e w' ⟨rfl, ht2⟩; have HT2 := Lib.hid ht2; clear ht2)
        go_roundw
        case rel => exact ⟨i, m, by omega, by omega, rfl, rfl, H1.out, fun k s hk hs => by
          rcases Nat.lt_or_ge m k with h3 | h3
          · have := HA.out.lt HR.out hs h3
            omega
          · have e : k = m := by omega
            subst e
            have := HR.out.symm.trans hs
            injection this with e
            subst e
            omega, HT.out.trans' HT2.out⟩
        case measure => simp [intOf]; omega
    · obtain rfl : i = j := by omega
      have hcut : Cut rs t i := ⟨by have := HN.out; omega, H1.out, H2.out⟩
      have HC := Lib.hid hcut
      clear hcut
      by_cases hin : i < n
      · obtain ⟨r, hr⟩ := at_lt (show i < rs.length by have := HN.out; omega)
        obtain ⟨g, rfl, hg, c0, c1, c2, c3, c4⟩ := (H.out.turn' HT.out) i r hr
        have hfit := HF.out r (List.mem_of_getElem? hr)
        have hra := hfit.a
        have HR := Lib.hid hr
        have hdi : decide ((i : Int) < (n : Int)) = true := by simp; omega
        clear hr hfit
        cases hq : ((r.at_ : Int) - (t : Int) == 0)
        all_goals
          go_wp2_with (go_at_call 94; refine (cmp_walk r.at_ r.w0 r.w1 r.w2 r.w3 t _ (by omega) (by omega)).mono ?_; rintro e w' ⟨rfl, ht2⟩; have HT2 := Lib.hid ht2; clear ht2)
          go_ret2
          refine ⟨i, HC.out, ret_ib rfl ?_, HT.out.trans' HT2.out⟩
          rw [hit_some HR.out]
          simp at hq ⊢
          omega
      · have hdi : decide ((i : Int) < (n : Int)) = false := by simp; omega
        go_wp2
        go_ret2
        refine ⟨i, HC.out, ret_ib rfl ?_, HT.out⟩
        rw [hit_none (by have := HN.out; omega)]
end Go.Proofs.YtbocejiclellfaaGreatDoor

/- Stage 1's text Set: what stage 8 wants of it (printed by conv1.py). -/
set_option linter.unusedSimpArgs false
set_option linter.unusedVariables false
set_option maxRecDepth 100000
namespace Go.Proofs.YtbocejiclellfaaGreatDoor
open Go.RowKit

def total (rs : List Row) : Nat := (rs.map Row.count).sum
/-- Rows as a set keeps them: rising, none empty, all in their ranges. -/
structure Ok (rs : List Row) : Prop where
  asc : Asc rs
  fits : ∀ r ∈ rs, r.Fits
  some_ : ∀ r ∈ rs, 0 < r.count
theorem asc_len {rs : List Row} (h : Asc rs) (lo : Nat) (hlo : ∀ r ∈ rs, lo ≤ r.at_) (hf : ∀ r ∈ rs, r.at_ < 4096) : rs.length + lo ≤ 4096 ∨ rs = [] := by
  induction rs generalizing lo with
  | nil => exact .inr rfl
  | cons r t ih =>
    left
    have h1 := List.pairwise_cons.1 h
    have hr := hf r (by simp)
    have hl := hlo r (by simp)
    rcases ih h1.2 (r.at_ + 1) (fun s hs => h1.1 s hs) (fun s hs => hf s (by simp [hs])) with h2 | h2
    · simp only [List.length_cons]; omega
    · subst h2; simp; omega
theorem Ok.len {rs : List Row} (h : Ok rs) : rs.length ≤ 4096 := by
  rcases asc_len h.asc 0 (fun _ _ => Nat.zero_le _) (fun r hr => (h.fits r hr).a) with h1 | h1
  · omega
  · subst h1; simp
theorem Row.count_le (r : Row) : r.count ≤ 256 := by
  have h0 := popN_le 64 r.w0
  have h1 := popN_le 64 r.w1
  have h2 := popN_le 64 r.w2
  have h3 := popN_le 64 r.w3
  unfold Row.count; omega
theorem total_le (rs : List Row) : total rs ≤ rs.length * 256 := by
  induction rs with
  | nil => simp [total]
  | cons r t ih =>
    have := r.count_le
    simp only [total, List.map_cons, List.sum_cons, List.length_cons] at *
    omega
theorem Ok.total {rs : List Row} (h : Ok rs) : total rs ≤ 1048576 := by
  have h1 := total_le rs
  have h2 := h.len
  omega
/-- Block b is a set whose slice is v and whose rows are rs. -/
structure SetAt (w : World) (b : Nat) (v : Value) (rs : List Row) : Prop where
  blk : w.heap[b]? = some (.cells #[v, .int .i64 (total rs)] 133 (0, 0))
  rows : OwnR w 0 v rs
  ok : Ok rs
/-- The pointer p is nil, which stands for no rows, or points to a set. -/
def SetV (w : World) (p v : Value) (rs : List Row) : Prop := (p = .pointer none ∧ v = .slice none 0 0 ∧ rs = []) ∨ ∃ b, p = .pointer (some ⟨b, 0, none⟩) ∧ SetAt w b v rs
theorem SetAt.lt {w : World} {b : Nat} {v : Value} {rs : List Row} (h : SetAt w b v rs) : b < w.heap.size := (Array.getElem?_eq_some_iff.1 h.blk).1
theorem SetAt.ne {w : World} {b : Nat} {v : Value} {rs : List Row} (h : SetAt w b v rs) : v.ownBlock ≠ some b := by
  intro e
  rcases h.rows.2 with ⟨rfl, _⟩ | ⟨g, cap, cur, rfl, _, hg, _⟩
  · simp [Value.ownBlock] at e
  · simp [Value.ownBlock] at e
    subst e
    rw [h.blk] at hg
    simp at hg
theorem SetAt.turn {F : List Nat} {w w' : World} {b : Nat} {v : Value} {rs : List Row} (h : SetAt w b v rs) (t : Turn F w w') (hb : b ∉ F) (hv : ∀ g, v.ownBlock = some g → g ∉ F) : SetAt w' b v rs :=
  ⟨t.heap h.blk hb, h.rows.turn t hv, h.ok⟩
theorem SetAt.turn' {w w' : World} {b : Nat} {v : Value} {rs : List Row} (h : SetAt w b v rs) (t : Turn [] w w') : SetAt w' b v rs := h.turn t (by simp) (by simp)
theorem SetV.turn' {w w' : World} {p v : Value} {rs : List Row} (h : SetV w p v rs) (t : Turn [] w w') : SetV w' p v rs := by
  rcases h with h | ⟨b, e, h⟩
  · exact .inl h
  · exact .inr ⟨b, e, h.turn' t⟩
theorem Ok.nil : Ok [] := ⟨List.Pairwise.nil, by simp, by simp⟩
theorem SetV.ok {w : World} {p v : Value} {rs : List Row} (h : SetV w p v rs) : Ok rs := by
  rcases h with ⟨_, _, rfl⟩ | ⟨b, _, h⟩
  · exact Ok.nil
  · exact h.ok
theorem SetV.form {w : World} {p v : Value} {rs : List Row} (h : SetV w p v rs) : ∃ A c, v = .slice A rs.length c ∧ RowsAt w A rs ∧ rs.length ≤ c := by
  rcases h with ⟨_, rfl, rfl⟩ | ⟨b, _, h⟩
  · exact ⟨none, 0, rfl, fun i r hr => by simp at hr, by simp⟩
  · exact h.rows.form
set_option maxHeartbeats 400000 in
theorem all_any (p v : Value) (rs : List Row) (w : World) (h : SetV w p v rs) : Calls Tryz.prog 90 #[p] w fun e w' => e = .returned v ∧ w = w' := by
  obtain ⟨A, c, hv, _, _⟩ := h.form
  rcases h with ⟨rfl, rfl, _⟩ | ⟨b, rfl, h⟩
  · go_enter Tryz.func90, Tryz.ntmps90
    go_wp2
    go_ret
    exact ⟨rfl, rfl⟩
  · subst hv
    have hc : w.cell? ⟨b, 0, none⟩ = some (.slice A rs.length c) := cell_of_row w b 0 _ 133 (0, 0) h.blk
    clear h
    go_enter Tryz.func90, Tryz.ntmps90
    go_wp2
    go_ret
    exact ⟨rfl, rfl⟩
set_option maxHeartbeats 400000 in
theorem len_any (p v : Value) (rs : List Row) (w : World) (h : SetV w p v rs) : Calls Tryz.prog 89 #[p] w fun e w' => e = .returned (.int .i64 (total rs)) ∧ w = w' := by
  rcases h with ⟨rfl, rfl, rfl⟩ | ⟨b, rfl, h⟩
  · go_enter Tryz.func89, Tryz.ntmps89
    go_wp2
    go_ret
    exact ⟨rfl, rfl⟩
  · have hc : w.cell? ⟨b, 1, none⟩ = some (.int .i64 (total rs)) := cell_of_row w b 1 _ 133 (0, 0) h.blk
    clear h
    generalize total rs = n at *
    go_enter Tryz.func89, Tryz.ntmps89
    go_wp2
    go_ret
    exact ⟨rfl, rfl⟩
set_option maxHeartbeats 400000 in
theorem find_any (p v : Value) (rs : List Row) (t : Nat) (w : World) (h : SetV w p v rs) (ht : t < 100000) : Calls Tryz.prog 85 #[p, .int .i64 t] w (FoundPost rs t w) := by
  obtain ⟨A, c, rfl, hrow, hc⟩ := h.form
  have hok := h.ok
  have hlen := hok.len
  have H := Lib.hid h
  have HR := Lib.hid hrow
  have HO := Lib.hid hok
  clear h hrow hok
  generalize hn : rs.length = n at *
  have HN := Lib.hid hn
  clear hn
  go_enter Tryz.func85, Tryz.ntmps85
  go_wp2_with (first
    | (go_at_call 90; refine (all_any p _ rs _ H.out).mono ?_; rintro e w' ⟨rfl, rfl⟩)
    | (go_at_call 93; refine (search_any A n c rs t _ HR.out HN.out.symm (by omega) HO.out.asc HO.out.fits ht).mono ?_; rintro e w' ⟨k, hk, rfl, htt⟩))
  go_ret2
  exact ⟨k, hk, rfl, htt⟩
end Go.Proofs.YtbocejiclellfaaGreatDoor

/- Stage 1's text Set2: what stage 8 wants of it (printed by conv1.py). -/
set_option linter.unusedSimpArgs false
set_option linter.unusedVariables false
set_option maxRecDepth 100000
namespace Go.Proofs.YtbocejiclellfaaGreatDoor
open Go.RowKit

attribute [local go_sem] idx44_0 idx44_1 idx44_2 idx44_3
/-- The row of place t; an empty one, if there is none. -/
def rowOf (rs : List Row) (t : Nat) : Row := match rs.find? (fun r => r.at_ == t) with
  | some r => r
  | none => ⟨t, 0, 0, 0, 0⟩
theorem find_at {rs : List Row} {t k : Nat} {r : Row} (hc : Cut rs t k) (hr : rs[k]? = some r) (he : r.at_ = t) : rs.find? (fun r => r.at_ == t) = some r := by
  induction rs generalizing k with
  | nil => simp at hr
  | cons s l ih =>
    cases k with
    | zero =>
      simp at hr
      subst hr
      simp [List.find?_cons, he]
    | succ k =>
      have hs := hc.lo 0 s (by omega) rfl
      rw [List.find?_cons]
      simp only [show (s.at_ == t) = false by simp; omega]
      exact ih (k := k) ⟨by have := hc.le; simp at this; omega, fun i q hi hq => hc.lo (i + 1) q (by omega) (by simpa using hq), fun i q hi hq => hc.hi (i + 1) q (by omega) (by simpa using hq)⟩ (by simpa using hr)
theorem rowOf_hit {rs : List Row} {t k : Nat} {r : Row} (hc : Cut rs t k) (hr : rs[k]? = some r) (he : r.at_ = t) : rowOf rs t = r := by simp [rowOf, find_at hc hr he]
theorem no_row {rs : List Row} {t k : Nat} (hc : Cut rs t k) (ha : Asc rs) (hm : hit rs t k = false) : ∀ r ∈ rs, r.at_ ≠ t := by
  intro r hr e
  obtain ⟨i, hi⟩ := List.getElem?_of_mem hr
  rcases Nat.lt_or_ge i k with h | h
  · have := hc.lo i r h hi
    omega
  · rcases Nat.lt_or_ge k i with h2 | h2
    · obtain ⟨s, hs⟩ := at_lt (show k < rs.length by have := (List.getElem?_eq_some_iff.1 hi).1; omega)
      have h3 := ha.lt hs hi h2
      have h4 := hc.hi k s (by omega) hs
      omega
    · have e2 : i = k := by omega
      subst e2
      rw [hit_some hi] at hm
      simp at hm
      exact hm e
theorem rowOf_miss {rs : List Row} {t k : Nat} (hc : Cut rs t k) (ha : Asc rs) (hm : hit rs t k = false) : rowOf rs t = ⟨t, 0, 0, 0, 0⟩ := by
  have : rs.find? (fun r => r.at_ == t) = none := by
    rw [List.find?_eq_none]
    intro r hr
    simpa using no_row hc ha hm r hr
  simp [rowOf, this]
theorem hit_true {rs : List Row} {t k : Nat} (h : hit rs t k = true) : ∃ r, rs[k]? = some r ∧ r.at_ = t := by
  unfold hit at h
  split at h
  · rename_i r hr
    exact ⟨r, hr, by simpa using h⟩
  · cases h
theorem five {w : World} {b : Nat} {x0 x1 x2 x3 x4 : Value} (h : w.heap[b]? = some (.cells #[x0, x1, x2, x3, x4] 139 (0, 0))) :
    (w.cell? ⟨b, 0, none⟩ = some x0 ∧ w.cell? ⟨b, 1, none⟩ = some x1 ∧ w.cell? ⟨b, 2, none⟩ = some x2 ∧ w.cell? ⟨b, 3, none⟩ = some x3 ∧ w.cell? ⟨b, 4, none⟩ = some x4) ∧
    (w.frozen? ⟨b, 0, none⟩ = false ∧ w.frozen? ⟨b, 1, none⟩ = false ∧ w.frozen? ⟨b, 2, none⟩ = false ∧ w.frozen? ⟨b, 3, none⟩ = false ∧ w.frozen? ⟨b, 4, none⟩ = false) :=
  ⟨⟨cell_of_row w b 0 _ 139 (0, 0) h, cell_of_row w b 1 _ 139 (0, 0) h, cell_of_row w b 2 _ 139 (0, 0) h, cell_of_row w b 3 _ 139 (0, 0) h, cell_of_row w b 4 _ 139 (0, 0) h⟩,
   ⟨frozen_of_row w b 0 _ 139 h, frozen_of_row w b 1 _ 139 h, frozen_of_row w b 2 _ 139 h, frozen_of_row w b 3 _ 139 h, frozen_of_row w b 4 _ 139 h⟩⟩
set_option maxHeartbeats 1000000 in
theorem rowAt_any (p v : Value) (rs : List Row) (t : Nat) (w : World) (h : SetV w p v rs) (ht : t < 100000) :
    Calls Tryz.prog 92 #[p, .int .i64 t] w fun e w' => e = .returned (rowOf rs t).val ∧ Turn [] w w' := by
  obtain ⟨A, c, rfl, hrow, hc⟩ := h.form
  have hok := h.ok
  have hlen := hok.len
  have H := Lib.hid h
  have HR := Lib.hid hrow
  have HO := Lib.hid hok
  clear h hrow hok
  go_enter Tryz.func92, Tryz.ntmps92
  go_wp2_with fail
  refine (find_any p _ rs t _ (H.out.turn' ((Turn.refl _ _).alloc _)) ht).mono ?_
  rintro e w1 ⟨k, hk, rfl, htt⟩
  have HK := Lib.hid hk
  have hT : Turn [] w w1 := ((Turn.refl [] w).alloc _).trans' htt
  obtain ⟨⟨d0, d1, d2, d3, d4⟩, ⟨f0, f1, f2, f3, f4⟩⟩ := five (htt.heap (heap_alloc_new w _) (by simp))
  have HT := Lib.hid hT
  have hlt : w.heap.size < w1.heap.size := by have := htt.size; simp at this; omega
  clear hk htt hT
  cases hh : hit rs t k
  · have HM := Lib.hid (rowOf_miss HK.out HO.out.asc hh)
    have HH := Lib.hid hh
    clear hh
    go_wp2
    refine bodyPost_ret (v := (rowOf rs t).val) ?_ rfl ⟨rfl, ?_⟩
    · rw [HM.out]
      simp [results, Tryz.results92, go_sem, Row.val, d0, d1, d2, d3, d4, f0, f1, f2, f3, f4]
    · repeat (first | exact HT.out | refine Turn.setCell ?_ (.inr (Nat.le_refl _)) _)
  · obtain ⟨r, hr, he⟩ := hit_true hh
    have HM := Lib.hid (rowOf_hit HK.out hr he)
    have hkn : k < rs.length := (List.getElem?_eq_some_iff.1 hr).1
    obtain ⟨g, rfl, hg, c0, c1, c2, c3, c4⟩ := (HR.out.turn' HT.out) k r hr
    have hs : ∃ b, p = .pointer (some ⟨b, 0, none⟩) ∧ w1.cell? ⟨b, 0, none⟩ = some (.slice (some ⟨g, 0, none⟩) rs.length c) := by
      rcases H.out.turn' HT.out with ⟨_, h1, _⟩ | ⟨b, rfl, h1⟩
      · cases h1
      · exact ⟨b, rfl, cell_of_row w1 b 0 _ 133 (0, 0) h1.blk⟩
    obtain ⟨b, rfl, hcb⟩ := hs
    have HH := Lib.hid hh
    have HE := Lib.hid he
    have HRk := Lib.hid hr
    clear hh he hr
    go_wp2
    refine bodyPost_ret (v := (rowOf rs t).val) ?_ rfl ⟨rfl, ?_⟩
    · rw [HM.out]
      simp [results, Tryz.results92, go_sem, Row.val, d0, d1, d2, d3, d4, f0, f1, f2, f3, f4]
    · repeat (first | exact HT.out | refine Turn.setCell ?_ (.inr (Nat.le_refl _)) _)
def hasRow (rs : List Row) (t : Nat) : Bool := rs.any (fun r => r.at_ == t)
theorem hit_eq {rs : List Row} {t k : Nat} (hc : Cut rs t k) (ha : Asc rs) : hit rs t k = hasRow rs t := by
  cases hh : hit rs t k
  · symm
    rw [hasRow, List.any_eq_false]
    intro r hr
    simpa using no_row hc ha hh r hr
  · obtain ⟨r, hr, he⟩ := hit_true hh
    symm
    rw [hasRow, List.any_eq_true]
    exact ⟨r, List.mem_of_getElem? hr, by simpa using he⟩
end Go.Proofs.YtbocejiclellfaaGreatDoor

/- Stage 1's text Has: what stage 8 wants of it (printed by conv1.py). -/
set_option linter.unusedSimpArgs false
set_option linter.unusedVariables false
set_option maxRecDepth 100000
namespace Go.Proofs.YtbocejiclellfaaGreatDoor
open Go.RowKit

theorem fld46 (a : Nat) (v0 v1 v2 v3 : Nat) (w : World) : (Instr.field 139 (.agg #[.int .i64 a, .int .u64 v0, .int .u64 v1, .int .u64 v2, .int .u64 v3]) 1).run Tryz.prog w = .ok (.agg #[.int .u64 v0, .int .u64 v1, .int .u64 v2, .int .u64 v3]) w := by kernel_rfl
attribute [local go_sem] idx44_0 idx44_1 idx44_2 idx44_3 fld46
def Row.word (r : Row) (i : Nat) : Nat := match i with
  | 0 => r.w0
  | 1 => r.w1
  | 2 => r.w2
  | _ => r.w3
/-- Is the row's bit j set? -/
def Row.bit (r : Row) (j : Nat) : Bool := (r.word (j / 64)).testBit (j % 64)
/-- Have the rows the number? -/
def hasN (rs : List Row) (n : Nat) : Bool := (rowOf rs (n / 256)).bit (n % 256)
theorem and_pow (x n : Nat) (hx : x < 18446744073709551616) : (bits BinOp.and IntKind.u64 (x : Int) ((2 ^ (n % 64) : Nat) : Int) != 0) = x.testBit (n % 64) := by
  rw [u64_and_nat x _ hx (pow_lt64 n)]
  cases hb : x.testBit (n % 64)
  · have h0 : x &&& 2 ^ (n % 64) = 0 := by
      apply Nat.eq_of_testBit_eq
      intro i
      rw [Nat.testBit_and, Nat.testBit_two_pow, Nat.zero_testBit]
      by_cases e : n % 64 = i
      · subst e; simp [hb]
      · simp [e]
    rw [h0]; rfl
  · have h1 : (x &&& 2 ^ (n % 64)).testBit (n % 64) = true := by rw [Nat.testBit_and, Nat.testBit_two_pow]; simp [hb]
    have h0 : x &&& 2 ^ (n % 64) ≠ 0 := by
      intro e
      rw [e, Nat.zero_testBit] at h1
      cases h1
    rw [bne_iff_ne]
    omega
theorem rowOf_fits {rs : List Row} (h : ∀ r ∈ rs, r.Fits) {t : Nat} (ht : t < 4096) : (rowOf rs t).Fits := by
  unfold rowOf
  split
  · rename_i r hr
    exact h r (List.mem_of_find?_eq_some hr)
  · exact ⟨ht, Nat.zero_lt_of_lt (by decide : 1 < 18446744073709551616), Nat.zero_lt_of_lt (by decide : 1 < 18446744073709551616), Nat.zero_lt_of_lt (by decide : 1 < 18446744073709551616), Nat.zero_lt_of_lt (by decide : 1 < 18446744073709551616)⟩
set_option maxHeartbeats 1000000 in
theorem has_in (p v : Value) (rs : List Row) (n : Nat) (w : World) (h : SetV w p v rs) (hn : n < 1048576) : Calls Tryz.prog 84 #[p, .int .i64 n] w fun e w' => e = .returned (.bool (hasN rs n)) ∧ Turn [] w w' := by
  have H := Lib.hid h
  have hok : okB n = true := by simp [okB]; omega
  have HOk := Lib.hid hok
  have hf := rowOf_fits h.ok.fits (show n / 256 < 4096 by omega)
  have hw : hasN rs n = ((rowOf rs (n / 256)).word (n % 256 / 64)).testBit (n % 64) := by
    unfold hasN Row.bit
    rw [show n % 256 % 64 = n % 64 by omega]
  have hr : ∀ W, SetV W p v rs → Calls Tryz.prog 92 #[p, .int .i64 ((n : Int) / 256)] W fun e w' => e = .returned (rowOf rs (n / 256)).val ∧ Turn [] W w' := fun W hW => by
    have := rowAt_any p v rs (n / 256) W hW (by omega)
    rwa [show (((n / 256 : Nat)) : Int) = (n : Int) / 256 by omega] at this
  have HR := Lib.hid hr
  generalize rowOf rs (n / 256) = r at *
  have HW := Lib.hid hw
  obtain ⟨a, w0, w1, w2, w3⟩ := r
  obtain ⟨_, b0, b1, b2, b3⟩ := hf
  simp only at b0 b1 b2 b3
  have HB := Lib.hid (bitOf_walk n)
  have a0 := and_pow w0 n b0
  have a1 := and_pow w1 n b1
  have a2 := and_pow w2 n b2
  have a3 := and_pow w3 n b3
  clear h hok hw hr
  generalize hbit : 2 ^ (n % 64) = bt at *
  have HBT := Lib.hid hbit
  clear hbit
  have hcase : n % 256 / 64 = 0 ∨ n % 256 / 64 = 1 ∨ n % 256 / 64 = 2 ∨ n % 256 / 64 = 3 := by omega
  rcases hcase with hcs | hcs | hcs | hcs
  all_goals
    rw [hcs] at HB HW
    have HCS := Lib.hid hcs
    clear hcs
    go_enter Tryz.func84, Tryz.ntmps84
    go_wp2_with (first
      | (go_at_call 83; refine (mayHold_any n _).mono ?_; rw [HOk.out]; rintro e w' ⟨rfl, rfl⟩)
      | (go_at_call 87; refine (HB.out _ (by omega)).mono ?_; rintro e w' ⟨rfl, q, rfl⟩)
      | (go_at_call 92; refine (HR.out _ (H.out.turn' ((Turn.refl _ _).drewN q))).mono ?_; rintro e w' ⟨rfl, ht⟩; simp only [Row.val]; have HT := Lib.hid ht; clear ht))
    go_ret
    refine ⟨ret_bool ?_, Turn.trans' ((Turn.refl _ _).drewN q) HT.out⟩
    rw [HW.out]
    rfl
end Go.Proofs.YtbocejiclellfaaGreatDoor

/- Stage 1's text Bl: what stage 8 wants of it (printed by conv1.py). -/
set_option linter.unusedSimpArgs false
set_option linter.unusedVariables false
set_option maxRecDepth 100000
namespace Go.Proofs.YtbocejiclellfaaGreatDoor
open Go.RowKit

/-- The places of the set bits of a word, rising. -/
def bitsL (x : Nat) : List Nat := (List.range' 0 64).filter (fun j => x.testBit j)
theorem bit_drop (k m j : Nat) : ((2 ^ k * (2 * m + 1)) &&& (2 ^ k * (2 * m + 1) - 1)).testBit j = ((2 ^ k * (2 * m + 1)).testBit j && decide (j ≠ k)) := by
  have hp : 0 < 2 ^ k := Nat.two_pow_pos k
  have e1 : 2 ^ k * (2 * m + 1) - 1 = 2 ^ k * (2 * m) + (2 ^ k - 1) := by
    rw [Nat.mul_add, Nat.mul_one]; omega
  have e0 : 2 ^ k * (2 * m + 1) = 2 ^ k * (2 * m + 1) + 0 := rfl
  rw [Nat.testBit_and, e1, Nat.testBit_two_pow_mul_add _ (by omega), e0, Nat.testBit_two_pow_mul_add _ hp]
  rcases Nat.lt_trichotomy j k with h | h | h
  · simp [h]
  · subst h; simp
  · obtain ⟨s, rfl⟩ : ∃ s, j = k + (s + 1) := ⟨j - k - 1, by omega⟩
    have hn : ¬ k + (s + 1) < k := by omega
    rw [if_neg hn, if_neg hn, show k + (s + 1) - k = s + 1 by omega, Nat.testBit_succ, Nat.testBit_succ, show (2 * m + 1) / 2 = m by omega, show (2 * m) / 2 = m by omega]
    cases m.testBit s <;> simp
theorem bit_low (k m j : Nat) : (j < k → (2 ^ k * (2 * m + 1)).testBit j = false) ∧ (2 ^ k * (2 * m + 1)).testBit k = true := by
  have hp : 0 < 2 ^ k := Nat.two_pow_pos k
  have e0 : 2 ^ k * (2 * m + 1) = 2 ^ k * (2 * m + 1) + 0 := rfl
  constructor
  · intro h
    rw [e0, Nat.testBit_two_pow_mul_add _ hp]
    simp [h]
  · rw [e0, Nat.testBit_two_pow_mul_add _ hp]
    simp
theorem filter_low (p q : Nat → Bool) (k : Nat) (hq : ∀ j, q j = (p j && decide (j ≠ k))) (hk : p k = true) (n s : Nat) (hs : s ≤ k) (hn : k < s + n) (hlo : ∀ j, j < k → p j = false) :
    (List.range' s n).filter p = k :: (List.range' s n).filter q := by
  induction n generalizing s with
  | zero => omega
  | succ n ih =>
    rw [List.range'_succ]
    by_cases e : s = k
    · subst e
      rw [List.filter_cons, if_pos hk, List.filter_cons, if_neg (by rw [hq]; simp)]
      congr 1
      apply List.filter_congr
      intro j hj
      rw [hq]
      have := List.mem_range'.1 hj
      have hne : j ≠ s := by obtain ⟨i, _, rfl⟩ := this; omega
      simp [hne]
    · have h1 : p s = false := hlo s (by omega)
      rw [List.filter_cons, if_neg (by simp [h1]), List.filter_cons, if_neg (by rw [hq, h1]; simp)]
      exact ih (s + 1) (by omega) (by omega)
/-- The lowest set bit, and the others. -/
theorem bitsL_step (x : Nat) (hx : x < 18446744073709551616) (h0 : x ≠ 0) : bitsL x = Lib.ctz 64 x :: bitsL (x &&& (x - 1)) ∧ x &&& (x - 1) < x ∧ Lib.ctz 64 x < 64 := by
  obtain ⟨m, hm, hk⟩ := Lib.ctzFrom_spec 64 x (by omega) (by simpa using hx)
  have hc : Lib.ctz 64 x = Lib.ctzFrom 64 x := by simp [Lib.ctz, h0]
  generalize Lib.ctzFrom 64 x = k at *
  rw [hc]
  refine ⟨?_, ?_, hk⟩
  · have hl := bit_low k m
    unfold bitsL
    rw [filter_low (fun j => x.testBit j) (fun j => (x &&& (x - 1)).testBit j) k (fun j => by rw [hm]; exact bit_drop k m j) (by rw [hm]; exact (hl 0).2) 64 0 (by omega) (by omega) (fun j hj => by rw [hm]; exact (hl j).1 hj)]
  · have h1 : x &&& (x - 1) ≤ x - 1 := Nat.and_le_right
    omega
theorem bitsL_zero : bitsL 0 = [] := by simp [bitsL]
theorem popN_filter (f s x : Nat) : popN f (x / 2 ^ s) = ((List.range' s f).filter (fun j => x.testBit j)).length := by
  induction f generalizing s with
  | zero => rfl
  | succ f ih =>
    rw [List.range'_succ, List.filter_cons]
    have h := ih (s + 1)
    rw [Nat.pow_succ, ← Nat.div_div_eq_div_mul] at h
    simp only [popN]
    rw [h]
    have ht := Nat.testBit_eq_decide_div_mod_eq (x := x) (i := s)
    rcases Nat.mod_two_eq_zero_or_one (x / 2 ^ s) with e | e
    · rw [e] at ht ⊢
      rw [ht]; simp
    · rw [e] at ht ⊢
      rw [ht]; simp; omega
theorem pop_bits (x : Nat) : popN 64 x = (bitsL x).length := by
  have := popN_filter 64 0 x
  simpa [bitsL] using this
theorem bitsL_length (x : Nat) : (bitsL x).length ≤ 64 := by
  have := List.length_filter_le (fun j => x.testBit j) (List.range' 0 64)
  simpa [bitsL] using this
theorem mem_bitsL (x j : Nat) : j ∈ bitsL x ↔ j < 64 ∧ x.testBit j = true := by
  unfold bitsL
  rw [List.mem_filter, List.mem_range']
  constructor
  · rintro ⟨⟨i, hi, rfl⟩, h⟩
    exact ⟨by omega, h⟩
  · rintro ⟨h, h2⟩
    exact ⟨⟨j, h, by omega⟩, h2⟩
theorem bitsL_sorted (x : Nat) : (bitsL x).Pairwise (· < ·) := by
  unfold bitsL
  exact List.Pairwise.filter _ (List.pairwise_lt_range' (s := 0) (n := 64) 1)
end Go.Proofs.YtbocejiclellfaaGreatDoor
