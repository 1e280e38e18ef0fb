import Derived.Test.YtbocejiclellfaaDoorRows
import Derived.WalkKit
import Derived.WalkSpells
import Derived.WalkLawsBesides
import Derived.Lib.Hide
import Derived.Below
import Derived.Laws.OwnMore
import Derived.Deep.AppendLies
import Derived.Deep.Draws
import Derived.Maps.AppendAt
import Derived.RegionTactic
import Derived.OwnWalk
import Derived.Deep.QuietTactic
import Derived.BigQuiet
import Derived.Laws.Bits64b
import Derived.Lib.TrailingZeros
import Derived.Shelf.Spec.TrailingZeros
import Derived.Handy
import Derived.BigRegion

/- Stage 1's text Kit: what stage 8 wants of it (printed by conv1.py). -/
set_option linter.unusedSimpArgs false
set_option linter.unusedVariables false
set_option maxRecDepth 100000
namespace Go.Proofs.YtbocejiclellfaaDoor
open Go.RowKit

theorem ret_bool {a b : Bool} (h : a = b) : Ending.returned (.bool a) = .returned (.bool b) := by rw [h]
theorem ret_int {k : IntKind} {a b : Int} (h : a = b) : Ending.returned (.int k a) = .returned (.int k b) := by rw [h]
theorem at_lt {α : Type} {l : List α} {k : Nat} (h : k < l.length) : ∃ y, l[k]? = some y := ⟨l[k], List.getElem?_eq_getElem h⟩
theorem take_snoc {α : Type} {l : List α} {k : Nat} {y : α} (h : l[k]? = some y) : l.take (k + 1) = l.take k ++ [y] := by
  obtain ⟨hk, e⟩ := List.getElem?_eq_some_iff.1 h
  rw [List.take_succ_eq_append_getElem hk, e]
/-- From w to w' only the blocks of F, and new ones, have turned. -/
structure Turn (F : List Nat) (w w' : World) : Prop where
  os : w'.os = w.os
  tape : w'.tape = w.tape
  output : w'.output = w.output
  size : w.heap.size ≤ w'.heap.size
  block : ∀ k, k < w.heap.size → k ∉ F → w'.heap[k]? = w.heap[k]?
section
variable {F G : List Nat} {a b c w w' : World}
theorem Turn.refl (F : List Nat) (w : World) : Turn F w w := ⟨rfl, rfl, rfl, Nat.le_refl _, fun _ _ _ => rfl⟩
theorem Turn.trans (h : Turn F a b) (k : Turn G b c) (hG : ∀ g ∈ G, g ∈ F ∨ a.heap.size ≤ g) : Turn F a c :=
  ⟨k.os.trans h.os, k.tape.trans h.tape, k.output.trans h.output, Nat.le_trans h.size k.size, fun i hi hn =>
    (k.block i (Nat.lt_of_lt_of_le hi h.size) (fun hg => by
      rcases hG i hg with h1 | h1
      · exact hn h1
      · omega)).trans (h.block i hi hn)⟩
theorem Turn.trans' (h : Turn F a b) (k : Turn [] b c) : Turn F a c := h.trans k (by simp)
theorem Turn.more (h : Turn F a b) (hs : ∀ g ∈ F, g ∈ G ∨ a.heap.size ≤ g) : Turn G a b :=
  ⟨h.os, h.tape, h.output, h.size, fun i hi hn => h.block i hi (fun hf => by
    rcases hs i hf with h1 | h1
    · exact hn h1
    · omega)⟩
theorem Turn.drew (h : Turn F a w) : Turn F a w.drew := ⟨h.os, h.tape, h.output, h.size, h.block⟩
theorem Turn.drewN (h : Turn F a w) (n : Nat) : Turn F a (w.drewN n) := ⟨h.os, h.tape, h.output, h.size, h.block⟩
theorem Turn.alloc (h : Turn F a w) (o : Obj) : Turn F a (w.alloc o) :=
  h.trans' ⟨rfl, rfl, rfl, by simp, fun k hk _ => Below.heap_alloc _ _ _ hk⟩
theorem Turn.setCell (h : Turn F a w) {p : Addr} (hp : p.block ∈ F ∨ a.heap.size ≤ p.block) (u : Value) : Turn F a (w.setCell p u) :=
  h.trans (G := [p.block]) ⟨rfl, rfl, rfl, by simp [World.setCell], fun k hk hn => Below.heap_setCell _ _ _ _ (by simpa using hn)⟩ (by simpa using hp)
theorem Turn.grown {row : Option Nat} (h : Turn F a w) (hg : w.grownBy w' row) (hr : ∀ k, row = some k → k ∈ F ∨ a.heap.size ≤ k) : Turn F a w' :=
  h.trans (G := row.toList) ⟨hg.os, hg.tape, hg.output, hg.size, fun k hk hn => hg.block k hk (fun e => hn (by simp [← e]))⟩ (by
    intro g hgm
    exact hr g (by simpa using hgm))
theorem Turn.below (h : Below w.heap.size w w') : Turn F w w' := ⟨h.os, h.tape, h.output, h.size, fun k hk _ => h.block k hk⟩
theorem Turn.to_below (h : Turn [] w w') : Below w.heap.size w w' := ⟨h.os, h.tape, h.output, h.size, fun k hk => h.block k hk (by simp)⟩
theorem Turn.cell (h : Turn F w w') {p : Addr} (hp : p.block < w.heap.size) (hn : p.block ∉ F) : w'.cell? p = w.cell? p := World.cell?_of_block (h.block _ hp hn)
theorem Turn.heap (h : Turn F w w') {k : Nat} {o : Obj} (hk : w.heap[k]? = some o) (hn : k ∉ F) : w'.heap[k]? = some o :=
  (h.block k (Array.getElem?_eq_some_iff.1 hk).1 hn).trans hk
theorem Turn.owns {base : Nat} {e : TypeId} {size n : Nat} {v : Value} {xs : List Value} (h : Turn F w w') (ho : w.ownsRow base e size v n xs) (hn : ∀ g, v.ownBlock = some g → g ∉ F) : w'.ownsRow base e size v n xs := by
  refine ⟨ho.1, ?_⟩
  rcases ho.2 with hn | ⟨g, cap, cur, rfl, hb, hgg, rest⟩
  · exact .inl hn
  · exact .inr ⟨g, cap, cur, rfl, hb, h.heap hgg (hn g rfl), rest⟩
end

/-- The slice at A reads as the list l of ints. -/
def Ints (w : World) (A : Option Addr) (l : List Int) : Prop :=
  ∀ k y, l[k]? = some y → ∃ b off, A = some ⟨b, off, none⟩ ∧ b < w.heap.size ∧ w.cell? ⟨b, off + k, none⟩ = some (.int .i64 y)
theorem Ints.nil (w : World) (A : Option Addr) : Ints w A [] := fun k y h => by simp at h
theorem Ints.below {w w' : World} {A : Option Addr} {l : List Int} (h : Ints w A l) (hb : Turn [] w w') : Ints w' A l := fun k y hy => by
  obtain ⟨b, off, e, hlt, hc⟩ := h k y hy
  exact ⟨b, off, e, Nat.lt_of_lt_of_le hlt hb.size, (hb.cell (p := ⟨b, off + k, none⟩) hlt (by simp)).trans hc⟩
/-- The slice v is of the program's own making (from block B on) and holds the list l of ints. -/
def OwnI (w : World) (B : Nat) (v : Value) (l : List Int) : Prop := w.ownsRow B 3 1 v l.length (l.map (Value.int .i64))
theorem OwnI.nil (w : World) (B : Nat) : OwnI w B (.slice none 0 0) [] := World.ownsRow_nil w B 3 1
theorem OwnI.turn {F : List Nat} {w w' : World} {B : Nat} {v : Value} {l : List Int} (h : OwnI w B v l) (t : Turn F w w') (hn : ∀ g, v.ownBlock = some g → g ∉ F) : OwnI w' B v l := Turn.owns t h hn
theorem OwnI.turn' {w w' : World} {B : Nat} {v : Value} {l : List Int} (h : OwnI w B v l) (t : Turn [] w w') : OwnI w' B v l := Turn.owns t h (by simp)
theorem ownsRow_mono {w : World} {B B' : Nat} {e : TypeId} {size n : Nat} {v : Value} {xs : List Value} (h : w.ownsRow B e size v n xs) (hB : B' ≤ B) : w.ownsRow B' e size v n xs := by
  refine ⟨h.1, ?_⟩
  rcases h.2 with hn | ⟨g, cap, cur, rfl, hb, rest⟩
  · exact .inl hn
  · exact .inr ⟨g, cap, cur, rfl, by omega, rest⟩
theorem OwnI.mono {w : World} {B B' : Nat} {v : Value} {l : List Int} (h : OwnI w B v l) (hB : B' ≤ B) : OwnI w B' v l := ownsRow_mono h hB
theorem OwnI.form {w : World} {B : Nat} {v : Value} {l : List Int} (h : OwnI w B v l) : ∃ A c, v = .slice A l.length c ∧ Ints w A l ∧ l.length ≤ c := by
  rcases h.2 with ⟨rfl, hn⟩ | ⟨g, cap, cur, rfl, hb, hg, hnc, _, _, ht⟩
  · refine ⟨none, 0, by rw [hn], fun k y hy => ?_, by omega⟩
    rw [List.eq_nil_of_length_eq_zero hn] at hy
    simp at hy
  · refine ⟨_, cap, rfl, fun k y hy => ⟨g, 0, rfl, (Array.getElem?_eq_some_iff.1 hg).1, ?_⟩, hnc⟩
    have hk : k < l.length := (List.getElem?_eq_some_iff.1 hy).1
    have e := World.ownsRow.cellAt (cap := cap) h k (by omega)
    rw [Nat.zero_add, e]
    simp [hy]
theorem int_info : (Tryd.prog.info? 3).map (fun i => (i.zero, i.size, i.bytes)) = some (some (.int .i64 0), 1, 8) := by kernel_rfl
/-- append of one int, laid in a block of its own just ahead, onto a slice of the program's own. -/
theorem wpList_app1' {ops : Array Oper} {rest : List Oper} {o : Oper} {a : Act} {Q : Exit → Act → World → Prop} (hgd : o.guard = none) (s x : Operand)
    (ho : o.op = .call { callee := .builtin .append, args := #[s, x], argTypes := #[59, 59] })
    (W : World) (B : Nat) (v : Value) (l : List Int) (y : Int) (c : Nat) (hs : a.eval s = v) (hown : OwnI W B v l) (hx : a.eval x = .slice (some ⟨W.heap.size, 0, none⟩) 1 c)
    (hl : l.length ≤ 10000000) (hB : B ≤ W.heap.size)
    (h : ∀ v' w', OwnI w' B v' (l ++ [y]) → Turn v.ownBlock.toList W w' → (v'.ownBlock = v.ownBlock ∨ ∃ g, v'.ownBlock = some g ∧ W.heap.size ≤ g) → wpList Tryd.prog ops Q rest (a.put o.dst v') w') :
    wpList Tryd.prog ops Q (o :: rest) a (W.alloc (.cells #[.int .i64 y] 3)) := by
  obtain ⟨i0, hi0, hz0, hz1, hz2⟩ := info_parts int_info
  refine wpList_append_own_at (W.alloc (.cells #[.int .i64 y] 3)) hgd s x 59 ho B 3 i0 _ 1 8 Tryd.underlying59 hi0 hz0 hz1 hz2 rfl (by omega) v l.length (l.map (Value.int .i64)) hs
    (hown.turn' ((Turn.refl [] W).alloc _)) ⟨W.heap.size, 0, none⟩ 1 c [.int .i64 y] hx rfl ?_ (by simp [Value.oneCell']) (by simp only [maxLen]; omega) (by omega) (by simp; omega) ?_
  · intro j u hj
    match j, hj with
    | 0, hj =>
      simp at hj
      subst hj
      simp [Addr.add]
  · intro v' w' h1 h2 _ h4
    refine h v' w' ?_ (((Turn.refl _ W).alloc _).grown h2 (fun k hk => .inl (by simp [hk]))) ?_
    · unfold OwnI
      rw [List.length_append, List.map_append]
      exact h1
    · rcases h4 with h4 | h4
      · exact .inl h4
      · exact .inr ⟨_, h4, by simp⟩
theorem wpList_app1 {ops : Array Oper} {rest : List Oper} {o : Oper} {a : Act} {Q : Exit → Act → World → Prop} (hgd : o.guard = none) (s x : Operand)
    (ho : o.op = .call { callee := .builtin .append, args := #[s, x], argTypes := #[59, 59] })
    (W : World) (B : Nat) (v : Value) (l : List Int) (y : Int) (c : Nat) (hs : a.eval s = v) (hown : OwnI W B v l) (hx : a.eval x = .slice (some ⟨W.heap.size, 0, none⟩) 1 c)
    (hl : l.length ≤ 1000000) (hB : B ≤ W.heap.size)
    (h : ∀ v' w', OwnI w' B v' (l ++ [y]) → Turn v.ownBlock.toList W w' → (v'.ownBlock = v.ownBlock ∨ ∃ g, v'.ownBlock = some g ∧ W.heap.size ≤ g) → wpList Tryd.prog ops Q rest (a.put o.dst v') w') :
    wpList Tryd.prog ops Q (o :: rest) a (W.alloc (.cells #[.int .i64 y] 3)) := wpList_app1' hgd s x ho W B v l y c hs hown hx (by omega) hB h
theorem run_append_off_nil {P : Program} (w : World) (base : Nat) (t ty e : TypeId) (i : TypeInfo) (size : Nat) (ht : P.underlying t = some (.slice e)) (hi : P.info? e = some i)
    (v : Value) (n : Nat) (xs : List Value) (hown : w.ownsRow base e size v n xs) (c : Nat) : (Builtin.append_ #[t, t] ty #[v, .slice none 0 c]).run P w = .ok v w := by
  rcases hown.2 with ⟨rfl, rfl⟩ | ⟨g, cap, cur, rfl, _, _, hnc, _⟩
  · simp [Builtin.append_, run_underlying ht, sizeOf, typeInfo, hi, Builtin.lenOf, Builtin.firstCells]
  · simp [Builtin.append_, run_underlying ht, sizeOf, typeInfo, hi, Builtin.lenOf, Builtin.firstCells, hnc, storeCells]
/-- append of a whole slice of ints (nil let in) onto a slice of the program's own. -/
theorem wpList_appAll {ops : Array Oper} {rest : List Oper} {o : Oper} {a : Act} {Q : Exit → Act → World → Prop} (hgd : o.guard = none) (s x : Operand)
    (ho : o.op = .call { callee := .builtin .append, args := #[s, x], argTypes := #[59, 59] })
    (W : World) (B : Nat) (v : Value) (l t : List Int) (A : Option Addr) (m c : Nat) (hs : a.eval s = v) (hown : OwnI W B v l) (hx : a.eval x = .slice A m c) (hr : Ints W A t) (hm : m = t.length)
    (hl : l.length ≤ 1000000) (ht : t.length ≤ 1000000) (hB : B ≤ W.heap.size)
    (h : ∀ v' w', OwnI w' B v' (l ++ t) → Turn v.ownBlock.toList W w' → (v'.ownBlock = v.ownBlock ∨ ∃ g, v'.ownBlock = some g ∧ W.heap.size ≤ g) → wpList Tryd.prog ops Q rest (a.put o.dst v') w') :
    wpList Tryd.prog ops Q (o :: rest) a W := by
  subst hm
  obtain ⟨i0, hi0, hz0, hz1, hz2⟩ := info_parts int_info
  by_cases h0 : t = [] ∧ A = none
  · obtain ⟨rfl, rfl⟩ := h0
    refine wpList_plain hgd fun K hK => ?_
    have hrun := run_append_off_nil (P := Tryd.prog) W B 59 o.type 3 i0 1 Tryd.underlying59 hi0 v l.length _ hown c
    unfold Oper.wp execOp
    simp only [ho, resolve, invoke, builtin, Sem.run_bind, Sem.run_pure, Result.andThen_ok, List.map_toArray, List.map_cons, List.map_nil, hs, hx, List.length_nil, hrun]
    exact hK _ _ (h v W (by simpa using hown) (Turn.refl _ _) (.inl rfl))
  · have hA : ∃ ad, A = some ad ∧ ∀ k y, t[k]? = some y → W.cell? (ad.add k) = some (.int .i64 y) := by
      rcases A with _ | ad
      · rcases t with _ | ⟨y, t⟩
        · exact absurd ⟨rfl, rfl⟩ h0
        · obtain ⟨b, off, e, _⟩ := hr 0 y rfl
          cases e
      · refine ⟨ad, rfl, fun k y hy => ?_⟩
        obtain ⟨b, off, e, _, hc⟩ := hr k y hy
        injection e with e
        subst e
        rw [Addr.add_lit]
        exact hc
    obtain ⟨ad, rfl, hcell⟩ := hA
    refine wpList_append_own_at W hgd s x 59 ho B 3 i0 _ 1 8 Tryd.underlying59 hi0 hz0 hz1 hz2 rfl (by omega) v l.length (l.map (Value.int .i64)) hs
      hown ad t.length c (t.map (Value.int .i64)) hx (by simp) ?_ ?_ (by simp only [maxLen]; omega) (by omega) hB ?_
    · intro j u hj
      rw [List.getElem?_map] at hj
      cases hy : t[j]? with
      | none => rw [hy] at hj; cases hj
      | some y =>
        rw [hy] at hj
        injection hj with hj
        subst hj
        exact hcell j y hy
    · intro u hu
      obtain ⟨y, _, rfl⟩ := List.mem_map.1 hu
      rfl
    · intro v' w' h1 h2 _ h4
      refine h v' w' ?_ ((Turn.refl _ W).grown h2 (fun k hk => .inl (by simp [hk]))) ?_
      · unfold OwnI
        rw [List.length_append, List.map_append]
        exact h1
      · rcases h4 with h4 | h4
        · exact .inl h4
        · exact .inr ⟨_, h4, by simp⟩
theorem OwnI.lt {w : World} {B : Nat} {v : Value} {l : List Int} (h : OwnI w B v l) : ∀ k, v.ownBlock = some k → B ≤ k ∧ k < w.heap.size := World.ownsRow.lt h
end Go.Proofs.YtbocejiclellfaaDoor

/- Stage 1's text Pop: what stage 8 wants of it (printed by conv1.py). -/
set_option linter.unusedSimpArgs false
set_option linter.unusedVariables false
set_option maxRecDepth 100000
namespace Go.Proofs.YtbocejiclellfaaDoor
open Go.RowKit

/-- How many of the lowest f bits of x are set. -/
def popN : Nat → Nat → Nat
  | 0, _ => 0
  | f + 1, x => x % 2 + popN f (x / 2)
def val : List Nat → Nat
  | [] => 0
  | b :: t => b + 256 * val t
def s1 (b : Nat) : Nat := ((b / 2) &&& 85) + (b &&& 85)
end Go.Proofs.YtbocejiclellfaaDoor

/- Stage 1's text Ref: what stage 8 wants of it (printed by conv1.py). -/
set_option linter.unusedSimpArgs false
set_option linter.unusedVariables false
set_option maxRecDepth 100000
namespace Go.Proofs.YtbocejiclellfaaDoor
open Go.RowKit

def okB (n : Int) : Bool := decide (0 ≤ n ∧ n < 1048576)
set_option maxHeartbeats 400000 in
theorem mayHold_any (n : Int) (w : World) : Calls Tryd.prog 80 #[.int .i64 n] w fun e w' => e = .returned (.bool (okB n)) ∧ w = w' := by
  by_cases h0 : 0 ≤ n
  · have hd : decide (0 ≤ n) = true := by simpa using h0
    by_cases h1 : n < 1048576
    · go_enter Tryd.func80, Tryd.ntmps80
      go_wp2
      go_ret
      exact ⟨ret_bool (by simp [okB, h0, h1]), rfl⟩
    · go_enter Tryd.func80, Tryd.ntmps80
      go_wp2
      go_ret
      exact ⟨ret_bool (by simp [okB, h0, h1]), rfl⟩
  · have hd : decide (0 ≤ n) = false := by simpa using h0
    go_enter Tryd.func80, Tryd.ntmps80
    go_wp2
    go_ret
    exact ⟨ret_bool (by simp [okB]; omega), rfl⟩
def hasB (l : List Int) (x : Int) : Bool := l.contains x
theorem hasB_at {l : List Int} {k : Nat} {y : Int} (h : l[k]? = some y) : hasB l y = true := by
  simp [hasB, List.mem_of_getElem? h]
theorem hasB_next {l : List Int} {k : Nat} {x y : Int} (h : l[k]? = some y) (h0 : hasB (l.take k) x = false) (hn : (y == x) = false) : hasB (l.take (k + 1)) x = false := by
  rw [take_snoc h]
  simp [hasB] at *
  exact ⟨h0, fun e => hn e.symm⟩
theorem hasB_all {l : List Int} {k : Nat} {x : Int} (hk : ¬ k < l.length) (h0 : hasB (l.take k) x = false) : false = hasB l x := by
  rw [List.take_of_length_le (by omega)] at h0; exact h0.symm
def sameB (a b : List Int) : Bool := decide (a = b)
theorem sameB_at {a b : List Int} {k : Nat} {x y : Int} (hx : a[k]? = some x) (hy : b[k]? = some y) (hn : (x != y) = true) : false = sameB a b := by
  have : a ≠ b := by
    rintro rfl
    rw [hx] at hy
    injection hy with e
    simp [e] at hn
  simp [sameB, this]
theorem same_all {a b : List Int} {k : Nat} (hl : a.length = b.length) (hk : ¬ k < a.length) (h0 : a.take k = b.take k) : true = sameB a b := by
  rw [List.take_of_length_le (by omega), List.take_of_length_le (by omega)] at h0
  simp [sameB, h0]
/-- What Put answers: a list with a number more, in order. -/
def putL (l : List Int) (x : Int) : List Int := if okB x && !hasB l x then l.takeWhile (· < x) ++ x :: l.dropWhile (· < x) else l
theorem putL_no {l : List Int} {x : Int} (h : (okB x && !hasB l x) = false) : putL l x = l := by simp [putL, h]
theorem split_at {l : List Int} {x : Int} {k : Nat} (hk : k ≤ l.length) (h1 : ∀ y ∈ l.take k, y < x) (h2 : ∀ y, l[k]? = some y → ¬ y < x) : l.takeWhile (· < x) = l.take k ∧ l.dropWhile (· < x) = l.drop k := by
  induction l generalizing k with
  | nil => simp
  | cons z t ih =>
    cases k with
    | zero =>
      have := h2 z rfl
      simp [List.takeWhile_cons, List.dropWhile_cons, this]
    | succ k =>
      have hz : z < x := h1 z (by simp)
      have := ih (k := k) (by simpa using hk) (fun y hy => h1 y (by simp [hy])) (fun y hy => h2 y (by simpa using hy))
      simp [List.takeWhile_cons, List.dropWhile_cons, hz, this]
theorem putL_yes {l : List Int} {x : Int} {k : Nat} (h : (okB x && !hasB l x) = true) (hk : k ≤ l.length) (h1 : ∀ y ∈ l.take k, y < x) (h2 : ∀ y, l[k]? = some y → ¬ y < x) :
    putL l x = l.take k ++ [x] ++ l.drop k := by
  obtain ⟨e1, e2⟩ := split_at hk h1 h2
  simp [putL, h, e1, e2]
theorem Ints.drop {w : World} {b off : Nat} {l : List Int} (h : Ints w (some ⟨b, off, none⟩) l) (k : Nat) : Ints w (some ⟨b, off + k, none⟩) (l.drop k) := fun j y hy => by
  rw [List.getElem?_drop] at hy
  obtain ⟨b', off', e, hb, hc⟩ := h (k + j) y hy
  injection e with e
  injection e with e1 e2
  subst e1 e2
  exact ⟨b, off + k, rfl, hb, by rw [Nat.add_assoc]; exact hc⟩
end Go.Proofs.YtbocejiclellfaaDoor

/- Stage 1's text Ref2: what stage 8 wants of it (printed by conv1.py). -/
set_option linter.unusedSimpArgs false
set_option linter.unusedVariables false
set_option maxRecDepth 100000
namespace Go.Proofs.YtbocejiclellfaaDoor
open Go.RowKit

theorem okB_lo {x : Int} (h : okB x = true) : 0 ≤ x ∧ x < 1048576 := by simpa [okB] using h
def PutPost (w : World) (l : List Int) (x : Int) (e : Ending) (w' : World) : Prop := ∃ v', e = .returned v' ∧ OwnI w' w.heap.size v' (putL l x) ∧ Turn [] w w'
def OwnedPost (w : World) (B : Nat) (l : List Int) (e : Ending) (w' : World) : Prop := ∃ v', e = .returned v' ∧ OwnI w' B v' l ∧ Turn [] w w'
end Go.Proofs.YtbocejiclellfaaDoor

/- Stage 1's text Bits: what stage 8 wants of it (printed by conv1.py). -/
set_option linter.unusedSimpArgs false
set_option linter.unusedVariables false
set_option maxRecDepth 100000
namespace Go.Proofs.YtbocejiclellfaaDoor
open Go.RowKit

set_option maxHeartbeats 1000000 in
theorem tz64_walk (x k idx : Nat) (w : World) (hx0 : ((x : Int) == 0) = false)
    (key : IntKind.u64.wrap (bits BinOp.and IntKind.u64 (x : Int) (IntKind.u64.wrap (-(x : Int))) * 285870213051353865) / 288230376151711744 = (idx : Int))
    (hi : idx < 64) (hk : k < 64) (hcell : w.cell? ⟨0, idx, none⟩ = some (.int .u8 k)) :
    Calls Tryd.prog 94 #[.int .u64 x] w fun e w' => e = .returned (.int .i64 k) ∧ w = w' := by
  go_enter Tryd.func94, Tryd.ntmps94
  go_wp2_with (simp only [key])
  go_ret
  exact ⟨rfl, rfl⟩
/-- TrailingZeros64 of a number that isn't 0. -/
theorem tz64_any (x : Nat) (hx : x < 18446744073709551616) (hx0 : x ≠ 0) (w : World) (hT : TabAt 0 Lib.deBruijn64tab w) :
    Calls Tryd.prog 94 #[.int .u64 x] w fun e w' => e = .returned (.int .i64 (Lib.ctz 64 x)) ∧ w = w' := by
  obtain ⟨hlow, hk⟩ := Lib.lowest_bit 64 x hx0 hx
  obtain ⟨hi, htab⟩ := Lib.deBruijn64_at _ hk
  have hcell := hT _ hi
  rw [htab] at hcell
  exact tz64_walk x _ _ w (by simp; omega) (tz64_key x _ hx hx0 hlow) hi hk hcell
theorem wrap_u64_nat (n : Nat) (h : n < 18446744073709551616) : IntKind.u64.wrap (n : Int) = (n : Int) := by rw [IntKind.wrap_u64]; omega
end Go.Proofs.YtbocejiclellfaaDoor

/- Stage 1's text Row: what stage 8 wants of it (printed by conv1.py). -/
set_option linter.unusedSimpArgs false
set_option linter.unusedVariables false
set_option maxRecDepth 100000
namespace Go.Proofs.YtbocejiclellfaaDoor
open Go.RowKit

structure Row where
  at_ : Nat
  w0 : Nat
  w1 : Nat
  w2 : Nat
  w3 : Nat
def Row.cells (r : Row) : List Value := [.int .i64 r.at_, .int .u64 r.w0, .int .u64 r.w1, .int .u64 r.w2, .int .u64 r.w3]
def Row.val (r : Row) : Value := .agg #[.int .i64 r.at_, .int .u64 r.w0, .int .u64 r.w1, .int .u64 r.w2, .int .u64 r.w3]
/-- Its place and its words lie in their ranges. -/
structure Row.Fits (r : Row) : Prop where
  a : r.at_ < 4096
  b0 : r.w0 < 18446744073709551616
  b1 : r.w1 < 18446744073709551616
  b2 : r.w2 < 18446744073709551616
  b3 : r.w3 < 18446744073709551616
theorem idx44_0 (v0 v1 v2 v3 : Nat) (w : World) : (Instr.index 133 (.agg #[.int .u64 v0, .int .u64 v1, .int .u64 v2, .int .u64 v3]) (.int .i64 0)).run Tryd.prog w = .ok (.int .u64 v0) w := by kernel_rfl
theorem idx44_1 (v0 v1 v2 v3 : Nat) (w : World) : (Instr.index 133 (.agg #[.int .u64 v0, .int .u64 v1, .int .u64 v2, .int .u64 v3]) (.int .i64 1)).run Tryd.prog w = .ok (.int .u64 v1) w := by kernel_rfl
theorem idx44_2 (v0 v1 v2 v3 : Nat) (w : World) : (Instr.index 133 (.agg #[.int .u64 v0, .int .u64 v1, .int .u64 v2, .int .u64 v3]) (.int .i64 2)).run Tryd.prog w = .ok (.int .u64 v2) w := by kernel_rfl
theorem idx44_3 (v0 v1 v2 v3 : Nat) (w : World) : (Instr.index 133 (.agg #[.int .u64 v0, .int .u64 v1, .int .u64 v2, .int .u64 v3]) (.int .i64 3)).run Tryd.prog w = .ok (.int .u64 v3) w := by kernel_rfl
attribute [local go_sem] idx44_0 idx44_1 idx44_2 idx44_3
theorem popN_le (f x : Nat) : popN f x ≤ f := by
  induction f generalizing x with
  | zero => simp [popN]
  | succ f ih => have := ih (x / 2); simp only [popN]; omega
def Row.count (r : Row) : Nat := popN 64 r.w0 + popN 64 r.w1 + popN 64 r.w2 + popN 64 r.w3
end Go.Proofs.YtbocejiclellfaaDoor

/- Stage 1's text Row2: what stage 8 wants of it (printed by conv1.py). -/
set_option linter.unusedSimpArgs false
set_option linter.unusedVariables false
set_option maxRecDepth 100000
namespace Go.Proofs.YtbocejiclellfaaDoor
open Go.RowKit

attribute [local go_sem] idx44_0 idx44_1 idx44_2 idx44_3
theorem ret_bit {a b c d : Int} (h : a = b) (h' : c = d) : Ending.returned (.tuple #[.int .i64 a, .int .u64 c]) = .returned (.tuple #[.int .i64 b, .int .u64 d]) := by rw [h, h']
theorem pow_lt64 (n : Nat) : 2 ^ (n % 64) < 18446744073709551616 := Nat.lt_of_lt_of_le (Nat.pow_lt_pow_right (by omega) (Nat.mod_lt n (by omega))) (by decide)
theorem wrap_pow (n : Nat) : IntKind.u64.wrap (2 ^ (n % 64)) = ((2 ^ (n % 64) : Nat) : Int) := by
  have h := pow_lt64 n
  rw [show (2 : Int) ^ (n % 64) = ((2 ^ (n % 64) : Nat) : Int) by simp]
  exact wrap_u64_nat _ h
set_option maxHeartbeats 400000 in
theorem bitOf_walk (n : Nat) (w : World) (h : n < 1048576) :
    Calls Tryd.prog 84 #[.int .i64 n] w fun e w' => e = .returned (.tuple #[.int .i64 ((n % 256 / 64 : Nat) : Int), .int .u64 ((2 ^ (n % 64) : Nat) : Int)]) ∧ ∃ q, w' = w.drewN q := by
  go_enter Tryd.func84, Tryd.ntmps84
  go_wp2
  go_quiet (fail)
  go_wp2
  go_ret2
  exact ⟨ret_bit (by omega) (wrap_pow n), nq, rfl⟩
set_option maxHeartbeats 400000 in
theorem cmp_walk (a w0 w1 w2 w3 : Nat) (t : Nat) (w : World) (ha : a < 100000) (ht : t < 100000) :
    Calls Tryd.prog 91 #[.agg #[.int .i64 a, .int .u64 w0, .int .u64 w1, .int .u64 w2, .int .u64 w3], .int .i64 t] w fun e w' => e = .returned (.int .i64 ((a : Int) - t)) ∧ Turn [] w w' := by
  go_enter Tryd.func91, Tryd.ntmps91
  go_wp2
  go_ret
  exact ⟨rfl, Turn.below (by go_grown)⟩
/-- The slice v is of the program's own making (from block B on) and holds the rows rs. -/
def OwnR (w : World) (B : Nat) (v : Value) (rs : List Row) : Prop := w.ownsRow B 135 5 v rs.length (rs.flatMap Row.cells)
theorem OwnR.turn {F : List Nat} {w w' : World} {B : Nat} {v : Value} {rs : List Row} (h : OwnR w B v rs) (t : Turn F w w') (hn : ∀ g, v.ownBlock = some g → g ∉ F) : OwnR w' B v rs := Turn.owns t h hn
theorem OwnR.turn' {w w' : World} {B : Nat} {v : Value} {rs : List Row} (h : OwnR w B v rs) (t : Turn [] w w') : OwnR w' B v rs := Turn.owns t h (by simp)
theorem OwnR.lt {w : World} {B : Nat} {v : Value} {rs : List Row} (h : OwnR w B v rs) : ∀ k, v.ownBlock = some k → B ≤ k ∧ k < w.heap.size := World.ownsRow.lt h
theorem OwnR.mono {w : World} {B B' : Nat} {v : Value} {rs : List Row} (h : OwnR w B v rs) (hB : B' ≤ B) : OwnR w B' v rs := ownsRow_mono h hB
theorem flat_cons (r : Row) (rs : List Row) : (r :: rs).flatMap Row.cells = .int .i64 r.at_ :: .int .u64 r.w0 :: .int .u64 r.w1 :: .int .u64 r.w2 :: .int .u64 r.w3 :: rs.flatMap Row.cells := rfl
theorem flat_length (rs : List Row) : (rs.flatMap Row.cells).length = rs.length * 5 := by
  induction rs with
  | nil => rfl
  | cons r t ih => rw [flat_cons]; simp only [List.length_cons, ih]; omega
theorem flat_get {rs : List Row} {i : Nat} {r : Row} (h : rs[i]? = some r) (j : Nat) (hj : j < 5) : (rs.flatMap Row.cells)[i * 5 + j]? = r.cells[j]? := by
  induction rs generalizing i with
  | nil => simp at h
  | cons s t ih =>
    cases i with
    | zero =>
      simp at h
      subst h
      rw [flat_cons]
      match j, hj with
      | 0, _ => rfl
      | 1, _ => rfl
      | 2, _ => rfl
      | 3, _ => rfl
      | 4, _ => rfl
    | succ i =>
      rw [flat_cons, show (i + 1) * 5 + j = (i * 5 + j) + 5 by omega]
      simp only [List.getElem?_cons_succ]
      exact ih (by simpa using h)
/-- The cells of a row among the rows. -/
theorem OwnR.cells {w : World} {B g n cap : Nat} {rs : List Row} (h : OwnR w B (.slice (some ⟨g, 0, none⟩) n cap) rs) (hn : n = rs.length) {i : Nat} {r : Row} (hr : rs[i]? = some r) :
    w.cell? ⟨g, i * 5, none⟩ = some (.int .i64 r.at_) ∧ w.cell? ⟨g, i * 5 + 1, none⟩ = some (.int .u64 r.w0) ∧ w.cell? ⟨g, i * 5 + 2, none⟩ = some (.int .u64 r.w1) ∧ w.cell? ⟨g, i * 5 + 3, none⟩ = some (.int .u64 r.w2) ∧ w.cell? ⟨g, i * 5 + 4, none⟩ = some (.int .u64 r.w3) := by
  subst hn
  have hi : i < rs.length := (List.getElem?_eq_some_iff.1 hr).1
  have c := fun j (hj : j < 5) => (World.ownsRow.cellAt (cap := cap) h (i * 5 + j) (by omega)).trans (flat_get hr j hj)
  exact ⟨c 0 (by omega), c 1 (by omega), c 2 (by omega), c 3 (by omega), c 4 (by omega)⟩
theorem OwnR.frozen {w : World} {B g n cap : Nat} {rs : List Row} (h : OwnR w B (.slice (some ⟨g, 0, none⟩) n cap) rs) (hn : n = rs.length) (j : Nat) : w.frozen? ⟨g, j, none⟩ = false := by
  subst hn
  exact World.ownsRow.frozenAt (cap := cap) h j
theorem Turn.stored {F : List Nat} {w w' : World} {g : Nat} (h : w.grownBy w' (some g)) (hg : g ∈ F) : Turn F w w' := (Turn.refl F w).grown h (fun k hk => .inl (by injection hk with e; exact e ▸ hg))
end Go.Proofs.YtbocejiclellfaaDoor
