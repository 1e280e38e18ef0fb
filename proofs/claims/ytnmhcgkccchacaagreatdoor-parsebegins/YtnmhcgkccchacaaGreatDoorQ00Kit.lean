import Derived.Test.YtnmhcgkccchacaaGreatDoorRows
import Derived.WalkKit
import Derived.WalkSpells
import Derived.WalkLawsBesides
import Derived.Lib.Hide
import Derived.Below
import Derived.Laws.OwnMore
import Derived.Deep.AppendLies
import Derived.Deep.Draws
import Derived.Maps.AppendAt
import Derived.RegionTactic
import Derived.OwnWalk
import Derived.Deep.QuietTactic
import Derived.BigQuiet
import Derived.Maps.OwnSet
import Derived.Lib.Bytealg
import Derived.Lib.Strings
import Derived.Lib.Walk
import Derived.Laws.MakeOwn
import Derived.Deep.Upon
import Derived.Laws.ByValue
import Derived.Laws.StandIn
import Derived.Shelf.Abstract

/- Words for memory: which blocks a call may turn. -/
set_option linter.unusedSimpArgs false
set_option linter.unusedVariables false
set_option maxRecDepth 100000
namespace Go.Proofs.YtnmhcgkccchacaaGreatDoor
open Go.RowKit

theorem ret_bool {a b : Bool} (h : a = b) : Ending.returned (.bool a) = .returned (.bool b) := by rw [h]
theorem ret_int {k : IntKind} {a b : Int} (h : a = b) : Ending.returned (.int k a) = .returned (.int k b) := by rw [h]
theorem at_lt {α : Type} {l : List α} {k : Nat} (h : k < l.length) : ∃ y, l[k]? = some y := ⟨l[k], List.getElem?_eq_getElem h⟩
theorem take_snoc {α : Type} {l : List α} {k : Nat} {y : α} (h : l[k]? = some y) : l.take (k + 1) = l.take k ++ [y] := by
  obtain ⟨hk, e⟩ := List.getElem?_eq_some_iff.1 h
  rw [List.take_succ_eq_append_getElem hk, e]

/-- From w to w' only the blocks of F, and new ones, have turned. -/
structure Turn (F : List Nat) (w w' : World) : Prop where
  os : w'.os = w.os
  tape : w'.tape = w.tape
  output : w'.output = w.output
  size : w.heap.size ≤ w'.heap.size
  block : ∀ k, k < w.heap.size → k ∉ F → w'.heap[k]? = w.heap[k]?

section
variable {F G : List Nat} {a b c w w' : World}
theorem Turn.refl (F : List Nat) (w : World) : Turn F w w := ⟨rfl, rfl, rfl, Nat.le_refl _, fun _ _ _ => rfl⟩
theorem Turn.trans (h : Turn F a b) (k : Turn G b c) (hG : ∀ g ∈ G, g ∈ F ∨ a.heap.size ≤ g) : Turn F a c :=
  ⟨k.os.trans h.os, k.tape.trans h.tape, k.output.trans h.output, Nat.le_trans h.size k.size, fun i hi hn =>
    (k.block i (Nat.lt_of_lt_of_le hi h.size) (fun hg => by
      rcases hG i hg with h1 | h1
      · exact hn h1
      · omega)).trans (h.block i hi hn)⟩
theorem Turn.trans' (h : Turn F a b) (k : Turn [] b c) : Turn F a c := h.trans k (by simp)
theorem Turn.more (h : Turn F a b) (hs : ∀ g ∈ F, g ∈ G ∨ a.heap.size ≤ g) : Turn G a b :=
  ⟨h.os, h.tape, h.output, h.size, fun i hi hn => h.block i hi (fun hf => by
    rcases hs i hf with h1 | h1
    · exact hn h1
    · omega)⟩
theorem Turn.drew (h : Turn F a w) : Turn F a w.drew := ⟨h.os, h.tape, h.output, h.size, h.block⟩
theorem Turn.drewN (h : Turn F a w) (n : Nat) : Turn F a (w.drewN n) := ⟨h.os, h.tape, h.output, h.size, h.block⟩
theorem Turn.alloc (h : Turn F a w) (o : Obj) : Turn F a (w.alloc o) :=
  h.trans' ⟨rfl, rfl, rfl, by simp, fun k hk _ => Below.heap_alloc _ _ _ hk⟩
theorem Turn.setCell (h : Turn F a w) {p : Addr} (hp : p.block ∈ F ∨ a.heap.size ≤ p.block) (u : Value) : Turn F a (w.setCell p u) :=
  h.trans (G := [p.block]) ⟨rfl, rfl, rfl, by simp [World.setCell], fun k hk hn => Below.heap_setCell _ _ _ _ (by simpa using hn)⟩ (by simpa using hp)
theorem Turn.grown {row : Option Nat} (h : Turn F a w) (hg : w.grownBy w' row) (hr : ∀ k, row = some k → k ∈ F ∨ a.heap.size ≤ k) : Turn F a w' :=
  h.trans (G := row.toList) ⟨hg.os, hg.tape, hg.output, hg.size, fun k hk hn => hg.block k hk (fun e => hn (by simp [← e]))⟩ (by
    intro g hgm
    exact hr g (by simpa using hgm))
theorem Turn.below (h : Below w.heap.size w w') : Turn F w w' := ⟨h.os, h.tape, h.output, h.size, fun k hk _ => h.block k hk⟩
theorem Turn.to_below (h : Turn [] w w') : Below w.heap.size w w' := ⟨h.os, h.tape, h.output, h.size, fun k hk => h.block k hk (by simp)⟩
theorem Turn.cell (h : Turn F w w') {p : Addr} (hp : p.block < w.heap.size) (hn : p.block ∉ F) : w'.cell? p = w.cell? p := World.cell?_of_block (h.block _ hp hn)
theorem Turn.heap (h : Turn F w w') {k : Nat} {o : Obj} (hk : w.heap[k]? = some o) (hn : k ∉ F) : w'.heap[k]? = some o :=
  (h.block k (Array.getElem?_eq_some_iff.1 hk).1 hn).trans hk
theorem Turn.owns {base : Nat} {e : TypeId} {size n : Nat} {v : Value} {xs : List Value} (h : Turn F w w') (ho : w.ownsRow base e size v n xs) (hn : ∀ g, v.ownBlock = some g → g ∉ F) : w'.ownsRow base e size v n xs := by
  refine ⟨ho.1, ?_⟩
  rcases ho.2 with hn | ⟨g, cap, cur, rfl, hb, hgg, rest⟩
  · exact .inl hn
  · exact .inr ⟨g, cap, cur, rfl, hb, h.heap hgg (hn g rfl), rest⟩
end

theorem ownsRow_mono {w : World} {B B' : Nat} {e : TypeId} {size n : Nat} {v : Value} {xs : List Value} (h : w.ownsRow B e size v n xs) (hB : B' ≤ B) : w.ownsRow B' e size v n xs := by
  refine ⟨h.1, ?_⟩
  rcases h.2 with hn | ⟨g, cap, cur, rfl, hb, rest⟩
  · exact .inl hn
  · exact .inr ⟨g, cap, cur, rfl, by omega, rest⟩
end Go.Proofs.YtnmhcgkccchacaaGreatDoor

/- Slices in memory: what they read as, append onto one of the program's own. -/
set_option linter.unusedSimpArgs false
set_option linter.unusedVariables false
set_option maxRecDepth 100000
namespace Go.Proofs.YtnmhcgkccchacaaGreatDoor
open Go.RowKit

theorem spot_none {W : World} {a : Addr} {v : Value} (h : W.cell? (a.add 0) = some v) : a.spot = none := by
  obtain ⟨b, off, spot⟩ := a
  cases spot with
  | none => rfl
  | some s => simp [Addr.add, World.cell?] at h; split at h <;> simp at h
theorem cell_lt {w : World} {g o : Nat} {v : Value} (h : w.cell? ⟨g, o, none⟩ = some v) : g < w.heap.size := by
  by_cases hh : g < w.heap.size
  · exact hh
  · simp only [World.cell?] at h
    rw [Array.getElem?_eq_none (by omega)] at h
    cases h

/-- F' has blocks of F, and such from n on. -/
def Foot (n : Nat) (F F' : List Nat) : Prop := ∀ g ∈ F', g ∈ F ∨ n ≤ g
theorem Foot.refl (n : Nat) (F : List Nat) : Foot n F F := fun g h => .inl h
theorem Foot.trans {n m : Nat} {F F' F'' : List Nat} (h : Foot n F F') (k : Foot m F' F'') (hm : n ≤ m) : Foot n F F'' := fun g hg => by
  rcases k g hg with h1 | h1
  · exact h g h1
  · exact .inr (by omega)

/-- The slice at A, m things of sz cells each, reads as the cells xs. -/
def Rws (w : World) (sz : Nat) (A : Option Addr) (m : Nat) (xs : List Value) : Prop :=
  xs.length = m * sz ∧ (m = 0 ∨ ∃ b off, A = some ⟨b, off, none⟩ ∧ b < w.heap.size ∧ ∀ j u, xs[j]? = some u → w.cell? ⟨b, off + j, none⟩ = some u)
theorem Rws.none (w : World) (sz : Nat) (A : Option Addr) : Rws w sz A 0 [] := ⟨by simp, .inl rfl⟩
theorem Rws.turn {w w' : World} {sz m : Nat} {A : Option Addr} {xs : List Value} {F : List Nat} (h : Rws w sz A m xs) (t : Turn F w w') (hF : ∀ b off, A = some ⟨b, off, Option.none⟩ → b ∉ F) : Rws w' sz A m xs := by
  refine ⟨h.1, ?_⟩
  rcases h.2 with h0 | ⟨b, off, rfl, hb, hc⟩
  · exact .inl h0
  · exact .inr ⟨b, off, rfl, Nat.lt_of_lt_of_le hb t.size, fun j u hu => (t.cell (p := ⟨b, off + j, Option.none⟩) hb (hF b off rfl)).trans (hc j u hu)⟩
theorem Rws.turn' {w w' : World} {sz m : Nat} {A : Option Addr} {xs : List Value} (h : Rws w sz A m xs) (t : Turn [] w w') : Rws w' sz A m xs := h.turn t (by simp)
theorem Rws.of_owns {w : World} {B e sz n : Nat} {A : Option Addr} {l c : Nat} {xs : List Value} (h : w.ownsRow B e sz (.slice A l c) n xs) : l = n ∧ n ≤ c ∧ Rws w sz A n xs := by
  rcases h.2 with ⟨hv, rfl⟩ | ⟨g, cap, cur, hv, hb, hg, hnc, hcm, hcs, ht⟩
  · injection hv with h1 h2 h3
    subst h1 h2 h3
    exact ⟨rfl, Nat.le_refl _, h.1, .inl rfl⟩
  · injection hv with h1 h2 h3
    subst h1 h2 h3
    refine ⟨rfl, hnc, h.1, .inr ⟨g, 0, rfl, (Array.getElem?_eq_some_iff.1 hg).1, fun j u hu => ?_⟩⟩
    have hj : j < l * sz := by
      have := (List.getElem?_eq_some_iff.1 hu).1
      rw [h.1] at this
      exact this
    rw [Nat.zero_add, World.ownsRow.cellAt h j hj]
    exact hu
theorem owns_form {w : World} {B e sz n : Nat} {v : Value} {xs : List Value} (h : w.ownsRow B e sz v n xs) : ∃ A c, v = .slice A n c ∧ n ≤ c ∧ c ≤ maxLen := by
  rcases h.2 with ⟨rfl, rfl⟩ | ⟨g, cap, cur, rfl, hb, hg, hnc, hcm, _⟩
  · exact ⟨_, _, rfl, Nat.le_refl _, Nat.zero_le _⟩
  · exact ⟨_, _, rfl, hnc, hcm⟩
theorem owns_lt {w : World} {B e sz n : Nat} {v : Value} {xs : List Value} (h : w.ownsRow B e sz v n xs) {g : Nat} (hg : v.ownBlock = some g) : g < w.heap.size ∧ ∃ cs, w.heap[g]? = some (.cells cs e (0, 0)) := by
  rcases h.2 with ⟨rfl, _⟩ | ⟨g', cap, cur, rfl, _, hb, _⟩
  · cases hg
  · injection hg with hg
    subst hg
    exact ⟨(Array.getElem?_eq_some_iff.1 hb).1, _, hb⟩

section
variable {P : Program}
/-- append of whatever lies in a slice onto one of the program's own. -/
theorem run_appR (w : World) (t ty e : TypeId) (i : TypeInfo) (z : Value) (size bytes : Nat) (ht : P.underlying t = some (.slice e)) (hi : P.info? e = some i) (hz : i.zero = some z)
    (hsize : i.size = size) (hby : i.bytes = bytes) (hzs : z.cells.size = size) (hsz : 0 < size)
    (v : Value) (n : Nat) (xs : List Value) (hown : w.ownsRow 0 e size v n xs)
    (A : Option Addr) (m c : Nat) (news : List Value) (hr : Rws w size A m news) (h1 : ∀ u ∈ news, u.oneCell' = true)
    (h63 : n + m ≤ maxLen) (hbytes : (n + m) * bytes ≤ 140737488355328) :
    ∃ v' w', (Builtin.append_ #[t, t] ty #[v, .slice A m c]).run P w = .ok v' w' ∧ w'.ownsRow 0 e size v' (n + m) (xs ++ news) ∧ Turn v.ownBlock.toList w w' ∧
      (v'.ownBlock = v.ownBlock ∨ v'.ownBlock = some w.heap.size) := by
  have hT : ∀ w' : World, w.grownBy w' v.ownBlock → Turn v.ownBlock.toList w w' := fun w' hg => (Turn.refl _ w).grown hg (fun k hk => .inl (by simp [hk]))
  by_cases hm : m = 0
  · subst hm
    have hn : news = [] := List.eq_nil_of_length_eq_zero (by rw [hr.1]; simp)
    subst hn
    obtain ⟨A', c', rfl, hle, _⟩ := owns_form hown
    refine ⟨_, w, ?_, by simpa using hown, Turn.refl _ _, .inl rfl⟩
    cases A' <;> cases A <;> simp [Builtin.append_, run_underlying ht, sizeOf, typeInfo, hi, Builtin.lenOf, Builtin.firstCells, hle, loadCells, loadCellsFrom, storeCells]
  · rcases hr.2 with h0 | ⟨b, off, rfl, hb, hc⟩
    · exact absurd h0 hm
    · obtain ⟨v', w', e1, e2, e3, _, e5⟩ := run_append_own_at (P := P) w 0 t ty e i z size bytes ht hi hz hsize hby hzs hsz v n xs hown ⟨b, off, none⟩ m c news hr.1 (fun j u hj => by rw [Addr.add_lit]; exact hc j u hj) h1 h63 hbytes (Nat.zero_le _)
      exact ⟨v', w', e1, e2, hT w' e3, e5⟩
/-- The same at the operation. -/
theorem wpList_appR {ops : Array Oper} {rest : List Oper} {o : Oper} {a : Act} {Q : Exit → Act → World → Prop} (hgd : o.guard = none) (s x : Operand) (t : TypeId)
    (ho : o.op = .call { callee := .builtin .append, args := #[s, x], argTypes := #[t, t] })
    (w : World) (e : TypeId) (z : Value) (size bytes : Nat) (ht : P.underlying t = some (.slice e)) (hi : (P.info? e).map (fun i => (i.zero, i.size, i.bytes)) = some (some z, size, bytes))
    (hzs : z.cells.size = size) (hsz : 0 < size)
    (v : Value) (n : Nat) (xs : List Value) (hs : a.eval s = v) (hown : w.ownsRow 0 e size v n xs)
    (A : Option Addr) (m c : Nat) (news : List Value) (hx : a.eval x = .slice A m c) (hr : Rws w size A m news) (h1 : ∀ u ∈ news, u.oneCell' = true)
    (h63 : n + m ≤ maxLen) (hbytes : (n + m) * bytes ≤ 140737488355328)
    (h : ∀ v' w', w'.ownsRow 0 e size v' (n + m) (xs ++ news) → Turn v.ownBlock.toList w w' → (v'.ownBlock = v.ownBlock ∨ v'.ownBlock = some w.heap.size) → wpList P ops Q rest (a.put o.dst v') w') :
    wpList P ops Q (o :: rest) a w := by
  obtain ⟨i, hi0, hz0, hz1, hz2⟩ := info_parts hi
  refine wpList_plain hgd fun K hK => ?_
  obtain ⟨v', w', hrun, h2, h3, h5⟩ := run_appR (P := P) w t o.type e i z size bytes ht hi0 hz0 hz1 hz2 hzs hsz v n xs hown A m c news hr h1 h63 hbytes
  unfold Oper.wp execOp
  simp only [ho, resolve, invoke, builtin, Sem.run_bind, Sem.run_pure, Result.andThen_ok, List.map_toArray, List.map_cons, List.map_nil, hs, hx, hrun]
  exact hK _ _ (h v' w' h2 h3 h5)
/-- The same inside a region that draws its order. -/
theorem step_appR {ops : Array Oper} {o : Oper} {a : Act} {K : Act → World → Prop} {Q : Exit → Act → World → Prop} {E : Prop} (hgd : o.guard = none) (s x : Operand) (t : TypeId)
    (ho : o.op = .call { callee := .builtin .append, args := #[s, x], argTypes := #[t, t] })
    (w : World) (e : TypeId) (z : Value) (size bytes : Nat) (ht : P.underlying t = some (.slice e)) (hi : (P.info? e).map (fun i => (i.zero, i.size, i.bytes)) = some (some z, size, bytes))
    (hzs : z.cells.size = size) (hsz : 0 < size)
    (v : Value) (n : Nat) (xs : List Value) (hs : a.eval s = v) (hown : w.ownsRow 0 e size v n xs)
    (A : Option Addr) (m c : Nat) (news : List Value) (hx : a.eval x = .slice A m c) (hr : Rws w size A m news) (h1 : ∀ u ∈ news, u.oneCell' = true)
    (h63 : n + m ≤ maxLen) (hbytes : (n + m) * bytes ≤ 140737488355328)
    (h : ∀ v' w', w'.ownsRow 0 e size v' (n + m) (xs ++ news) → Turn v.ownBlock.toList w w' → (v'.ownBlock = v.ownBlock ∨ v'.ownBlock = some w.heap.size) → K (a.put o.dst v') w') :
    if Region.wanted o (yielded ops a.tmps) = true then Oper.wp P o a w K Q else E := by
  have hw : Region.wanted o (yielded ops a.tmps) = true := by simp [Region.wanted, hgd]
  rw [if_pos hw]
  obtain ⟨i, hi0, hz0, hz1, hz2⟩ := info_parts hi
  obtain ⟨v', w', hrun, h2, h3, h5⟩ := run_appR (P := P) w t o.type e i z size bytes ht hi0 hz0 hz1 hz2 hzs hsz v n xs hown A m c news hr h1 h63 hbytes
  unfold Oper.wp execOp
  simp only [ho, resolve, invoke, builtin, Sem.run_bind, Sem.run_pure, Result.andThen_ok, List.map_toArray, List.map_cons, List.map_nil, hs, hx, hrun]
  exact h v' w' h2 h3 h5
end
end Go.Proofs.YtnmhcgkccchacaaGreatDoor

/- Lists of things of the program's own making: how their cells read as data, append. -/
set_option linter.unusedSimpArgs false
set_option linter.unusedVariables false
set_option maxRecDepth 100000
namespace Go.Proofs.YtnmhcgkccchacaaGreatDoor
open Go.RowKit

/-- How cells read as a thing, all that it leads to in blocks that A allows. -/
abbrev Rdg (α : Type) := (Nat → Prop) → World → List Value → α → Prop
structure GoodR {α : Type} (sz : Nat) (R : Rdg α) : Prop where
  turn : ∀ {A : Nat → Prop} {w w' : World} {F : List Nat} {cs : List Value} {x : α}, R A w cs x → Turn F w w' → (∀ g ∈ F, ¬ A g) → R A w' cs x
  mono : ∀ {A B : Nat → Prop} {w : World} {cs : List Value} {x : α}, R A w cs x → (∀ g, A g → g < w.heap.size → B g) → R B w cs x
  len : ∀ {A : Nat → Prop} {w : World} {cs : List Value} {x : α}, R A w cs x → cs.length = sz
  one : ∀ {A : Nat → Prop} {w : World} {cs : List Value} {x : α}, R A w cs x → ∀ u ∈ cs, u.oneCell' = true

/-- The slice v reads as the things l. -/
def RdV {α : Type} (sz : Nat) (R : Rdg α) (A : Nat → Prop) (w : World) (v : Value) (l : List α) : Prop :=
  ∃ P c, v = .slice P l.length c ∧ l.length ≤ c ∧ (l = [] ∨ ∃ b, P = some ⟨b, 0, none⟩ ∧ A b ∧ b < w.heap.size ∧
    ∀ (i : Nat) x, l[i]? = some x → ∃ cs : List Value, (∀ k y, cs[k]? = some y → w.cell? ⟨b, i * sz + k, none⟩ = some y) ∧ R A w cs x)
/-- It is of the program's own making, too. -/
def OwnL {α : Type} (e sz : Nat) (R : Rdg α) (A : Nat → Prop) (w : World) (v : Value) (l : List α) : Prop :=
  ∃ css : List (List Value), css.length = l.length ∧ w.ownsRow 0 e sz v l.length css.flatten ∧ (∀ g, v.ownBlock = some g → A g) ∧
    ∀ (i : Nat) (cs : List Value) (x : α), css[i]? = some cs → l[i]? = some x → R (fun g => A g ∧ v.ownBlock ≠ some g) w cs x

section
variable {α : Type} {e sz : Nat} {R : Rdg α} {A B : Nat → Prop} {w w' : World} {v : Value} {l : List α}
theorem RdV.nil (R : Rdg α) (A : Nat → Prop) (w : World) : RdV sz R A w (.slice none 0 0) [] := ⟨none, 0, rfl, Nat.le_refl _, .inl rfl⟩
theorem RdV.turn {F : List Nat} (hR : GoodR sz R) (h : RdV sz R A w v l) (t : Turn F w w') (hF : ∀ g ∈ F, ¬ A g) : RdV sz R A w' v l := by
  obtain ⟨P, c, e1, e2, h⟩ := h
  refine ⟨P, c, e1, e2, ?_⟩
  rcases h with h | ⟨b, eb, hA, hb, h⟩
  · exact .inl h
  · refine .inr ⟨b, eb, hA, Nat.lt_of_lt_of_le hb t.size, fun i x hx => ?_⟩
    obtain ⟨cs, hc, hr⟩ := h i x hx
    exact ⟨cs, fun k y hy => (t.cell (p := ⟨b, i * sz + k, none⟩) hb (fun hg => hF b hg hA)).trans (hc k y hy), hR.turn hr t hF⟩
theorem RdV.mono (hR : GoodR sz R) (h : RdV sz R A w v l) (hB : ∀ g, A g → g < w.heap.size → B g) : RdV sz R B w v l := by
  obtain ⟨P, c, e1, e2, h⟩ := h
  refine ⟨P, c, e1, e2, ?_⟩
  rcases h with h | ⟨b, eb, hA, hb, h⟩
  · exact .inl h
  · refine .inr ⟨b, eb, hB b hA hb, hb, fun i x hx => ?_⟩
    obtain ⟨cs, hc, hr⟩ := h i x hx
    exact ⟨cs, hc, hR.mono hr hB⟩

theorem OwnL.nil (R : Rdg α) (A : Nat → Prop) (w : World) : OwnL e sz R A w (.slice none 0 0) [] :=
  ⟨[], rfl, World.ownsRow_nil w 0 e sz, (by intro g h; cases h), (by intro i cs x h; simp at h)⟩
theorem OwnL.turn {F : List Nat} (hR : GoodR sz R) (h : OwnL e sz R A w v l) (t : Turn F w w') (hF : ∀ g ∈ F, ¬ A g) : OwnL e sz R A w' v l := by
  obtain ⟨css, h1, h2, h3, h4⟩ := h
  exact ⟨css, h1, Turn.owns t h2 (fun g hg hf => hF g hf (h3 g hg)), h3, fun i cs x hc hx => hR.turn (h4 i cs x hc hx) t (fun g hg ha => hF g hg ha.1)⟩
theorem OwnL.mono (hR : GoodR sz R) (h : OwnL e sz R A w v l) (hB : ∀ g, A g → g < w.heap.size → B g) : OwnL e sz R B w v l := by
  obtain ⟨css, h1, h2, h3, h4⟩ := h
  exact ⟨css, h1, h2, fun g hg => hB g (h3 g hg) (owns_lt h2 hg).1, fun i cs x hc hx => hR.mono (h4 i cs x hc hx) (fun g ha hg => ⟨hB g ha.1 hg, ha.2⟩)⟩
theorem OwnL.lt (h : OwnL e sz R A w v l) {g : Nat} (hg : v.ownBlock = some g) : g < w.heap.size ∧ A g := by
  obtain ⟨css, h1, h2, h3, h4⟩ := h
  exact ⟨(owns_lt h2 hg).1, h3 g hg⟩
theorem flat_at {β : Type} {sz : Nat} : ∀ {css : List (List β)} {i : Nat} {cs : List β}, (∀ c ∈ css, c.length = sz) → css[i]? = some cs → ∀ k y, cs[k]? = some y → css.flatten[i * sz + k]? = some y
  | [], i, cs, _, h => by simp at h
  | c :: css, 0, cs, hl, h => by
    intro k y hy
    simp at h
    subst h
    rw [List.flatten_cons, Nat.zero_mul, Nat.zero_add, List.getElem?_append_left (List.getElem?_eq_some_iff.1 hy).1]
    exact hy
  | c :: css, i + 1, cs, hl, h => by
    intro k y hy
    have hc := hl c (by simp)
    rw [List.flatten_cons, List.getElem?_append_right (by rw [hc, Nat.add_mul]; omega), hc, show (i + 1) * sz + k - sz = i * sz + k by rw [Nat.add_mul]; omega]
    exact flat_at (fun c hc => hl c (by simp [hc])) (by simpa using h) k y hy
theorem OwnL.lens (hR : GoodR sz R) {css : List (List Value)} (h1 : css.length = l.length) (h4 : ∀ (i : Nat) (cs : List Value) (x : α), css[i]? = some cs → l[i]? = some x → R A w cs x) : ∀ c ∈ css, c.length = sz := by
  intro c hc
  obtain ⟨i, hi, rfl⟩ := List.mem_iff_getElem.1 hc
  have hl : i < l.length := by omega
  exact hR.len (h4 i css[i] l[i] (List.getElem?_eq_getElem hi) (List.getElem?_eq_getElem hl))
theorem OwnL.rdv (hR : GoodR sz R) (h : OwnL e sz R A w v l) : RdV sz R A w v l := by
  obtain ⟨css, h1, h2, h3, h4⟩ := h
  have hlens := OwnL.lens hR h1 h4
  have h2' := h2
  rcases h2.2 with ⟨rfl, hn⟩ | ⟨g, cap, cur, rfl, hb, hg, hnc, _, _, ht⟩
  · refine ⟨none, 0, by rw [hn], by omega, .inl (List.eq_nil_of_length_eq_zero hn)⟩
  · refine ⟨_, cap, rfl, hnc, .inr ⟨g, rfl, h3 g rfl, (Array.getElem?_eq_some_iff.1 hg).1, fun i x hx => ?_⟩⟩
    have hil : i < l.length := (List.getElem?_eq_some_iff.1 hx).1
    have hic : i < css.length := by omega
    have hcs : css[i]? = some css[i] := List.getElem?_eq_getElem hic
    refine ⟨css[i], fun k y hy => ?_, hR.mono (h4 i _ x hcs hx) (fun g ha _ => ha.1)⟩
    have hk : k < sz := by
      have := (List.getElem?_eq_some_iff.1 hy).1
      rw [hlens css[i] (List.getElem_mem hic)] at this
      exact this
    have hlt : i * sz + k < l.length * sz := by
      calc i * sz + k < i * sz + sz := by omega
        _ = (i + 1) * sz := by rw [Nat.add_mul]; omega
        _ ≤ l.length * sz := Nat.mul_le_mul_right _ hil
    rw [World.ownsRow.cellAt (cap := cap) h2' _ hlt]
    exact flat_at hlens hcs k y hy
end

section
variable {P : Program} {α : Type}
/-- append of one thing, laid in a block of its own, onto a list of the program's own. -/
theorem wpList_appL {ops : Array Oper} {rest : List Oper} {o : Oper} {a : Act} {Q : Exit → Act → World → Prop} (hgd : o.guard = none) (s x : Operand) (t : TypeId)
    (ho : o.op = .call { callee := .builtin .append, args := #[s, x], argTypes := #[t, t] })
    (W : World) (e sz bytes : Nat) (z : Value) (R : Rdg α) (hR : GoodR sz R) (A : Nat → Prop) (ht : P.underlying t = some (.slice e)) (hi : (P.info? e).map (fun i => (i.zero, i.size, i.bytes)) = some (some z, sz, bytes))
    (hzs : z.cells.size = sz) (hsz : 0 < sz) (hby : bytes ≤ 1000)
    (v : Value) (l : List α) (hs : a.eval s = v) (hown : OwnL e sz R A W v l) (C : Array Value) (cs : List Value) (y : α) (c : Nat) (hC : C = cs.toArray) (hr : R (fun g => A g ∧ v.ownBlock ≠ some g) W cs y)
    (hx : a.eval x = .slice (some ⟨W.heap.size, 0, none⟩) 1 c) (hl : l.length ≤ 1000000) (hA : A (W.heap.size + 1))
    (h : ∀ v' w', OwnL e sz R A w' v' (l ++ [y]) → Turn v.ownBlock.toList W w' → (v'.ownBlock = v.ownBlock ∨ ∃ g, v'.ownBlock = some g ∧ W.heap.size ≤ g) → wpList P ops Q rest (a.put o.dst v') w') :
    wpList P ops Q (o :: rest) a (W.alloc (.cells C e)) := by
  subst hC
  obtain ⟨css, h1, h2, h3, h4⟩ := hown
  have hal : Turn [] W (W.alloc (.cells cs.toArray e)) := (Turn.refl [] W).alloc _
  have hlen := hR.len hr
  refine wpList_appR hgd s x t ho (W.alloc (.cells cs.toArray e)) e z sz bytes ht hi hzs hsz v l.length css.flatten hs (Turn.owns hal h2 (by simp)) _ 1 c cs hx ?_ (hR.one hr) (by simp only [maxLen]; omega) ?_ ?_
  · refine ⟨by rw [hlen]; omega, .inr ⟨W.heap.size, 0, rfl, by simp, fun j u hj => ?_⟩⟩
    rw [Nat.zero_add, cell_of_row _ W.heap.size _ _ _ _ (heap_alloc_new W _)]
    simpa using hj
  · have : (l.length + 1) * bytes ≤ 1000001 * 1000 := Nat.mul_le_mul (by omega) hby
    omega
  · intro v' w' k1 k2 k3
    have t2 : Turn v.ownBlock.toList W w' := by
      refine (hal.more (by simp)).trans k2 (fun g hg => .inl hg)
    have hne : v'.ownBlock = v.ownBlock ∨ v'.ownBlock = some (W.heap.size + 1) := by
      rcases k3 with k3 | k3
      · exact .inl k3
      · right; rw [k3]; simp
    refine h v' w' ⟨css ++ [cs], by simp [h1], ?_, ?_, ?_⟩ t2 ?_
    · rw [List.length_append, List.flatten_append]
      simpa using k1
    · intro g hg
      rcases hne with k | k
      · exact h3 g (by rw [← k]; exact hg)
      · rw [k] at hg; injection hg with hg; rw [← hg]; exact hA
    · have hold : ∀ cs' x', R (fun g => A g ∧ v.ownBlock ≠ some g) W cs' x' → R (fun g => A g ∧ v'.ownBlock ≠ some g) w' cs' x' := fun cs' x' hr' => by
        have hm : R (fun g => (A g ∧ v.ownBlock ≠ some g) ∧ g < W.heap.size) W cs' x' := hR.mono hr' (fun g ha hg => ⟨ha, hg⟩)
        refine hR.mono (hR.turn hm t2 (fun g hg ha => ha.1.2 (by simpa using hg))) (fun g ha _ => ⟨ha.1.1, fun e => ?_⟩)
        rcases hne with k | k
        · exact ha.1.2 (by rw [← k]; exact e)
        · rw [k] at e; injection e with e; have := ha.2; omega
      intro i cs' x' hc hx'
      by_cases hi' : i < l.length
      · rw [List.getElem?_append_left (by omega)] at hc
        rw [List.getElem?_append_left hi'] at hx'
        exact hold _ _ (h4 i cs' x' hc hx')
      · have hil : i = l.length := by
          have := (List.getElem?_eq_some_iff.1 hx').1
          rw [List.length_append] at this
          simp at this
          omega
        subst hil
        rw [List.getElem?_append_right (by omega), h1] at hc
        rw [List.getElem?_append_right (Nat.le_refl _)] at hx'
        simp at hc hx'
        subst hc hx'
        exact hold _ _ hr
    · rcases hne with k | k
      · exact .inl k
      · exact .inr ⟨_, k, by omega⟩
end
end Go.Proofs.YtnmhcgkccchacaaGreatDoor

/- Statements, variables, methods, classes as data, and how they lie in memory. -/
set_option linter.unusedSimpArgs false
set_option linter.unusedVariables false
set_option maxRecDepth 100000
namespace Go.Proofs.YtnmhcgkccchacaaGreatDoor
open Go.RowKit

/-- A statement: what it does, X, Y, Z, T, F, Args, N, Body, Other, its place. -/
inductive St where
  | mk (d : Int) (x y z t f : ByteArray) (ag : List ByteArray) (n : Int) (bd ot : List St) (ln cl : Int)

def RdT (A : Nat → Prop) (w : World) (cs : List Value) (x : ByteArray) : Prop := cs = [.string x]
theorem goodT : GoodR 1 RdT where
  turn h _ _ := h
  mono h _ := h
  len h := by unfold RdT at h; rw [h]; rfl
  one h := by unfold RdT at h; rw [h]; intro u hu; simp at hu; rw [hu]; rfl

mutual
def RdS (A : Nat → Prop) (w : World) : List Value → St → Prop
  | cs, .mk d x y z t f ag n bd ot ln cl => ∃ V1 P2 c2 b2 P3 c3 b3, cs = [.int .i64 d, .string x, .string y, .string z, .string t, .string f, V1, .int .i64 n, .slice P2 bd.length c2, .slice P3 ot.length c3, .int .i64 ln, .int .i64 cl] ∧
      RdV 1 RdT A w V1 ag ∧ bd.length ≤ c2 ∧ ot.length ≤ c3 ∧ (bd = [] ∨ (P2 = some ⟨b2, 0, none⟩ ∧ A b2 ∧ b2 < w.heap.size)) ∧ (ot = [] ∨ (P3 = some ⟨b3, 0, none⟩ ∧ A b3 ∧ b3 < w.heap.size)) ∧ RdL A w b2 0 bd ∧ RdL A w b3 0 ot
def RdL (A : Nat → Prop) (w : World) (b : Nat) (k : Nat) : List St → Prop
  | [] => True
  | s :: l => (∃ cs, (∀ j v, cs[j]? = some v → w.cell? ⟨b, k * 12 + j, none⟩ = some v) ∧ RdS A w cs s) ∧ RdL A w b (k + 1) l
end

theorem RdL.at {A : Nat → Prop} {w : World} {b : Nat} : ∀ {l : List St} {k i : Nat} {x : St}, RdL A w b k l → l[i]? = some x → ∃ cs : List Value, (∀ j v, cs[j]? = some v → w.cell? ⟨b, (k + i) * 12 + j, none⟩ = some v) ∧ RdS A w cs x
  | [], k, i, x, _, h => by simp at h
  | s :: l, k, 0, x, h, hx => by
    unfold RdL at h
    simp at hx
    subst hx
    exact h.1
  | s :: l, k, i + 1, x, h, hx => by
    unfold RdL at h
    have := RdL.at h.2 (i := i) (x := x) (by simpa using hx)
    rw [show k + (i + 1) = k + 1 + i by omega]
    exact this
theorem RdL.of {A : Nat → Prop} {w : World} {b : Nat} : ∀ {l : List St} {k : Nat}, (∀ (i : Nat) x, l[i]? = some x → ∃ cs : List Value, (∀ j v, cs[j]? = some v → w.cell? ⟨b, (k + i) * 12 + j, none⟩ = some v) ∧ RdS A w cs x) → RdL A w b k l
  | [], k, _ => by unfold RdL; trivial
  | s :: l, k, h => by
    unfold RdL
    refine ⟨h 0 s rfl, RdL.of fun i x hx => ?_⟩
    have := h (i + 1) x (by simpa using hx)
    rw [show k + (i + 1) = k + 1 + i by omega] at this
    exact this

theorem RdS.parts {A : Nat → Prop} {w : World} {cs : List Value} {d : Int} {x y z t f : ByteArray} {ag : List ByteArray} {n : Int} {bd ot : List St} {ln cl : Int} (h : RdS A w cs (.mk d x y z t f ag n bd ot ln cl)) :
    ∃ V1 V2 V3, cs = [.int .i64 d, .string x, .string y, .string z, .string t, .string f, V1, .int .i64 n, V2, V3, .int .i64 ln, .int .i64 cl] ∧ RdV 1 RdT A w V1 ag ∧ RdV 12 RdS A w V2 bd ∧ RdV 12 RdS A w V3 ot := by
  unfold RdS at h
  obtain ⟨V1, P2, c2, b2, P3, c3, b3, e, h1, k2, k3, m2, m3, h2, h3⟩ := h
  refine ⟨V1, _, _, e, h1, ⟨P2, c2, rfl, k2, ?_⟩, ⟨P3, c3, rfl, k3, ?_⟩⟩
  · rcases m2 with m | ⟨e2, ha, hb⟩
    · exact .inl m
    · exact .inr ⟨b2, e2, ha, hb, fun i x hx => by simpa using h2.at hx⟩
  · rcases m3 with m | ⟨e2, ha, hb⟩
    · exact .inl m
    · exact .inr ⟨b3, e2, ha, hb, fun i x hx => by simpa using h3.at hx⟩
theorem RdS.of {A : Nat → Prop} {w : World} {d : Int} {x y z t f : ByteArray} {ag : List ByteArray} {n : Int} {bd ot : List St} {ln cl : Int} {V1 V2 V3 : Value} (h1 : RdV 1 RdT A w V1 ag) (h2 : RdV 12 RdS A w V2 bd) (h3 : RdV 12 RdS A w V3 ot) :
    RdS A w [.int .i64 d, .string x, .string y, .string z, .string t, .string f, V1, .int .i64 n, V2, V3, .int .i64 ln, .int .i64 cl] (.mk d x y z t f ag n bd ot ln cl) := by
  obtain ⟨P2, c2, rfl, k2, m2⟩ := h2
  obtain ⟨P3, c3, rfl, k3, m3⟩ := h3
  unfold RdS
  have f2 : ∃ b2, (bd = [] ∨ (P2 = some ⟨b2, 0, none⟩ ∧ A b2 ∧ b2 < w.heap.size)) ∧ RdL A w b2 0 bd := by
    rcases m2 with rfl | ⟨b, e, ha, hb, h⟩
    · exact ⟨0, .inl rfl, by unfold RdL; trivial⟩
    · exact ⟨b, .inr ⟨e, ha, hb⟩, RdL.of fun i x hx => by simpa using h i x hx⟩
  have f3 : ∃ b3, (ot = [] ∨ (P3 = some ⟨b3, 0, none⟩ ∧ A b3 ∧ b3 < w.heap.size)) ∧ RdL A w b3 0 ot := by
    rcases m3 with rfl | ⟨b, e, ha, hb, h⟩
    · exact ⟨0, .inl rfl, by unfold RdL; trivial⟩
    · exact ⟨b, .inr ⟨e, ha, hb⟩, RdL.of fun i x hx => by simpa using h i x hx⟩
  obtain ⟨b2, m2, h2⟩ := f2
  obtain ⟨b3, m3, h3⟩ := f3
  exact ⟨V1, P2, c2, b2, P3, c3, b3, rfl, h1, k2, k3, m2, m3, h2, h3⟩

mutual
theorem RdS.turn0 {A B : Nat → Prop} {w w' : World} {F : List Nat} (t : Turn F w w') (hF : ∀ g ∈ F, ¬ A g) (hB : ∀ g, A g → g < w.heap.size → B g) : ∀ {cs : List Value} {s : St}, RdS A w cs s → RdS B w' cs s
  | cs, .mk d x y z tt f ag n bd ot ln cl, h => by
    unfold RdS at h ⊢
    obtain ⟨V1, P2, c2, b2, P3, c3, b3, e, h1, k2, k3, m2, m3, h2, h3⟩ := h
    have c1 : ¬ (bd = []) → A b2 ∧ b2 < w.heap.size := fun hn => by
      rcases m2 with m | m
      · exact absurd m hn
      · exact m.2
    have c4 : ¬ (ot = []) → A b3 ∧ b3 < w.heap.size := fun hn => by
      rcases m3 with m | m
      · exact absurd m hn
      · exact m.2
    refine ⟨V1, P2, c2, b2, P3, c3, b3, e, ?_, k2, k3, ?_, ?_, RdL.turn0 t hF hB bd c1 h2, RdL.turn0 t hF hB ot c4 h3⟩
    · have := (RdV.mono goodT h1 hB)
      obtain ⟨P, c, e1, e2, hh⟩ := h1
      refine ⟨P, c, e1, e2, ?_⟩
      rcases hh with hh | ⟨b, eb, hA, hb, hh⟩
      · exact .inl hh
      · refine .inr ⟨b, eb, hB b hA hb, Nat.lt_of_lt_of_le hb t.size, fun i x hx => ?_⟩
        obtain ⟨cs, hc, hr⟩ := hh i x hx
        exact ⟨cs, fun k y hy => (t.cell (p := ⟨b, i * 1 + k, none⟩) hb (fun hg => hF b hg hA)).trans (hc k y hy), hr⟩
    · rcases m2 with m | ⟨e, ha, hb⟩
      · exact .inl m
      · exact .inr ⟨e, hB _ ha hb, Nat.lt_of_lt_of_le hb t.size⟩
    · rcases m3 with m | ⟨e, ha, hb⟩
      · exact .inl m
      · exact .inr ⟨e, hB _ ha hb, Nat.lt_of_lt_of_le hb t.size⟩
theorem RdL.turn0 {A B : Nat → Prop} {w w' : World} {F : List Nat} (t : Turn F w w') (hF : ∀ g ∈ F, ¬ A g) (hB : ∀ g, A g → g < w.heap.size → B g) {b k : Nat} : ∀ (l : List St), (¬ (l = []) → A b ∧ b < w.heap.size) → RdL A w b k l → RdL B w' b k l
  | [], _, h => by unfold RdL; trivial
  | s :: l, hc, h => by
    unfold RdL at h ⊢
    obtain ⟨⟨cs, h1, h2⟩, h3⟩ := h
    obtain ⟨ha, hb⟩ := hc (by simp)
    refine ⟨⟨cs, fun j v hv => (t.cell (p := ⟨b, k * 12 + j, none⟩) hb (fun hg => hF b hg ha)).trans (h1 j v hv), RdS.turn0 t hF hB h2⟩, RdL.turn0 t hF hB l (fun _ => ⟨ha, hb⟩) h3⟩
end
theorem rdv_one {α : Type} {sz : Nat} {R : Rdg α} {A : Nat → Prop} {w : World} {v : Value} {l : List α} (h : RdV sz R A w v l) : v.oneCell' = true := by
  obtain ⟨P, c, rfl, _⟩ := h
  rfl
theorem goodS : GoodR 12 RdS where
  turn h t hF := RdS.turn0 t hF (fun _ h _ => h) h
  mono h hB := RdS.turn0 (Turn.refl [] _) (by simp) hB h
  len {A w cs x} h := by
    cases x
    obtain ⟨V1, V2, V3, rfl, _⟩ := RdS.parts h
    rfl
  one {A w cs x} h := by
    cases x
    obtain ⟨V1, V2, V3, rfl, h1, h2, h3⟩ := RdS.parts h
    intro u hu
    simp at hu
    rcases hu with rfl | rfl | rfl | rfl | rfl | rfl | rfl | rfl | rfl | rfl | rfl | rfl
    all_goals first | rfl | exact rdv_one h1 | exact rdv_one h2 | exact rdv_one h3

/-- A variable, a method, a class, a program. -/
structure Vf where
  ty : ByteArray
  nm : ByteArray
  ln : Int
  cl : Int
structure Mf where
  ret : ByteArray
  nm : ByteArray
  stat : Bool
  bare : Bool
  ps : List Vf
  ls : List Vf
  bd : List St
  ln : Int
  cl : Int
structure Cf where
  nm : ByteArray
  sup : ByteArray
  face : Bool
  fs : List ByteArray
  fd : List Vf
  sc : List Vf
  ms : List Mf
  ini : Option Mf
  ln : Int
  cl : Int
structure Gf where
  cs : List Cf
  main : Mf

def RdW (A : Nat → Prop) (w : World) (cs : List Value) (x : Vf) : Prop := cs = [.string x.ty, .string x.nm, .int .i64 x.ln, .int .i64 x.cl]
theorem goodW : GoodR 4 RdW where
  turn h _ _ := h
  mono h _ := h
  len h := by unfold RdW at h; rw [h]; rfl
  one h := by
    unfold RdW at h
    rw [h]
    intro u hu
    simp at hu
    rcases hu with rfl | rfl | rfl | rfl <;> rfl
def RdM (A : Nat → Prop) (w : World) (cs : List Value) (m : Mf) : Prop :=
  ∃ V1 V2 V3, cs = [.string m.ret, .string m.nm, .bool m.stat, .bool m.bare, V1, V2, V3, .int .i64 m.ln, .int .i64 m.cl] ∧ RdV 4 RdW A w V1 m.ps ∧ RdV 4 RdW A w V2 m.ls ∧ RdV 12 RdS A w V3 m.bd
theorem goodM : GoodR 9 RdM where
  turn := by
    rintro A w w' F cs m ⟨V1, V2, V3, e, h1, h2, h3⟩ t hF
    exact ⟨V1, V2, V3, e, h1.turn goodW t hF, h2.turn goodW t hF, h3.turn goodS t hF⟩
  mono := by
    rintro A B w cs m ⟨V1, V2, V3, e, h1, h2, h3⟩ hB
    exact ⟨V1, V2, V3, e, h1.mono goodW hB, h2.mono goodW hB, h3.mono goodS hB⟩
  len := by
    rintro A w cs m ⟨V1, V2, V3, rfl, h1, h2, h3⟩
    rfl
  one := by
    rintro A w cs m ⟨V1, V2, V3, rfl, h1, h2, h3⟩ u hu
    simp at hu
    rcases hu with rfl | rfl | rfl | rfl | rfl | rfl | rfl | rfl | rfl
    all_goals first | rfl | exact rdv_one h1 | exact rdv_one h2 | exact rdv_one h3
/-- What a class's init, if there is one, reads as. -/
def RdI (A : Nat → Prop) (w : World) (V : Value) : Option Mf → Prop
  | none => V = .pointer none
  | some m => ∃ b cs, V = .pointer (some ⟨b, 0, none⟩) ∧ A b ∧ b < w.heap.size ∧ (∀ k y, cs[k]? = some y → w.cell? ⟨b, k, none⟩ = some y) ∧ RdM A w cs m
theorem RdI.turn {A : Nat → Prop} {w w' : World} {F : List Nat} {V : Value} {o : Option Mf} (h : RdI A w V o) (t : Turn F w w') (hF : ∀ g ∈ F, ¬ A g) : RdI A w' V o := by
  cases o with
  | none => exact h
  | some m =>
    obtain ⟨b, cs, e, ha, hb, hc, hm⟩ := h
    exact ⟨b, cs, e, ha, Nat.lt_of_lt_of_le hb t.size, fun k y hy => (t.cell (p := ⟨b, k, none⟩) hb (fun hg => hF b hg ha)).trans (hc k y hy), goodM.turn hm t hF⟩
theorem RdI.mono {A B : Nat → Prop} {w : World} {V : Value} {o : Option Mf} (h : RdI A w V o) (hB : ∀ g, A g → g < w.heap.size → B g) : RdI B w V o := by
  cases o with
  | none => exact h
  | some m =>
    obtain ⟨b, cs, e, ha, hb, hc, hm⟩ := h
    exact ⟨b, cs, e, hB b ha hb, hb, hc, goodM.mono hm hB⟩
def RdC (A : Nat → Prop) (w : World) (cs : List Value) (c : Cf) : Prop :=
  ∃ V1 V2 V3 V4 V5, cs = [.string c.nm, .string c.sup, .bool c.face, V1, V2, V3, V4, V5, .int .i64 c.ln, .int .i64 c.cl] ∧ RdV 1 RdT A w V1 c.fs ∧ RdV 4 RdW A w V2 c.fd ∧ RdV 4 RdW A w V3 c.sc ∧ RdV 9 RdM A w V4 c.ms ∧ RdI A w V5 c.ini
theorem goodC : GoodR 10 RdC where
  turn := by
    rintro A w w' F cs c ⟨V1, V2, V3, V4, V5, e, h1, h2, h3, h4, h5⟩ t hF
    exact ⟨V1, V2, V3, V4, V5, e, h1.turn goodT t hF, h2.turn goodW t hF, h3.turn goodW t hF, h4.turn goodM t hF, h5.turn t hF⟩
  mono := by
    rintro A B w cs c ⟨V1, V2, V3, V4, V5, e, h1, h2, h3, h4, h5⟩ hB
    exact ⟨V1, V2, V3, V4, V5, e, h1.mono goodT hB, h2.mono goodW hB, h3.mono goodW hB, h4.mono goodM hB, h5.mono hB⟩
  len := by
    rintro A w cs c ⟨V1, V2, V3, V4, V5, rfl, _⟩
    rfl
  one := by
    rintro A w cs c ⟨V1, V2, V3, V4, V5, rfl, h1, h2, h3, h4, h5⟩ u hu
    simp at hu
    rcases hu with rfl | rfl | rfl | rfl | rfl | rfl | rfl | rfl | rfl | rfl
    all_goals first | rfl | exact rdv_one h1 | exact rdv_one h2 | exact rdv_one h3 | exact rdv_one h4 | skip
    cases hc : c.ini with
    | none => rw [hc] at h5; unfold RdI at h5; rw [h5]; rfl
    | some m => rw [hc] at h5; obtain ⟨b, cs, e, _⟩ := h5; rw [e]; rfl
end Go.Proofs.YtnmhcgkccchacaaGreatDoor

/- Functions that tell which octets are meant, and functions that measure, as values. -/
set_option linter.unusedSimpArgs false
set_option linter.unusedVariables false
set_option maxRecDepth 100000
namespace Go.Proofs.YtnmhcgkccchacaaGreatDoor
open Go.RowKit

theorem indexByte_contains (l : List UInt8) (c : UInt8) : decide (0 ≤ Lib.indexByte l c) = l.contains c := by
  induction l with
  | nil => rfl
  | cons b l ih =>
    unfold Lib.indexByte
    have := Lib.indexByte_ge l c
    by_cases h : b = c
    · subst h; simp
    · have h' : (b == c) = false := by simpa using h
      have h2 : (c == b) = false := by simpa using fun e => h e.symm
      rw [h', List.contains_cons, h2, Bool.false_or, ← ih]
      simp only [Bool.false_eq_true, if_false]
      by_cases h3 : Lib.indexByte l c = -1
      · simp [h3]
      · have h4 : (Lib.indexByte l c == -1) = false := by simpa using h3
        rw [h4]
        simp only [Bool.false_eq_true, if_false]
        have e1 : (0 ≤ Lib.indexByte l c + 1) = True := by simp; omega
        have e2 : (0 ≤ Lib.indexByte l c) = True := by simp; omega
        simp [e1, e2]

theorem toUInt8_id (c : UInt8) : ((c.toNat : Int)).toNat.toUInt8 = c := by simp

theorem sliteIndexByte_any (s : ByteArray) (c : UInt8) (w : World) :
    Calls Tryz.prog 160 #[.string s, .int .u8 (c.toNat : Int)] w fun e w' => e = .returned (.int .i64 (Lib.indexByte s.data.toList c)) ∧ w' = w := by
  have h := fun W : World => Lib.run_indexByteString (P := Tryz.prog) s (c.toNat : Int) W
  simp only [toUInt8_id] at h
  have hcf : ∀ W : World, (callFunc 166 #[.string s, .int .u8 (c.toNat : Int)]).run Tryz.prog W = .ok (.value (.int .i64 (Lib.indexByte s.data.toList c))) W := fun W => by
    rw [run_callFunc_indexByte (fn := Tryz.f166) Tryz.func166 (by kernel_rfl) (by kernel_rfl) (by kernel_rfl) (by kernel_rfl), h W]
    rfl
  clear h
  go_enter Tryz.func160, Tryz.ntmps160
  go_wp2_with fail
  go_ret
  exact ⟨rfl, rfl⟩

theorem indexByte_any (s : ByteArray) (c : UInt8) (w : World) :
    Calls Tryz.prog 146 #[.string s, .int .u8 (c.toNat : Int)] w fun e w' => e = .returned (.int .i64 (Lib.indexByte s.data.toList c)) ∧ w' = w := by
  go_enter Tryz.func146, Tryz.ntmps146
  go_wp2_with fail
  refine (sliteIndexByte_any s c w).mono ?_
  rintro e w1 ⟨rfl, rfl⟩
  go_wp2_with fail
  go_ret
  exact ⟨rfl, rfl⟩

theorem among_any (b : Nat) (s : ByteArray) (c : UInt8) (w : World) (hc : w.cell? ⟨b, 0, none⟩ = some (.string s)) :
    Calls Tryz.prog 145 #[.int .u8 (c.toNat : Int), .pointer (some ⟨b, 0, none⟩)] w fun e w' => e = .returned (.bool (s.data.toList.contains c)) ∧ w' = w := by
  go_enter Tryz.func145, Tryz.ntmps145
  go_wp2_with fail
  refine (indexByte_any s c w).mono ?_
  rintro e w1 ⟨rfl, rfl⟩
  go_wp2_with fail
  go_ret
  exact ⟨ret_bool (indexByte_contains _ _), rfl⟩

/-- The value v is a function that tells of each octet whether p holds; it reads the blocks G alone. -/
def Oct (w : World) (G : List Nat) (v : Value) (p : UInt8 → Bool) : Prop :=
  (∀ g ∈ G, g < w.heap.size) ∧ ∃ (k : Nat) (caps : List Value), v = .func (.func k) #[] caps.toArray ∧ (∀ (args : Array Value) (W : World), (callFunc k args).run Tryz.prog W = .ok (.enter k args) W) ∧ ∀ w' : World, (∀ g ∈ G, w'.heap[g]? = w.heap[g]?) → ∀ c : UInt8,
    Calls Tryz.prog k (Value.int .u8 (c.toNat : Int) :: caps).toArray w' fun e w'' => e = .returned (.bool (p c)) ∧ ∃ m, w'' = w'.drewN m

theorem drewN_zero (w : World) : w.drewN 0 = w := rfl

theorem Oct.among {w : World} {b : Nat} {s : ByteArray} (hb : b < w.heap.size) (hc : w.cell? ⟨b, 0, none⟩ = some (.string s)) :
    Oct w [b] (.func (.func 145) #[] #[.pointer (some ⟨b, 0, none⟩)]) (fun c => s.data.toList.contains c) := by
  refine ⟨by simpa using hb, 145, [.pointer (some ⟨b, 0, none⟩)], rfl, enters_of Tryz.func145 (by kernel_rfl) rfl, fun w' h c => ?_⟩
  refine (among_any b s c w' ?_).mono ?_
  · rw [World.cell?_of_block (h b (by simp))]
    exact hc
  · rintro e w1 ⟨rfl, rfl⟩
    exact ⟨rfl, 0, rfl⟩

theorem but_any (b : Nat) (G : List Nat) (v : Value) (p : UInt8 → Bool) (c : UInt8) (w : World) (hc : w.cell? ⟨b, 0, none⟩ = some v) (hv : Oct w G v p) :
    Calls Tryz.prog 147 #[.int .u8 (c.toNat : Int), .pointer (some ⟨b, 0, none⟩)] w fun e w' => e = .returned (.bool (!p c)) ∧ ∃ m, w' = w.drewN m := by
  obtain ⟨hG, k, caps, rfl, hen, hk⟩ := hv
  have hk1 := hk w (fun _ _ => rfl) c
  clear hk
  have HK := Lib.hid hk1
  clear hk1
  go_enter Tryz.func147, Tryz.ntmps147
  go_wp2_with fail
  refine HK.out.mono ?_
  rintro e w1 ⟨rfl, m, rfl⟩
  go_wp2_with fail
  go_ret
  exact ⟨rfl, m, rfl⟩
end Go.Proofs.YtnmhcgkccchacaaGreatDoor

/- What measures: one octet and all that may stand behind it. -/
set_option linter.unusedSimpArgs false
set_option linter.unusedVariables false
set_option maxRecDepth 100000
namespace Go.Proofs.YtnmhcgkccchacaaGreatDoor
open Go.RowKit

theorem bytes_eq {a b : ByteArray} (h : a.toList = b.toList) : a = b := by
  rw [ByteArray.toList_eq, ByteArray.toList_eq] at h
  exact ByteArray.ext (by simpa using h)
theorem bytes_t {a b : ByteArray} (h : a = b) : (a.toList == b.toList) = true := by simp [h]
theorem bytes_f {a b : ByteArray} (h : a ≠ b) : (a.toList == b.toList) = false := by
  simpa using fun e => h (bytes_eq e)

theorem bytes_ne {a : ByteArray} (h : a ≠ ⟨#[]⟩) : a.toList.isEmpty = false := by
  have := bytes_f h
  simpa using this

theorem Oct.but {w : World} {b : Nat} {G : List Nat} {v : Value} {p : UInt8 → Bool} (hb : b < w.heap.size) (hc : w.cell? ⟨b, 0, none⟩ = some v) (hv : Oct w G v p) :
    Oct w (b :: G) (.func (.func 147) #[] #[.pointer (some ⟨b, 0, none⟩)]) (fun c => !p c) := by
  refine ⟨?_, 147, [.pointer (some ⟨b, 0, none⟩)], rfl, enters_of Tryz.func147 (by kernel_rfl) rfl, fun w' h c => ?_⟩
  · intro g hg
    rcases List.mem_cons.1 hg with rfl | hg
    · exact hb
    · exact hv.1 g hg
  · refine but_any b G v p c w' ?_ ?_
    · rw [World.cell?_of_block (h b (by simp))]
      exact hc
    · obtain ⟨hG, k, caps, rfl, hen, hk⟩ := hv
      have hG' : ∀ g ∈ G, w'.heap[g]? = w.heap[g]? := fun g hg => h g (List.mem_cons_of_mem _ hg)
      refine ⟨fun g hg => ?_, k, caps, rfl, hen, fun w2 h2 c => hk w2 (fun g hg => (h2 g hg).trans (hG' g hg)) c⟩
      have := hG' g hg
      have hl := hG g hg
      rw [Array.getElem?_eq_getElem hl] at this
      exact (Array.getElem?_eq_some_iff.1 this).1

theorem Oct.alike {w w' : World} {G : List Nat} {v : Value} {p : UInt8 → Bool} (hv : Oct w G v p) (h : ∀ g ∈ G, w'.heap[g]? = w.heap[g]?) : Oct w' G v p := by
  obtain ⟨hG, k, caps, rfl, hen, hk⟩ := hv
  refine ⟨fun g hg => ?_, k, caps, rfl, hen, fun w2 h2 c => hk w2 (fun g hg => (h2 g hg).trans (h g hg)) c⟩
  have := h g hg
  have hl := hG g hg
  rw [Array.getElem?_eq_getElem hl] at this
  exact (Array.getElem?_eq_some_iff.1 this).1
theorem Oct.turn {w w' : World} {F G : List Nat} {v : Value} {p : UInt8 → Bool} (hv : Oct w G v p) (t : Turn F w w') (hn : ∀ g ∈ G, g ∉ F) : Oct w' G v p :=
  hv.alike fun g hg => t.block g (hv.1 g hg) (hn g hg)

/-- The value v is a function that measures texts by f; it reads the blocks G alone. -/
def Msr (w : World) (G : List Nat) (v : Value) (f : List UInt8 → Nat) : Prop :=
  (∀ g ∈ G, g < w.heap.size) ∧ ∃ (k : Nat) (caps : List Value), v = .func (.func k) #[] caps.toArray ∧ (∀ (args : Array Value) (W : World), (callFunc k args).run Tryz.prog W = .ok (.enter k args) W) ∧
    ∀ w' : World, (∀ g ∈ G, w'.heap[g]? = w.heap[g]?) → ∀ s : ByteArray, s.size ≤ 1000000 →
      Calls Tryz.prog k (Value.string s :: caps).toArray w' fun e w'' => e = .returned (.int .i64 (f s.data.toList : Int)) ∧ ∃ m, w'' = w'.drewN m
theorem Msr.alike {w w' : World} {G : List Nat} {v : Value} {f : List UInt8 → Nat} (hv : Msr w G v f) (h : ∀ g ∈ G, w'.heap[g]? = w.heap[g]?) : Msr w' G v f := by
  obtain ⟨hG, k, caps, rfl, hen, hk⟩ := hv
  refine ⟨fun g hg => ?_, k, caps, rfl, hen, fun w2 h2 c => hk w2 (fun g hg => (h2 g hg).trans (h g hg)) c⟩
  have := h g hg
  have hl := hG g hg
  rw [Array.getElem?_eq_getElem hl] at this
  exact (Array.getElem?_eq_some_iff.1 this).1
theorem Msr.turn {w w' : World} {F G : List Nat} {v : Value} {f : List UInt8 → Nat} (hv : Msr w G v f) (t : Turn F w w') (hn : ∀ g ∈ G, g ∉ F) : Msr w' G v f :=
  hv.alike fun g hg => t.block g (hv.1 g hg) (hn g hg)

def runN (p q : UInt8 → Bool) : List UInt8 → Nat
  | [] => 0
  | c :: r => if p c then 1 + (r.takeWhile q).length else 0

theorem takeWhile_len (q : UInt8 → Bool) : ∀ (r : List UInt8) (j : Nat), (∀ i y, i < j → r[i]? = some y → q y = true) → j ≤ r.length → (∀ y, r[j]? = some y → q y = false) → (r.takeWhile q).length = j := by
  intro r
  induction r with
  | nil => intro j _ h _; simp at h; simp [h]
  | cons y r ih =>
    intro j h1 h2 h3
    cases j with
    | zero => simp [h3 y rfl]
    | succ j =>
      have := h1 0 y (by omega) rfl
      simp [this]
      exact ih j (fun i z hi hz => h1 (i + 1) z (by omega) (by simpa using hz)) (by simpa using h2) (fun z hz => h3 z (by simpa using hz))

theorem data_get {s : ByteArray} {k : Nat} (h : k < s.size) : s.data.toList[k]? = some (s[k]'h) := by
  rw [Array.getElem?_toList, Array.getElem?_eq_getElem (by simpa using h)]
  rfl

set_option maxHeartbeats 1600000 in
theorem run_any (b1 b2 : Nat) (G1 G2 : List Nat) (v1 v2 : Value) (p q : UInt8 → Bool) (s : ByteArray) (w : World) (c1 : w.cell? ⟨b1, 0, none⟩ = some v1) (c2 : w.cell? ⟨b2, 0, none⟩ = some v2)
    (h1 : Oct w G1 v1 p) (h2 : Oct w G2 v2 q) (hs : s.size ≤ 1000000) :
    Calls Tryz.prog 144 #[.string s, .pointer (some ⟨b1, 0, none⟩), .pointer (some ⟨b2, 0, none⟩)] w fun e w' => e = .returned (.int .i64 (runN p q s.data.toList : Int)) ∧ ∃ m, w' = w.drewN m := by
  obtain ⟨hG1, k1, caps1, rfl, hen1, hk1⟩ := h1
  obtain ⟨hG2, k2, caps2, rfl, hen2, hk2⟩ := h2
  have HK1 := Lib.hid hk1
  have HK2 := Lib.hid hk2
  clear hk1 hk2 hG1 hG2
  by_cases h0 : s = ⟨#[]⟩
  · subst h0
    go_enter Tryz.func144, Tryz.ntmps144
    go_wp2_with fail
    go_quiet (fail)
    go_wp2_with fail
    go_ret
    exact ⟨rfl, _, rfl⟩
  · have e0 := bytes_ne h0
    have hpos : 0 < s.size := by
      rcases Nat.eq_zero_or_pos s.size with h | h
      · exact absurd (ByteArray.ext (Array.eq_empty_of_size_eq_zero h)) h0
      · exact h
    have hi0 : (0 : Int) < (s.size : Int) := by omega
    clear h0
    go_enter Tryz.func144, Tryz.ntmps144
    go_wp2_with fail
    go_quiet (refine Calls.quiet_of (HK1.out (w.drewN _) (fun _ _ => rfl) s[0]))
    have ET : s.data.toList = s[0] :: s.data.toList.drop 1 := by
      have := data_get hpos
      cases hd : s.data.toList with
      | nil => rw [hd] at this; simp at this
      | cons a r => rw [hd] at this; simp at this; simp [this]
    have HET := Lib.hid ET
    clear ET
    cases hp : p s[0] with
    | false =>
      go_wp2_with fail
      go_ret
      refine ⟨ret_int ?_, _, rfl⟩
      rw [HET.out]
      simp [runN, hp]
    | true =>
      go_wp2_with fail
      have hw0 : ∃ m, w.drewN nq = w.drewN m := ⟨_, rfl⟩
      go_loopw [5] (fun ti wr => ∃ k : Nat, 1 ≤ k ∧ k ≤ s.size ∧ ti = .int .i64 (k : Int) ∧ Hid (∀ i y, i + 1 < k → s.data.toList[i + 1]? = some y → q y = true) ∧ wr.cell? ⟨b2, 0, none⟩ = some (.func (.func k2) #[] caps2.toArray) ∧ Hid (∃ m, wr = w.drewN m)) (fun ti _ => s.size - (intOf ti).toNat)
      case atStart => exact ⟨1, Nat.le_refl _, hpos, rfl, Lib.hid (fun i y hi => by omega), c2, Lib.hid hw0⟩
      case round =>
        obtain ⟨k, hk1, hks, rfl, HA, c2r, HW⟩ := hrel
        by_cases hlt : k < s.size
        · have hi1 : (k : Int) < (s.size : Int) := by omega
          have hi2 : 0 ≤ (k : Int) := by omega
          have hdt : decide ((k : Int) < (s.size : Int)) = true := by simpa using hi1
          go_wp2_with fail
          go_quiet (refine Calls.quiet_of (HK2.out (wr.drewN _) (fun g _ => by obtain ⟨m, e⟩ := HW.out; rw [e]; rfl) s[k]))
          have hdg := data_get hlt
          have HD := Lib.hid hdg
          clear hdg
          cases hq : q s[k] with
          | false =>
            go_wp2_with fail
            go_ret
            obtain ⟨m, e⟩ := HW.out
            subst e
            refine ⟨ret_int ?_, _, World.drewN_drewN _ _ _⟩
            rw [HET.out]
            simp only [runN, hp, if_true]
            rw [takeWhile_len q (s.data.toList.drop 1) (k - 1)]
            · omega
            · intro i y hi hy
              rw [List.getElem?_drop] at hy
              exact HA.out i y (by omega) (by rw [← hy]; congr 1; omega)
            · rw [List.length_drop, ← Lib.size_eq]
              omega
            · intro y hy
              rw [List.getElem?_drop, show 1 + (k - 1) = k by omega, HD.out] at hy
              cases hy
              exact hq
          | true =>
            go_wp2_with fail
            obtain ⟨m, e⟩ := HW.out
            subst e
            go_roundw
            · refine ⟨k + 1, by omega, by omega, by simp, Lib.hid ?_, c2, Lib.hid ⟨_, World.drewN_drewN _ _ _⟩⟩
              intro i y hi hy
              by_cases hik : i + 1 = k
              · rw [hik, HD.out] at hy
                cases hy
                exact hq
              · exact HA.out i y (by omega) hy
            · simp [intOf]
              omega
        · have hdf : decide ((k : Int) < (s.size : Int)) = false := by simp; omega
          obtain rfl : k = s.size := by omega
          go_wp2_with fail
          go_quiet (fail)
          go_wp2_with fail
          go_ret
          obtain ⟨m, e⟩ := HW.out
          subst e
          refine ⟨ret_int ?_, _, World.drewN_drewN _ _ _⟩
          rw [HET.out]
          simp only [runN, hp, if_true]
          rw [takeWhile_len q (s.data.toList.drop 1) (s.size - 1)]
          · omega
          · intro i y hi hy
            rw [List.getElem?_drop] at hy
            exact HA.out i y (by omega) (by rw [← hy]; congr 1; omega)
          · rw [List.length_drop, ← Lib.size_eq]
            omega
          · intro y hy
            rw [List.getElem?_drop, show 1 + (s.size - 1) = s.size by omega, Lib.size_eq, List.getElem?_eq_none (Nat.le_refl _)] at hy
            cases hy
end Go.Proofs.YtnmhcgkccchacaaGreatDoor

/- The longest sign at a text's start; blanks or a remark there. -/
set_option linter.unusedSimpArgs false
set_option linter.unusedVariables false
set_option maxRecDepth 100000
namespace Go.Proofs.YtnmhcgkccchacaaGreatDoor
open Go.RowKit

theorem sliteHasPrefix_any (s p : ByteArray) (w : World) (hs : s.size ≤ 1000000) (hp : p.size ≤ 1000000) :
    Calls Tryz.prog 161 #[.string s, .string p] w fun e w' => e = .returned (.bool (Lib.hasPrefix s.data.toList p.data.toList)) ∧ w' = w := by
  have hr := Lib.hasPrefix_raw s p
  have HR := Lib.hid hr
  clear hr
  by_cases h : p.size ≤ s.size
  · have h1 : decide ((p.size : Int) ≤ (s.size : Int)) = true := by simpa using h
    have h2 : (p.size : Int) ≤ (s.size : Int) := by omega
    go_enter Tryz.func161, Tryz.ntmps161
    go_wp2_with fail
    go_ret
    refine ⟨ret_bool ?_, rfl⟩
    rw [← HR.out]
    simp [h]
  · have h1 : decide ((p.size : Int) ≤ (s.size : Int)) = false := by simp; omega
    go_enter Tryz.func161, Tryz.ntmps161
    go_wp2_with fail
    go_ret
    refine ⟨ret_bool ?_, rfl⟩
    rw [← HR.out]
    simp [h]

theorem hasPrefix_any (s p : ByteArray) (w : World) (hs : s.size ≤ 1000000) (hp : p.size ≤ 1000000) :
    Calls Tryz.prog 149 #[.string s, .string p] w fun e w' => e = .returned (.bool (Lib.hasPrefix s.data.toList p.data.toList)) ∧ w' = w := by
  go_enter Tryz.func149, Tryz.ntmps149
  go_wp2_with fail
  refine (sliteHasPrefix_any s p w hs hp).mono ?_
  rintro e w1 ⟨rfl, rfl⟩
  go_wp2_with fail
  go_ret
  exact ⟨rfl, rfl⟩

def signsL : List (List UInt8) := [[123], [125], [40], [41], [91], [93], [59], [44], [61], [46], [60], [43], [45], [58, 58]]
def sgN (t : List UInt8) : Nat := signsL.foldl (fun n x => if Lib.hasPrefix t x then max n x.length else n) 0

/-- The table of signs lies where the program's text lays it. -/
def Sg (w : World) : Prop := 0 < w.heap.size ∧ ∀ i x, signsL[i]? = some x → w.cell? ⟨0, i, none⟩ = some (.string ⟨x.toArray⟩)

def sgV : Value := Value.agg #[.string ⟨#[123]⟩, .string ⟨#[125]⟩, .string ⟨#[40]⟩, .string ⟨#[41]⟩, .string ⟨#[91]⟩, .string ⟨#[93]⟩, .string ⟨#[59]⟩, .string ⟨#[44]⟩, .string ⟨#[61]⟩, .string ⟨#[46]⟩, .string ⟨#[60]⟩, .string ⟨#[43]⟩, .string ⟨#[45]⟩, .string ⟨#[58, 58]⟩]
theorem sg_index (i : Nat) (x : List UInt8) (h : signsL[i]? = some x) (W : World) : (Instr.index 179 sgV (.int .i64 (i : Int))).run Tryz.prog W = .ok (.string ⟨x.toArray⟩) W := by
  iterate 14 (rcases i with _ | i; · (injection h with h; subst h; kernel_rfl))
  simp [signsL] at h

theorem sg_small (i : Nat) (x : List UInt8) (h : signsL[i]? = some x) : x.length ≤ 2 := by
  iterate 14 (rcases i with _ | i; · (injection h with h; subst h; decide))
  simp [signsL] at h

def sgF (t : List UInt8) (n : Nat) (x : List UInt8) : Nat := if Lib.hasPrefix t x then max n x.length else n
theorem sgF_le (t : List UInt8) : ∀ (l : List (List UInt8)) (n : Nat), (∀ x ∈ l, x.length ≤ 2) → n ≤ 2 → l.foldl (sgF t) n ≤ 2
  | [], n, _, h => h
  | x :: l, n, h1, h => by
    rw [List.foldl_cons]
    refine sgF_le t l _ (fun y hy => h1 y (List.mem_cons_of_mem _ hy)) ?_
    unfold sgF
    have := h1 x (by simp)
    split <;> omega

set_option maxHeartbeats 1600000 in
theorem sign_any (s : ByteArray) (w : World) (h : Sg w) (hs : s.size ≤ 1000000) :
    Calls Tryz.prog 148 #[.string s] w fun e w' => e = .returned (.int .i64 (sgN s.data.toList : Int)) ∧ w' = w := by
  have k0 : w.cell? ⟨0, 0, none⟩ = some (.string ⟨#[123]⟩) := h.2 0 _ rfl
  have k1 : w.cell? ⟨0, 1, none⟩ = some (.string ⟨#[125]⟩) := h.2 1 _ rfl
  have k2 : w.cell? ⟨0, 2, none⟩ = some (.string ⟨#[40]⟩) := h.2 2 _ rfl
  have k3 : w.cell? ⟨0, 3, none⟩ = some (.string ⟨#[41]⟩) := h.2 3 _ rfl
  have k4 : w.cell? ⟨0, 4, none⟩ = some (.string ⟨#[91]⟩) := h.2 4 _ rfl
  have k5 : w.cell? ⟨0, 5, none⟩ = some (.string ⟨#[93]⟩) := h.2 5 _ rfl
  have k6 : w.cell? ⟨0, 6, none⟩ = some (.string ⟨#[59]⟩) := h.2 6 _ rfl
  have k7 : w.cell? ⟨0, 7, none⟩ = some (.string ⟨#[44]⟩) := h.2 7 _ rfl
  have k8 : w.cell? ⟨0, 8, none⟩ = some (.string ⟨#[61]⟩) := h.2 8 _ rfl
  have k9 : w.cell? ⟨0, 9, none⟩ = some (.string ⟨#[46]⟩) := h.2 9 _ rfl
  have k10 : w.cell? ⟨0, 10, none⟩ = some (.string ⟨#[60]⟩) := h.2 10 _ rfl
  have k11 : w.cell? ⟨0, 11, none⟩ = some (.string ⟨#[43]⟩) := h.2 11 _ rfl
  have k12 : w.cell? ⟨0, 12, none⟩ = some (.string ⟨#[45]⟩) := h.2 12 _ rfl
  have k13 : w.cell? ⟨0, 13, none⟩ = some (.string ⟨#[58, 58]⟩) := h.2 13 _ rfl
  clear h
  go_enter Tryz.func148, Tryz.ntmps148
  go_wp2_with fail
  clear k0 k1 k2 k3 k4 k5 k6 k7 k8 k9 k10 k11 k12 k13
  have hV : Value.agg #[.string ⟨#[123]⟩, .string ⟨#[125]⟩, .string ⟨#[40]⟩, .string ⟨#[41]⟩, .string ⟨#[91]⟩, .string ⟨#[93]⟩, .string ⟨#[59]⟩, .string ⟨#[44]⟩, .string ⟨#[61]⟩, .string ⟨#[46]⟩, .string ⟨#[60]⟩, .string ⟨#[43]⟩, .string ⟨#[45]⟩, .string ⟨#[58, 58]⟩] = sgV := rfl
  rw [hV]
  clear hV
  have HX := Lib.hid sg_index
  obtain ⟨V, hVV⟩ : ∃ V, sgV = V := ⟨_, rfl⟩
  rw [hVV] at HX ⊢
  clear hVV
  go_loopw [3, 7] (fun tn ti wr => ∃ i n : Nat, i ≤ 14 ∧ ti = .int .i64 (i : Int) ∧ tn = .int .i64 (n : Int) ∧ n ≤ 2 ∧ Hid ((signsL.take i).foldl (sgF s.data.toList) 0 = n) ∧ w = wr) (fun _ ti _ => 14 - (intOf ti).toNat)
  case atStart => exact ⟨0, 0, by omega, rfl, rfl, by omega, Lib.hid rfl, rfl⟩
  case round =>
    obtain ⟨i, n, hi, rfl, rfl, hn, HF, rfl⟩ := hrel
    by_cases hlt : i < 14
    · obtain ⟨x, hx⟩ := at_lt (show i < signsL.length from hlt)
      have hix := HX.out i x hx
      have hx2 := sg_small i x hx
      have HP := Lib.hid hx
      clear hx
      have hd : decide ((i : Int) < 14) = true := by simp; omega
      have hd2 : (i : Int) < 14 := by omega
      obtain ⟨X, hX⟩ : ∃ X : ByteArray, X = ⟨x.toArray⟩ := ⟨_, rfl⟩
      rw [← hX] at hix
      have hXs : X.size = x.length := by rw [hX]; rfl
      have hXd : X.data.toList = x := by rw [hX]
      have HXd := Lib.hid hXd
      have HXs := Lib.hid hXs
      have hX2 : X.size ≤ 2 := by omega
      clear hX hXd hXs
      go_wp2_with fail
      refine (hasPrefix_any s X _ hs (by omega)).mono ?_
      rintro e w1 ⟨rfl, rfl⟩
      have hstep : (signsL.take (i + 1)).foldl (sgF s.data.toList) 0 = sgF s.data.toList n x := by
        rw [take_snoc HP.out, List.foldl_append, HF.out]
        rfl
      have HST := Lib.hid hstep
      clear hstep
      cases hp : Lib.hasPrefix s.data.toList X.data.toList with
      | true =>
        go_wp2_with fail
        go_roundw
        case rel => exact ⟨i + 1, max n X.size, by omega, by go_num, by rw [show ((max n X.size : Nat) : Int) = max (n : Int) (X.size : Int) by omega], by omega, Lib.hid (by rw [HST.out]; unfold sgF; rw [HXd.out] at hp; rw [hp, HXs.out]; rfl), by first | rfl | trivial⟩
        case measure => simp [intOf]; omega
      | false =>
        go_wp2_with fail
        go_roundw
        case rel => exact ⟨i + 1, n, by omega, by go_num, by go_num, hn, Lib.hid (by rw [HST.out]; unfold sgF; rw [HXd.out] at hp; rw [hp]; rfl), by first | rfl | trivial⟩
        case measure => simp [intOf]; omega
    · obtain rfl : i = 14 := by omega
      go_wp2_with fail
      go_ret
      refine ⟨ret_int ?_, rfl⟩
      rw [← HF.out]
      rfl

theorem gap_any (b1 b2 : Nat) (G1 G2 : List Nat) (v1 v2 : Value) (f g : List UInt8 → Nat) (s : ByteArray) (w : World) (c1 : w.cell? ⟨b1, 0, none⟩ = some v1) (c2 : w.cell? ⟨b2, 0, none⟩ = some v2)
    (h1 : Msr w G1 v1 f) (h2 : Msr w G2 v2 g) (hs : s.size ≤ 1000000) :
    Calls Tryz.prog 129 #[.string s, .pointer (some ⟨b1, 0, none⟩), .pointer (some ⟨b2, 0, none⟩)] w fun e w' => e = .returned (.int .i64 (max (f s.data.toList) (g s.data.toList) : Nat)) ∧ ∃ m, w' = w.drewN m := by
  obtain ⟨hG1, k1, caps1, rfl, hen1, hk1⟩ := h1
  obtain ⟨hG2, k2, caps2, rfl, hen2, hk2⟩ := h2
  have HK1 := Lib.hid hk1
  have HK2 := Lib.hid hk2
  clear hk1 hk2 hG1 hG2
  go_enter Tryz.func129, Tryz.ntmps129
  go_wp2_with fail
  go_quiet (first | refine Calls.quiet_of (HK1.out (w.drewN _) (fun _ _ => rfl) s hs) | refine Calls.quiet_of (HK2.out (w.drewN _) (fun _ _ => rfl) s hs))
  go_wp2_with fail
  go_ret
  exact ⟨ret_int (by omega), _, rfl⟩

theorem Msr.run {w : World} {b1 b2 : Nat} {G1 G2 : List Nat} {v1 v2 : Value} {p q : UInt8 → Bool} (hb1 : b1 < w.heap.size) (hb2 : b2 < w.heap.size) (c1 : w.cell? ⟨b1, 0, none⟩ = some v1) (c2 : w.cell? ⟨b2, 0, none⟩ = some v2)
    (h1 : Oct w G1 v1 p) (h2 : Oct w G2 v2 q) : Msr w (b1 :: b2 :: (G1 ++ G2)) (.func (.func 144) #[] #[.pointer (some ⟨b1, 0, none⟩), .pointer (some ⟨b2, 0, none⟩)]) (runN p q) := by
  refine ⟨?_, 144, [.pointer (some ⟨b1, 0, none⟩), .pointer (some ⟨b2, 0, none⟩)], rfl, enters_of Tryz.func144 (by kernel_rfl) rfl, fun w' h s hs => ?_⟩
  · intro g hg
    simp at hg
    rcases hg with rfl | rfl | hg | hg
    · exact hb1
    · exact hb2
    · exact h1.1 g hg
    · exact h2.1 g hg
  · refine run_any b1 b2 G1 G2 v1 v2 p q s w' ?_ ?_ (h1.alike fun g hg => h g (by simp [hg])) (h2.alike fun g hg => h g (by simp [hg])) hs
    · rw [World.cell?_of_block (h b1 (by simp))]
      exact c1
    · rw [World.cell?_of_block (h b2 (by simp))]
      exact c2
theorem Msr.gap {w : World} {b1 b2 : Nat} {G1 G2 : List Nat} {v1 v2 : Value} {f g : List UInt8 → Nat} (hb1 : b1 < w.heap.size) (hb2 : b2 < w.heap.size) (c1 : w.cell? ⟨b1, 0, none⟩ = some v1) (c2 : w.cell? ⟨b2, 0, none⟩ = some v2)
    (h1 : Msr w G1 v1 f) (h2 : Msr w G2 v2 g) : Msr w (b1 :: b2 :: (G1 ++ G2)) (.func (.func 129) #[] #[.pointer (some ⟨b1, 0, none⟩), .pointer (some ⟨b2, 0, none⟩)]) (fun t => max (f t) (g t)) := by
  refine ⟨?_, 129, [.pointer (some ⟨b1, 0, none⟩), .pointer (some ⟨b2, 0, none⟩)], rfl, enters_of Tryz.func129 (by kernel_rfl) rfl, fun w' h s hs => ?_⟩
  · intro g hg
    simp at hg
    rcases hg with rfl | rfl | hg | hg
    · exact hb1
    · exact hb2
    · exact h1.1 g hg
    · exact h2.1 g hg
  · refine gap_any b1 b2 G1 G2 v1 v2 f g s w' ?_ ?_ (h1.alike fun g hg => h g (by simp [hg])) (h2.alike fun g hg => h g (by simp [hg])) hs
    · rw [World.cell?_of_block (h b1 (by simp))]
      exact c1
    · rw [World.cell?_of_block (h b2 (by simp))]
      exact c2
theorem Msr.sign {w : World} (h : Sg w) : Msr w [0] (.func (.func 148) #[] #[]) sgN := by
  refine ⟨by simpa using h.1, 148, [], rfl, enters_of Tryz.func148 (by kernel_rfl) rfl, fun w' h2 s hs => ?_⟩
  have hsz : 0 < w'.heap.size := by
    have := h2 0 (by simp)
    rw [Array.getElem?_eq_getElem h.1] at this
    exact (Array.getElem?_eq_some_iff.1 this).1
  refine (sign_any s w' ⟨hsz, fun i x hx => ?_⟩ hs).mono ?_
  · rw [World.cell?_of_block (h2 0 (by simp))]
    exact h.2 i x hx
  · rintro e w1 ⟨rfl, rfl⟩
    exact ⟨rfl, 0, rfl⟩
theorem Sg.turn {F : List Nat} {w w' : World} (h : Sg w) (t : Turn F w w') (hn : 0 ∉ F) : Sg w' :=
  ⟨Nat.lt_of_lt_of_le h.1 t.size, fun i x hx => (t.cell (p := ⟨0, i, none⟩) h.1 hn).trans (h.2 i x hx)⟩
end Go.Proofs.YtnmhcgkccchacaaGreatDoor
