/- Maps from numbers to numbers, known by a function: what a look-up gives, what a store makes of it. -/
import Derived.Test.YtjgabnphafkgoaaKit
import Derived.Test.YtjgabnphafkgoaaTh
set_option linter.unusedSimpArgs false
set_option linter.unusedVariables false
namespace Go.Proofs.Ytjgabnphafkgoaa
open Go.RowKit Go.Maps

theorem law3 : Keyed Try.prog 3 := int_keyed Try.underlying3
theorem zero3 (w : World) : (zeroValue 3).run Try.prog w = .ok (.int .i64 0) w := by kernel_rfl

/-- Block m is a map of s entries that holds what f says. -/
def MapF (w : World) (m s : Nat) (f : Nat → Option Nat) : Prop :=
  ∃ D : DataW Unit, w.ownsMap Try.prog 3 (plainElem Try.prog 3) m s D ∧ Maps.size D = s ∧ (∀ i : Nat, Maps.has D (.int .i64 i) = (f i).isSome) ∧
    ∀ i y : Nat, f i = some y → D.atKey (.int .i64 i) (.lit (.int .i64 0)) = .lit (.int .i64 y)

def updF (f : Nat → Option Nat) (x y : Nat) : Nat → Option Nat := fun i => if i = x then some y else f i

theorem MapF.lt {w : World} {m s : Nat} {f : Nat → Option Nat} (h : MapF w m s f) : m < w.heap.size := by
  obtain ⟨D, h, _⟩ := h
  exact h.lt
theorem MapF.turn {F : List Nat} {w w' : World} {m s : Nat} {f : Nat → Option Nat} (h : MapF w m s f) (t : Turn F w w') (hn : m ∉ F) : MapF w' m s f := by
  obtain ⟨D, ⟨es, clock, hb, r⟩, h2⟩ := h
  exact ⟨D, ⟨es, clock, t.heap hb hn, r⟩, h2⟩
theorem MapF.congr {w : World} {m s : Nat} {f g : Nat → Option Nat} (h : MapF w m s f) (e : ∀ i, f i = g i) : MapF w m s g := by
  rw [← funext e]; exact h
theorem MapF.made (w : World) : MapF (w.alloc (.map #[] 0)) w.heap.size 0 (fun _ => none) :=
  ⟨.map [], World.ownsMap_made _ _ _ _, rfl, fun i => rfl, fun i y h => by cases h⟩

theorem wf_small {i : Nat} (h : i ≤ 100000) : (Lit.int .i64 (i : Int)).wf = true := WalkArith.wf_i64 (by omega)

theorem key3 {i : Nat} (h : i ≤ 100000) : keyOf Try.prog 3 (.int .i64 (i : Int)) = some (.int .i64 i) := keyOf_int_mk Try.underlying3 (wf_small h)

theorem MapF.at {w : World} {m s : Nat} {D : DataW Unit} {f : Nat → Option Nat} (h1 : ∀ i : Nat, Maps.has D (.int .i64 i) = (f i).isSome) (h2 : ∀ i y : Nat, f i = some y → D.atKey (.int .i64 i) (.lit (.int .i64 0)) = .lit (.int .i64 y))
    {i : Nat} {c : Int} (h : D.atKey (.int .i64 (i : Int)) (.lit (.int .i64 0)) = .lit (.int .i64 c)) : c = (((f i).getD 0 : Nat) : Int) := by
  cases e : f i with
  | none =>
    have h3 := h1 i
    rw [e] at h3
    rw [Maps.atKey_of_not_has h3] at h
    injection h with h; injection h with _ h
    simp [← h]
  | some y =>
    rw [h2 i y e] at h
    injection h with h; injection h with _ h
    simp [← h]

section
variable {ops : Array Oper} {rest : List Oper} {o : Oper} {a : Act} {Q : Exit → Act → World → Prop}

theorem wpList_lookF (w : World) (hg : o.guard = none) (mo x : Operand) (hop : o.op = Op.lookup 43 mo x false) (m s : Nat) (f : Nat → Option Nat) (hm : a.eval mo = .map (some m)) (h : MapF w m s f)
    (i : Nat) (hx : a.eval x = .int .i64 (i : Int)) (hi : i ≤ 100000) (hK : wpList Try.prog ops Q rest (a.put o.dst (.int .i64 (((f i).getD 0 : Nat) : Int))) w) : wpList Try.prog ops Q (o :: rest) a w := by
  obtain ⟨D, hown, hs, h1, h2⟩ := h
  refine wpList_lookup_own_int w hg mo x 43 hop 3 3 .i64 law3 Try.underlying43 Try.underlying3 (zero3 _) m s D hm hown _ _ hx (key3 hi) fun c hat _ => ?_
  rw [MapF.at (w := w) (m := m) (s := s) h1 h2 hat]
  exact hK

theorem wpList_lookF_ok (w : World) (hg : o.guard = none) (mo x : Operand) (hop : o.op = Op.lookup 43 mo x true) (m s : Nat) (f : Nat → Option Nat) (hm : a.eval mo = .map (some m)) (h : MapF w m s f)
    (i : Nat) (hx : a.eval x = .int .i64 (i : Int)) (hi : i ≤ 100000) (hK : wpList Try.prog ops Q rest (a.put o.dst (.tuple #[.int .i64 (((f i).getD 0 : Nat) : Int), .bool (f i).isSome])) w) : wpList Try.prog ops Q (o :: rest) a w := by
  obtain ⟨D, hown, hs, h1, h2⟩ := h
  refine wpList_lookup_own_ok_int w hg mo x 43 hop 3 3 .i64 law3 Try.underlying43 Try.underlying3 (zero3 _) m s D hm hown _ _ hx (key3 hi) fun c hat _ => ?_
  rw [MapF.at (w := w) (m := m) (s := s) h1 h2 hat, h1 i]
  exact hK

theorem wpList_lenF (w : World) (hg : o.guard = none) (mo : Operand) (hop : o.op = Op.call { callee := Callee.builtin Builtin.len, args := #[mo], argTypes := #[43] }) (m s : Nat) (f : Nat → Option Nat) (hm : a.eval mo = .map (some m)) (h : MapF w m s f)
    (hK : wpList Try.prog ops Q rest (a.put o.dst (.int .i64 (s : Int))) w) : wpList Try.prog ops Q (o :: rest) a w := by
  obtain ⟨D, hown, hs, h1, h2⟩ := h
  refine wpList_len_own w hg mo 43 hop 3 3 Try.underlying43 _ m s D hm hown ?_
  rw [hs]
  exact hK

theorem run_lenF (w : World) (m s : Nat) (f : Nat → Option Nat) (h : MapF w m s f) (ty : TypeId) : (Builtin.len_ #[43] ty #[.map (some m)]).run Try.prog w = .ok (.int .i64 (s : Int)) w := by
  obtain ⟨D, hown, hs, h1, h2⟩ := h
  rw [hown.len Try.underlying43, hs]

theorem ownsMap_resize {w : World} {m n : Nat} {D : DataW Unit} (h : w.ownsMap Try.prog 3 (plainElem Try.prog 3) m n D) : w.ownsMap Try.prog 3 (plainElem Try.prog 3) m (Maps.size D) D := by
  obtain ⟨es, clock, hb, F, hs, rfl⟩ := h
  exact ⟨es, clock, hb, F, Nat.le_of_eq (by simp [Maps.size, length_sorted]), rfl⟩

theorem wpList_storeF (w : World) (hg : o.guard = none) (mo x v : Operand) (hop : o.op = Op.mapUpdate 43 mo x v) (m s : Nat) (f : Nat → Option Nat) (hm : a.eval mo = .map (some m)) (h : MapF w m s f) (hs : s ≤ 1000000)
    (i y : Nat) (hx : a.eval x = .int .i64 (i : Int)) (hv : a.eval v = .int .i64 (y : Int)) (hi : i ≤ 100000) (hy : y ≤ 100000)
    (hK : ∀ w', MapF w' m (if (f i).isSome then s else s + 1) (updF f i y) → Turn [m] w w' → wpList Try.prog ops Q rest (a.put o.dst undef) w') : wpList Try.prog ops Q (o :: rest) a w := by
  obtain ⟨D, hown, hsz, h1, h2⟩ := h
  refine wpList_mapUpdate_own w hg mo x v 43 hop 3 3 law3 Try.underlying43 _ m s D hm hown (by unfold maxLen; omega) _ _ _ hx hv (key3 hi) _ [] (plainElem_int Try.underlying3 (wf_small hy)) fun w' hown' hgrow => ?_
  refine hK w' ⟨D.put (.int .i64 (i : Int)) (.lit (.int .i64 (y : Int))), ?_, ?_, ?_, ?_⟩ ((Turn.refl _ _).grown hgrow (fun k hk => .inl (by cases hk; simp)))
  · have := ownsMap_resize hown'
    rw [Maps.size_put (hown.tidy law3), hsz, h1 i] at this
    exact this
  · rw [Maps.size_put (hown.tidy law3), hsz, h1 i]
  · intro j
    unfold updF
    by_cases e : j = i
    · subst e
      rw [Maps.has_put_same hown.isMap (law3.key (key3 hi))]
      simp
    · rw [Maps.has_put_other (fun e2 => e (by injection e2 with _ e2; omega)), h1 j]
      simp [e]
  · intro j z hz
    unfold updF at hz
    by_cases e : j = i
    · subst e
      rw [if_pos rfl] at hz
      injection hz with hz
      subst hz
      exact Maps.atKey_put_same hown.isMap (law3.key (key3 hi)) _ _
    · rw [if_neg e] at hz
      rw [Maps.atKey_put_other (fun e2 => e (by injection e2 with _ e2; omega))]
      exact h2 j z hz
end
end Go.Proofs.Ytjgabnphafkgoaa
