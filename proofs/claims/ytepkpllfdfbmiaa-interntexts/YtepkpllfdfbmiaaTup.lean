/- Tuples: nine cells, as the code keeps them; read, written, and as a map's keys. -/
import Derived.Test.YtepkpllfdfbmiaaKit
import Derived.DeepKeys4
import Derived.Laws.CopyRow
import Derived.Laws.CopyOwn
set_option linter.unusedSimpArgs false
set_option linter.unusedVariables false
namespace Go.Proofs.Ytepkpllfdfbmiaa
open Go.RowKit Go.Maps

/-- Nine numbers as cells, as one value. -/
def tC (t : List Int) : Array Value := (t.map (Value.int .i64)).toArray
def tV (t : List Int) : Value := .agg (tC t)
/-- The tuple of some numbers: how many, they, noughts. -/
def tup (ns : List Int) : List Int := (ns.length : Int) :: (ns ++ List.replicate (8 - ns.length) 0)
theorem tup_length {ns : List Int} (h : ns.length ≤ 8) : (tup ns).length = 9 := by simp [tup]; omega
theorem tup_inj {a b : List Int} (h : tup a = tup b) : a = b := by
  unfold tup at h
  injection h with h1 h2
  have hl : a.length = b.length := by omega
  rw [hl] at h2
  exact List.append_cancel_right h2
theorem tC_size (t : List Int) : (tC t).size = t.length := by simp [tC]
theorem tV_cells (t : List Int) : (tV t).cells = tC t := rfl
theorem tC_at {t : List Int} {k : Nat} {y : Int} (h : t[k]? = some y) : (tC t)[k]? = some (.int .i64 y) := by simp [tC, h]
theorem tC_inj {a b : List Int} (h : tC a = tC b) : a = b := by
  unfold tC at h
  have h' : a.map (Value.int .i64) = b.map (Value.int .i64) := by simpa using h
  exact (List.map_inj_right (fun x y e => by injection e)).1 h'
theorem tV_inj {a b : List Int} (h : tV a = tV b) : a = b := by
  unfold tV at h
  injection h with h
  exact tC_inj h

theorem size61 : (Try.prog.info? 61).map (·.size) = some 9 := by kernel_rfl
theorem sizeOf61 (w : World) : (sizeOf 61).run Try.prog w = .ok 9 w := by kernel_rfl
theorem isAgg61 (w : World) : (isAgg 61).run Try.prog w = .ok true w := by kernel_rfl

theorem load61 {w : World} {g o : Nat} {t : List Int} (ht : t.length = 9) (h : ∀ k y, t[k]? = some y → w.cell? ⟨g, o + k, none⟩ = some (.int .i64 y)) :
    (Instr.loadAt 61 (.pointer (some ⟨g, o, none⟩))).run Try.prog w = .ok (tV t) w := by
  have hl := run_loadCells_list (P := Try.prog) w ⟨g, o, none⟩ (t.map (Value.int .i64)) (fun j v hv => by
    rw [List.getElem?_map] at hv
    cases hy : t[j]? with
    | none => rw [hy] at hv; cases hv
    | some y =>
      rw [hy] at hv
      injection hv with hv
      subst hv
      rw [Addr.add_lit]
      exact h j y hy)
  rw [List.length_map, ht] at hl
  simp [Instr.loadAt, Instr.sureAddr, loadVar, isAgg61, sizeOf61, hl, Result.andThen, tV, tC]

/-- Block g is a variable that holds the tuple t. -/
def Vr (w : World) (g : Nat) (t : List Int) : Prop := t.length = 9 ∧ w.heap[g]? = some (.cells (tC t) 61 (0, 0))
theorem Vr.load {w : World} {g : Nat} {t : List Int} (h : Vr w g t) : (Instr.loadAt 61 (.pointer (some ⟨g, 0, none⟩))).run Try.prog w = .ok (tV t) w :=
  load61 h.1 (fun k y hy => by rw [cell_of_row w g _ _ _ _ h.2, Nat.zero_add]; exact tC_at hy)
theorem Vr.loadVar {w : World} {g : Nat} {t : List Int} (h : Vr w g t) : (loadVar 61 ⟨g, 0, none⟩).run Try.prog w = .ok (tV t) w := by
  have := h.load
  simpa [Instr.loadAt, Instr.sureAddr] using this
theorem Vr.lt {w : World} {g : Nat} {t : List Int} (h : Vr w g t) : g < w.heap.size := (Array.getElem?_eq_some_iff.1 h.2).1
theorem Vr.turn {F : List Nat} {w w' : World} {g : Nat} {t : List Int} (h : Vr w g t) (k : Turn F w w') (hn : g ∉ F) : Vr w' g t := ⟨h.1, k.heap h.2 hn⟩
theorem Vr.store {w : World} {g : Nat} {t u : List Int} (h : Vr w g t) (hu : u.length = 9) :
    (Instr.storeAt 61 (.pointer (some ⟨g, 0, none⟩)) (tV u)).run Try.prog w = .ok () (w.setRow g (tC u)) ∧ Vr (w.setRow g (tC u)) g u := by
  have hs := run_storeCells_at Try.prog g 0 61 (u.map (Value.int .i64)) 0 (tC t) w h.2 (by rw [tC_size, h.1]; simp [hu]) (fun v hv => by
    obtain ⟨y, _, rfl⟩ := List.mem_map.1 hv
    rfl)
  have e : (List.take (0 + 0) (tC t).toList ++ u.map (Value.int .i64) ++ List.drop (0 + 0 + (u.map (Value.int .i64)).length) (tC t).toList).toArray = tC u := by
    rw [List.drop_of_length_le (by simp [tC, h.1, hu])]
    simp [tC]
  rw [e] at hs
  refine ⟨?_, hu, setRow_heap w g _ _ 61 _ h.2⟩
  simp [Instr.storeAt, Instr.sureAddr, storeVar, tV_cells, tC_size, hu, sizeOf61, Result.andThen]
  have e2 : (tC u).toList = u.map (Value.int .i64) := by simp [tC]
  rw [e2]
  exact hs
theorem Vr.cells {w : World} {g : Nat} {t : List Int} (h : Vr w g t) : (loadCellsFrom ⟨g, 0, none⟩ 0 9 #[]).run Try.prog w = .ok (tC t) w := by
  have hl := run_loadCells_list (P := Try.prog) w ⟨g, 0, none⟩ (tC t).toList (fun j v hv => by
    rw [Addr.add_lit, cell_of_row w g _ _ _ _ h.2, Nat.zero_add]
    simpa using hv)
  have e : (tC t).toList.length = 9 := by simp [tC, h.1]
  rw [e] at hl
  simpa [loadCells] using hl
theorem Turn.setRow {F : List Nat} {a w : World} (h : Turn F a w) {g : Nat} (hp : g ∈ F ∨ a.heap.size ≤ g) (cs : Array Value) : Turn F a (w.setRow g cs) :=
  h.trans (G := [g]) ⟨rfl, rfl, rfl, by simp, fun k hk hn => setRow_other w g k cs (by simpa using hn)⟩ (by simpa using hp)
theorem Vr.box (w : World) {t : List Int} (ht : t.length = 9) : Vr (w.alloc (.cells (tC t) 61)) w.heap.size t := ⟨ht, heap_alloc_new w _⟩
def zeroT : List Int := [0, 0, 0, 0, 0, 0, 0, 0, 0]
theorem alloc61 (w : World) : (Instr.alloc 61 true (.tuple #[])).run Try.prog w = .ok (.pointer (some ⟨w.heap.size, 0, none⟩)) (w.alloc (.cells (tC zeroT) 61)) := by kernel_rfl
theorem box61 (w : World) (t : List Int) : (Instr.box 61 (tV t)).run Try.prog w = .ok (.pointer (some ⟨w.heap.size, 0, none⟩)) (w.alloc (.cells (tC t) 61)) := by
  simp [Instr.box, newVar, newRow, tV_cells, Result.andThen]

theorem try_laidOut : laidOutB Try.prog = true := by kernel_rfl
theorem row61 : (61 : TypeId) < Try.prog.types.size := of_decide_eq_true (by kernel_rfl)
theorem wide61 : (match Try.prog.underlying 61 with | some (.array _ _) | some (.struct _) => true | _ => false) = true := by rw [Try.underlying61]
theorem law61 : Keyed Try.prog 61 := Keyed.of_law (deep_law_laid try_laidOut (m := 3) (by omega) row61 (by kernel_rfl) wide61)
theorem keyType61 : Try.prog.keyType 61 = true := by kernel_rfl
theorem cells61 : Try.prog.cellsOf 61 = 9 := by kernel_rfl
theorem cells59 : Try.prog.cellsOf 59 = 8 := by kernel_rfl
theorem cells3 : Try.prog.cellsOf 3 = 1 := by kernel_rfl
theorem types94 : Try.prog.types.size = 94 := by kernel_rfl

/-- All numbers are ints. -/
def Wf (l : List Int) : Prop := ∀ y ∈ l, (Lit.int .i64 y).wf = true

theorem keyLits3 (d : Nat) (x : Int) (h : (Lit.int .i64 x).wf = true) : Try.prog.keyLits (d + 1) 3 [.int .i64 x] = some [.int .i64 x] := by
  unfold Program.keyLits
  rw [Try.underlying3]
  simp [h]
theorem keyLits59 (d : Nat) (l : List Int) (hl : l.length = 8) (hw : Wf l) : (Try.prog.keyLits (d + 2) 59 (l.map (Value.int .i64))).isSome = true := by
  match l, hl with
  | [a, b, c, e, f, g, h, i], _ =>
    have r : List.range 8 = [0, 1, 2, 3, 4, 5, 6, 7] := by decide
    have w1 := hw a (by simp)
    have w2 := hw b (by simp)
    have w3 := hw c (by simp)
    have w4 := hw e (by simp)
    have w5 := hw f (by simp)
    have w6 := hw g (by simp)
    have w7 := hw h (by simp)
    have w8 := hw i (by simp)
    unfold Program.keyLits
    rw [Try.underlying59]
    simp [cells59, cells3, r, keyLits3, w1, w2, w3, w4, w5, w6, w7, w8]
theorem keyLits61 (d : Nat) (x : Int) (l : List Int) (hx : (Lit.int .i64 x).wf = true) (hl : l.length = 8) (hw : Wf l) : (Try.prog.keyLits (d + 3) 61 ((x :: l).map (Value.int .i64))).isSome = true := by
  obtain ⟨ls, hls⟩ := Option.isSome_iff_exists.1 (keyLits59 d l hl hw)
  have e1 : (l.map (Value.int .i64)).take 8 = l.map (Value.int .i64) := List.take_of_length_le (by simp [hl])
  unfold Program.keyLits
  rw [Try.underlying61]
  simp [cells61, cells59, cells3, hl, keyLits3, hx, e1, hls, -List.map_take]
theorem key61_some {t : List Int} (ht : t.length = 9) (hw : Wf t) : (keyOf Try.prog 61 (tV t)).isSome = true := by
  match t, ht with
  | x :: l, ht =>
    have hl : l.length = 8 := by simpa using ht
    have h1 := keyLits61 92 x l (hw x (by simp)) hl (fun y hy => hw y (by simp [hy]))
    have hf : (tV (x :: l)).formed Try.prog 61 = true := by simp [Value.formed, Try.underlying61, cells61, tV, tC, hl]
    unfold keyOf
    rw [Try.underlying61]
    have e2 : (tV (x :: l)).cells.toList = (x :: l).map (Value.int .i64) := by simp [tV_cells, tC]
    simp only [keyType61, hf, types94, e2]
    simpa using h1
/-- A tuple's key. -/
def tKP (P : Program) (t : List Int) : Lit := (keyOf P 61 (tV t)).getD (.bool false)
theorem key61 {t : List Int} (ht : t.length = 9) (hw : Wf t) : keyOf Try.prog 61 (tV t) = some (tKP Try.prog t) := by
  obtain ⟨l, hl⟩ := Option.isSome_iff_exists.1 (key61_some ht hw)
  unfold tKP
  rw [hl]
  rfl
theorem tK_inj {a b : List Int} (ha : a.length = 9) (hwa : Wf a) (hb : b.length = 9) (hwb : Wf b) (h : tKP Try.prog a = tKP Try.prog b) : a = b :=
  tV_inj (law61.inj (key61 ha hwa) (h ▸ key61 hb hwb))
theorem Wf.tup {ns : List Int} (h : Wf ns) (hl : ns.length ≤ 8) : Wf (tup ns) := by
  intro y hy
  unfold Ytepkpllfdfbmiaa.tup at hy
  rcases List.mem_cons.1 hy with rfl | hy
  · exact WalkArith.wf_i64 (by omega)
  · rcases List.mem_append.1 hy with hy | hy
    · exact h y hy
    · have := List.eq_of_mem_replicate hy
      subst this
      decide

/-! Maps from things to numbers: L is the list of the things that have numbers, each at its own. -/
section
variable {α : Type} [DecidableEq α]

/-- Where a thing stands; nought, if nowhere. -/
def fnd (L : List α) (t : α) : Nat := if t ∈ L then L.idxOf t else 0
def inB (L : List α) (t : α) : Bool := decide (t ∈ L)
theorem fnd_at {L : List α} {i : Nat} {t : α} (hL : L.Nodup) (h : L[i]? = some t) : fnd L t = i := by
  obtain ⟨hi, e⟩ := List.getElem?_eq_some_iff.1 h
  unfold fnd
  rw [if_pos (List.mem_of_getElem? h), ← e]
  exact hL.idxOf_getElem i hi
theorem fnd_in {L : List α} {t : α} (h : t ∈ L) : L[fnd L t]? = some t := by
  unfold fnd
  rw [if_pos h]
  have hl := List.idxOf_lt_length_of_mem h
  rw [List.getElem?_eq_getElem hl]
  simp
theorem fnd_out {L : List α} {t : α} (h : t ∉ L) : fnd L t = 0 := by
  unfold fnd
  rw [if_neg h]
theorem fnd_le (L : List α) (t : α) : fnd L t ≤ L.length := by
  unfold fnd
  split
  · rename_i h
    exact Nat.le_of_lt (List.idxOf_lt_length_of_mem h)
  · omega

/-- Block m is a map of keys of type k (κ tells a thing's key, G which things may be keys): L's things, each at its place. -/
def MK (k : TypeId) (κ : α → Lit) (G : α → Prop) (w : World) (m : Nat) (L : List α) : Prop :=
  ∃ D : DataW Unit, w.ownsMap Try.prog k (plainElem Try.prog 3) m L.length D ∧ (∀ t, G t → Maps.has D (κ t) = inB L t) ∧ ∀ (i : Nat) t, G t → L[i]? = some t → D.atKey (κ t) (.lit (.int .i64 0)) = .lit (.int .i64 (i : Int))
variable {k : TypeId} {κ : α → Lit} {G : α → Prop}
theorem MK.lt {w : World} {m : Nat} {L : List α} (h : MK k κ G w m L) : m < w.heap.size := by
  obtain ⟨D, h, _⟩ := h
  exact h.lt
theorem MK.turn {F : List Nat} {w w' : World} {m : Nat} {L : List α} (h : MK k κ G w m L) (t : Turn F w w') (hn : m ∉ F) : MK k κ G w' m L := by
  obtain ⟨D, ⟨es, clock, hb, r⟩, h2⟩ := h
  exact ⟨D, ⟨es, clock, t.heap hb hn, r⟩, h2⟩
theorem MK.made (w : World) : MK k κ G (w.alloc (.map #[] 0)) w.heap.size [] :=
  ⟨.map [], World.ownsMap_made _ _ _ _, fun t _ => rfl, fun i t _ h => by simp at h⟩
theorem MK.blk {w : World} {m : Nat} {L : List α} (h : MK k κ G w m L) : ∃ es clock, w.heap[m]? = some (.map es clock) := by
  obtain ⟨D, ⟨es, clock, hb, r⟩, h2⟩ := h
  exact ⟨es, clock, hb⟩
theorem zero3 (w : World) : (zeroValue 3).run Try.prog w = .ok (.int .i64 0) w := by kernel_rfl

/-- A map value: nil, or a map. -/
def Mb (k : TypeId) (κ : α → Lit) (G : α → Prop) (w : World) (M : Value) (L : List α) : Prop := (M = .map none ∧ L = []) ∨ ∃ m, M = .map (some m) ∧ MK k κ G w m L
theorem Mb.turn {F : List Nat} {w w' : World} {M : Value} {L : List α} (h : Mb k κ G w M L) (t : Turn F w w') (hn : ∀ m, M = .map (some m) → m ∉ F) : Mb k κ G w' M L := by
  rcases h with h | ⟨m, rfl, h⟩
  · exact .inl h
  · exact .inr ⟨m, rfl, h.turn t (hn m rfl)⟩

/-- A look-up. -/
theorem Mb.look {mt : TypeId} {w : World} {M : Value} {L : List α} (K : Keyed Try.prog k) (hu : Try.prog.underlying mt = some (.map k 3)) (h : Mb k κ G w M L) (hL : L.Nodup) {v : Value} {t : α} (hG : G t) (hk : keyOf Try.prog k v = some (κ t)) :
    (Instr.lookup mt M v true).run Try.prog w = .ok (.tuple #[.int .i64 (fnd L t : Int), .bool (inB L t)]) w := by
  rcases h with ⟨rfl, rfl⟩ | ⟨m, rfl, D, hown, h1, h2⟩
  · rw [Maps.look_nil true K hu (zero3 w) hk]
    rfl
  · obtain ⟨v0, ps, hrun, hv⟩ := hown.look_ok K hu (zero3 w) (plainElem_int Try.underlying3 (by decide)) hk
    obtain ⟨c, rfl, hc, hwc⟩ := plainElem_int_inv Try.underlying3 hv
    have hat : D.atKey (κ t) (.lit (.int .i64 0)) = .lit (.int .i64 c) := congrArg Prod.fst hc
    rw [hrun, h1 t hG]
    by_cases hin : t ∈ L
    · have h3 := h2 _ t hG (fnd_in hin)
      rw [hat] at h3
      injection h3 with h3; injection h3 with _ h3
      rw [h3]
    · have h4 : Maps.has D (κ t) = false := by rw [h1 t hG]; simp [inB, hin]
      rw [Maps.atKey_of_not_has h4] at hat
      injection hat with hat; injection hat with _ hat
      rw [fnd_out hin, ← hat]
      rfl

theorem ownsMap_resize {w : World} {m n : Nat} {D : DataW Unit} (h : w.ownsMap Try.prog k (plainElem Try.prog 3) m n D) : w.ownsMap Try.prog k (plainElem Try.prog 3) m (Maps.size D) D := by
  obtain ⟨es, clock, hb, F, hs, rfl⟩ := h
  exact ⟨es, clock, hb, F, Nat.le_of_eq (by simp [Maps.size, length_sorted]), rfl⟩

/-- A new thing stored at the next number. -/
theorem MK.put {mt : TypeId} {w : World} {m : Nat} {L : List α} (K : Keyed Try.prog k) (hu : Try.prog.underlying mt = some (.map k 3)) (h : MK k κ G w m L) (hl : L.length ≤ 1000000) (hinj : ∀ a b, G a → G b → κ a = κ b → a = b)
    {v : Value} {t : α} (hG : G t) (hk : keyOf Try.prog k v = some (κ t)) (hin : t ∉ L) :
    ∃ w', (Instr.mapUpdate mt (.map (some m)) v (.int .i64 (L.length : Int))).run Try.prog w = .ok () w' ∧ MK k κ G w' m (L ++ [t]) ∧ Turn [m] w w' := by
  obtain ⟨D, hown, h1, h2⟩ := h
  have hwf : (Lit.int .i64 (L.length : Int)).wf = true := WalkArith.wf_i64 (by omega)
  obtain ⟨w', hrun, hown', hgrow⟩ := hown.update K hu (by unfold maxLen; omega) hk (plainElem_int Try.underlying3 hwf)
  refine ⟨w', hrun, ⟨_, by rw [List.length_append]; exact hown', ?_, ?_⟩, (Turn.refl _ _).grown hgrow (fun k hk => .inl (by cases hk; simp))⟩
  · intro u hu'
    by_cases e : u = t
    · subst e
      rw [Maps.has_put_same hown.isMap (K.key hk)]
      simp [inB]
    · rw [Maps.has_put_other (fun e2 => e (hinj _ _ hu' hG e2)), h1 u hu']
      simp [inB, e]
  · intro i u hu' hi
    by_cases e : u = t
    · subst e
      have : i = L.length := by
        rcases Nat.lt_or_ge i L.length with h | h
        · rw [List.getElem?_append_left h] at hi
          exact absurd (List.mem_of_getElem? hi) hin
        · have := (List.getElem?_eq_some_iff.1 hi).1
          simp at this
          omega
      subst this
      exact Maps.atKey_put_same hown.isMap (K.key hk) _ _
    · rw [Maps.atKey_put_other (fun e2 => e (hinj _ _ hu' hG e2))]
      refine h2 i u hu' ?_
      rcases Nat.lt_or_ge i L.length with h | h
      · rw [List.getElem?_append_left h] at hi
        exact hi
      · rw [List.getElem?_append_right h] at hi
        have hz : i - L.length = 0 := by
          have := (List.getElem?_eq_some_iff.1 hi).1
          simp at this
          omega
        rw [hz] at hi
        simp at hi
        exact absurd hi.symm e
end
end Go.Proofs.Ytepkpllfdfbmiaa
