import Derived.Test.YtjnphoeifonenaaDoorQ04Eof
import Derived.Test.YtjnphoeifonenaaDoorQ02Tbl
import Derived.Test.YtjnphoeifonenaaDoorQ05Fil
import Derived.Test.YtjnphoeifonenaaDoorQ03Rnw
import Derived.Handy

/- faultAt. -/
set_option linter.unusedSimpArgs false
set_option linter.unusedVariables false
set_option maxRecDepth 100000
namespace Go.Proofs.YtjnphoeifonenaaDoor
open Go.RowKit

theorem results_cell1 {fn : Func} {p : Tmp} {ty : TypeId} (h : fn.results = #[.cell p ty]) (tmps : Array Value) (P : Program) (w : World) :
    (results fn tmps).run P w = ((asAddr (tmps.getD p undef)).run P w).andThen fun a w₁ => (loadVar ty a).run P w₁ := by
  simp only [results, h]
  simp [Sem.run_bind, Result.andThen]
/-- A fault: what it is, and where. -/
def ftC (e p q : Int) : Array Value := #[.int .i64 e, .int .i64 p, .int .i64 q]
theorem sizeOf_fault (w : World) : (sizeOf 36).run Tryd.prog w = .ok 3 w := by kernel_rfl
theorem isAgg_fault (w : World) : (isAgg 36).run Tryd.prog w = .ok true w := by kernel_rfl
theorem load_fault {w : World} {g : Nat} {e p q : Int} (h : w.heap[g]? = some (.cells (ftC e p q) 36 (0, 0))) :
    (loadVar 36 ⟨g, 0, none⟩).run Tryd.prog w = .ok (.agg (ftC e p q)) w := by
  have hl := run_loadCells_list (P := Tryd.prog) w ⟨g, 0, none⟩ [.int .i64 e, .int .i64 p, .int .i64 q] (fun j v hv => by
    rw [Addr.add_lit, cell_of_row w g _ _ _ _ h, Nat.zero_add]
    simpa [ftC] using hv)
  simp only [List.length_cons, List.length_nil, Nat.zero_add, Nat.reduceAdd] at hl
  simp [loadVar, isAgg_fault, sizeOf_fault, hl, Result.andThen, ftC]
theorem ret_fault {w : World} {g : Nat} {e p q : Int} {tmps : Array Value} (h : w.heap[g]? = some (.cells (ftC e p q) 36 (0, 0))) (h2 : tmps.getD 2 undef = .pointer (some ⟨g, 0, none⟩)) :
    (results Tryd.f28 tmps).run Tryd.prog w = .ok (.agg (ftC e p q)) w := by
  rw [results_cell1 (p := 2) (ty := 36) rfl, h2]
  simp [asAddr, load_fault h, Result.andThen]

set_option maxHeartbeats 3200000 in
theorem faultAt_any (c : K8) (A3 : Option Addr) (c3 : Nat) (A4 : Option Addr) (n4 c4 : Nat) (A5 : Option Addr) (n5 c5 : Nat) (A6 : Option Addr) (n6 c6 : Nat) (I : Option Addr) (w : World) :
    Calls Tryd.prog 28 #[.agg #[.string c.nm, .string c.sup, .bool c.face, .slice A3 c.fcs.length c3, .slice A4 n4 c4, .slice A5 n5 c5, .slice A6 n6 c6, .pointer I, .int .i64 c.p, .int .i64 c.q]] w fun e w' =>
      e = .returned (.agg (ftC 11 c.p c.q)) ∧ Turn [] w w' := by
  go_enter Tryd.func28, Tryd.ntmps28
  go_wp2_with fail
  refine bodyPost_ret (ret_fault (e := 11) (p := c.p) (q := c.q) (g := w.heap.size + 1) ?_ rfl) rfl ⟨rfl, ((Turn.refl [] w).alloc _).alloc _⟩
  have := heap_alloc_new (w.alloc (.cells #[.string c.nm, .string c.sup, .bool c.face, .slice A3 c.fcs.length c3, .slice A4 n4 c4, .slice A5 n5 c5, .slice A6 n6 c6, .pointer I, .int .i64 c.p, .int .i64 c.q] 51)) (.cells (ftC 11 c.p c.q) 36)
  rwa [World.size_alloc] at this
end Go.Proofs.YtjnphoeifonenaaDoor

/- What reach answers, said of ways: plain. -/
set_option linter.unusedSimpArgs false
set_option linter.unusedVariables false
set_option maxRecDepth 100000
namespace Go.Proofs.YtjnphoeifonenaaDoor
open Go.RowKit

/-- A way from i to j, among those below n that T hasn't. -/
inductive Ua (nx : Nat → List Nat) (n : Nat) (T : List Int) : Nat → Nat → Prop
  | refl {i : Nat} (h : i < n) (ht : (i : Int) ∉ T) : Ua nx n T i i
  | step {i j a : Nat} (h : Ua nx n T i j) (ha : a ∈ nx j) (hn : a < n) (ht : (a : Int) ∉ T) : Ua nx n T i a
section
variable {nx : Nat → List Nat} {n : Nat} {T : List Int}
theorem Ua.lt {i j : Nat} (h : Ua nx n T i j) : j < n := by
  cases h with
  | refl h _ => exact h
  | step _ _ h _ => exact h
theorem Ua.out {i j : Nat} (h : Ua nx n T i j) : (j : Int) ∉ T := by
  cases h with
  | refl _ h => exact h
  | step _ _ _ h => exact h
theorem Ua.trans {i j k : Nat} (h : Ua nx n T i j) (hk : Ua nx n T j k) : Ua nx n T i k := by
  induction hk with
  | refl _ _ => exact h
  | step _ ha hn ht ih => exact .step ih ha hn ht
theorem meetL_ext (hn : n ≤ 1000000) : ∀ (is l L : List Int), ∃ X, (meetL n is l L).2 = L ++ X ∧ (∀ y, y ∈ (meetL n is l L).1 ↔ y ∈ l ∨ y ∈ X) ∧ (∀ y ∈ X, y ∈ is ∧ (0 ≤ y ∧ y < (n : Int)) ∧ y ∉ l) ∧ (∀ y ∈ is, 0 ≤ y → y < (n : Int) → y ∈ (meetL n is l L).1)
  | [], l, L => ⟨[], by simp [meetL], by simp [meetL], by simp, by simp⟩
  | i :: is, l, L => by
    rw [meetL_cons]
    cases hm : mayB n l i with
    | true =>
      obtain ⟨X, h1, h2, h3, h4⟩ := meetL_ext hn is (stepL n l i) (L ++ [i])
      have hm' := hm
      unfold mayB at hm'
      rw [Bool.and_eq_true, decide_eq_true_eq] at hm'
      have hni : i ∉ l := by
        have := hm'.2
        simpa [hasB] using this
      simp only [if_true]
      refine ⟨i :: X, by rw [h1]; simp, fun y => ?_, fun y hy => ?_, fun y hy hy0 hyn => ?_⟩
      · rw [h2, mem_step hn]
        constructor
        · rintro ((h | ⟨h, _⟩) | h)
          · exact .inl h
          · exact .inr (by rw [h]; simp)
          · exact .inr (by simp [h])
        · rintro (h | h)
          · exact .inl (.inl h)
          · rcases List.mem_cons.1 h with rfl | h
            · exact .inl (.inr ⟨rfl, hm'.1⟩)
            · exact .inr h
      · rcases List.mem_cons.1 hy with rfl | hy
        · exact ⟨by simp, hm'.1, hni⟩
        · have := h3 y hy
          exact ⟨by simp [this.1], this.2.1, fun h => this.2.2 ((mem_step hn).2 (.inl h))⟩
      · rcases List.mem_cons.1 hy with rfl | hy
        · exact (h2 y).2 (.inl ((mem_step hn).2 (.inr ⟨rfl, hy0, hyn⟩)))
        · exact h4 y hy hy0 hyn
    | false =>
      obtain ⟨X, h1, h2, h3, h4⟩ := meetL_ext hn is (stepL n l i) L
      have hs : stepL n l i = l := by unfold stepL; rw [hm]; rfl
      rw [hs] at h1 h2 h3 h4
      simp only [Bool.false_eq_true, if_false]
      rw [hs]
      refine ⟨X, h1, h2, fun y hy => ⟨by simp [(h3 y hy).1], (h3 y hy).2⟩, fun y hy hy0 hyn => ?_⟩
      rcases List.mem_cons.1 hy with rfl | hy
      · unfold mayB at hm
        have hr : decide (0 ≤ y ∧ y < (n : Int)) = true := by simpa using ⟨hy0, hyn⟩
        rw [hr] at hm
        have hy2 : y ∈ l := by simpa [hasB] using hm
        exact (h2 y).2 (.inl hy2)
      · exact h4 y hy hy0 hyn
/-- k of those found are done. -/
structure Gi (nx : Nat → List Nat) (n : Nat) (is T : List Int) (k : Nat) (l L : List Int) : Prop where
  a : ∀ y, y ∈ l ↔ y ∈ T ∨ y ∈ L
  b : ∀ y ∈ L, ∃ i j : Nat, (i : Int) ∈ is ∧ y = (j : Int) ∧ Ua nx n T i j
  c : ∀ y ∈ is, 0 ≤ y → y < (n : Int) → y ∈ l
  d : ∀ (q : Nat) (x : Nat), q < k → L[q]? = some (x : Int) → ∀ a ∈ nx x, a < n → (a : Int) ∈ l
theorem gi_go (hn : n ≤ 1000000) {is : List Int} : ∀ (f k : Nat) (l L : List Int), InvL n l L → Gi nx n is T k l L → n < f + k → Gi nx n is T (goL n nx f k l L).2.length (goL n nx f k l L).1 (goL n nx f k l L).2
  | 0, k, l, L, hI, hG, hf => by
    have := nodup_le n L hI.nd hI.lo
    exact ⟨hG.a, hG.b, hG.c, fun q x hq => hG.d q x (by have : q < L.length := hq; omega)⟩
  | f + 1, k, l, L, hI, hG, hf => by
    cases hk : L[k]? with
    | none =>
      have hl : L.length ≤ k := List.getElem?_eq_none_iff.1 hk
      rw [goL_none hl]
      exact ⟨hG.a, hG.b, hG.c, fun q x hq => hG.d q x (by have : q < L.length := hq; omega)⟩
    | some i =>
      rw [goL_some hk]
      obtain ⟨i0, hi0⟩ := Int.eq_ofNat_of_zero_le (hI.lo i (List.mem_of_getElem? hk)).1
      subst hi0
      obtain ⟨X, h1, h2, h3, h4⟩ := meetL_ext hn (ofN (nx i0)) l L
      have e : ((i0 : Int)).toNat = i0 := by simp
      rw [e]
      refine gi_go hn f (k + 1) _ _ (meetL_inv hn _ hI) ⟨fun y => ?_, fun y hy => ?_, fun y hy h0 hyn => ?_, fun q x hq hx a ha han => ?_⟩ (by omega)
      · rw [h2, h1, hG.a, List.mem_append, or_assoc]
      · rw [h1] at hy
        rcases List.mem_append.1 hy with hy | hy
        · exact hG.b y hy
        · obtain ⟨k1, k2, k3⟩ := h3 y hy
          unfold ofN at k1
          obtain ⟨a, ha, rfl⟩ := List.mem_map.1 k1
          obtain ⟨i, j, q1, q2, q3⟩ := hG.b _ (List.mem_of_getElem? hk)
          have q2' : i0 = j := by omega
          subst q2'
          exact ⟨i, a, q1, rfl, .step q3 ha (by omega) (fun h => k3 ((hG.a _).2 (.inl h)))⟩
      · exact (h2 y).2 (.inl (hG.c y hy h0 hyn))
      · have hkl : k < L.length := (List.getElem?_eq_some_iff.1 hk).1
        rw [h1, List.getElem?_append_left (by omega)] at hx
        by_cases hqk : q < k
        · exact (h2 _).2 (.inl (hG.d q x hqk hx a ha han))
        · have hq' : q = k := by omega
          subst hq'
          rw [hk] at hx
          injection hx with hx
          have hx' : i0 = x := by omega
          subst hx'
          exact h4 _ (by unfold ofN; exact List.mem_map.2 ⟨a, ha, rfl⟩) (by omega) (by omega)
theorem reach_gi (hn : n ≤ 1000000) (is : List Int) : Gi nx n is T (reachL n nx is T).2.length (reachL n nx is T).1 (reachL n nx is T).2 := by
  unfold reachL
  have hI : InvL n T [] := ⟨by simp, by simp, by simp⟩
  obtain ⟨X, h1, h2, h3, h4⟩ := meetL_ext hn is T []
  refine gi_go hn _ _ _ _ (meetL_inv hn is hI) ⟨fun y => ?_, fun y hy => ?_, fun y hy h0 hyn => h4 y hy h0 hyn, fun q x hq => by omega⟩ (by omega)
  · rw [h2, h1]; simp
  · rw [h1] at hy
    obtain ⟨k1, k2, k3⟩ := h3 y (by simpa using hy)
    obtain ⟨i, hi⟩ := Int.eq_ofNat_of_zero_le k2.1
    subst hi
    exact ⟨i, i, k1, rfl, .refl (by omega) k3⟩
theorem reach_mem2 (hn : n ≤ 1000000) (is : List Int) (y : Int) : y ∈ (reachL n nx is T).2 ↔ ∃ i j : Nat, (i : Int) ∈ is ∧ y = (j : Int) ∧ Ua nx n T i j := by
  have h := reach_gi (nx := nx) (T := T) hn is
  constructor
  · exact h.b y
  · rintro ⟨i, j, hi, rfl, hu⟩
    have hin : ∀ q : Nat, (q : Int) ∈ (reachL n nx is T).1 → (q : Int) ∉ T → (q : Int) ∈ (reachL n nx is T).2 := fun q hq hqt => by
      rcases (h.a _).1 hq with h1 | h1
      · exact absurd h1 hqt
      · exact h1
    induction hu with
    | refl h1 h2 => exact hin _ (h.c _ hi (by omega) (by omega)) h2
    | step h1 ha h2 h3 ih =>
      obtain ⟨q, hq, hqe⟩ := List.getElem_of_mem ih
      exact hin _ (h.d q _ hq (by rw [List.getElem?_eq_getElem hq, hqe]) _ ha h2) h3
theorem reach_mem1 (hn : n ≤ 1000000) (is : List Int) (y : Int) : y ∈ (reachL n nx is T).1 ↔ y ∈ T ∨ y ∈ (reachL n nx is T).2 := (reach_gi (nx := nx) hn is).a y
theorem sd_step (l : List Int) (h : Sd l) (i : Int) : Sd (stepL n l i) := by
  unfold stepL
  split
  · exact sd_putL h i
  · exact h
theorem sd_meet : ∀ (is l L : List Int), Sd l → Sd (meetL n is l L).1
  | [], l, L, h => h
  | i :: is, l, L, h => by
    rw [meetL_cons]
    exact sd_meet is _ _ (sd_step l h i)
theorem sd_go : ∀ (f k : Nat) (l L : List Int), Sd l → Sd (goL n nx f k l L).1
  | 0, k, l, L, h => h
  | f + 1, k, l, L, h => by
    unfold goL
    split
    · exact h
    · exact sd_go f _ _ _ (sd_meet _ _ _ h)
theorem sd_reach (is : List Int) (h : Sd T) : Sd (reachL n nx is T).1 := sd_go _ _ _ _ (sd_meet _ _ _ h)
end
theorem abv_mem {Es : List En} (hn : Es.length ≤ 1000000) (is : List Int) (y : Int) : y ∈ abvL Es is ↔ ∃ i j : Nat, (i : Int) ∈ is ∧ y = (j : Int) ∧ Ua (nxE Es) Es.length [] i j := by
  unfold abvL
  rw [reach_mem1 hn, reach_mem2 hn]
  simp
theorem sd_abv (Es : List En) (is : List Int) : Sd (abvL Es is) := sd_reach is (by simp [Sd])
/-- All of a list put into another. -/
def putAll : List Int → List Int → List Int
  | [], t => t
  | x :: xs, t => putAll xs (putL t x)
theorem mem_putAll : ∀ (xs t : List Int) (y : Int), (∀ x ∈ xs, okB x = true) → (y ∈ putAll xs t ↔ y ∈ t ∨ y ∈ xs)
  | [], t, y, _ => by simp [putAll]
  | x :: xs, t, y, h => by
    rw [putAll, mem_putAll xs _ y (fun z hz => h z (by simp [hz])), mem_putL, List.mem_cons]
    have := h x (by simp)
    simp only [this, and_true, or_assoc]
theorem sd_putAll : ∀ (xs t : List Int), Sd t → Sd (putAll xs t)
  | [], t, h => h
  | x :: xs, t, h => sd_putAll xs _ (sd_putL h x)
/-- All above each. -/
def bothL (Es : List En) : List Int → List Int → List Int
  | [], t => t
  | i :: is, t => bothL Es is (putAll (abvL Es [i]) t)
theorem mem_bothL {Es : List En} (hn : Es.length ≤ 1000) : ∀ (is t : List Int) (y : Int), y ∈ bothL Es is t ↔ y ∈ t ∨ y ∈ abvL Es is
  | [], t, y => by
    rw [bothL, abv_mem (by omega)]
    simp
  | i :: is, t, y => by
    rw [bothL, mem_bothL hn is, mem_putAll]
    · rw [abv_mem (by omega), abv_mem (by omega), abv_mem (by omega), or_assoc]
      constructor
      · rintro (h | ⟨a, b, h1, h2, h3⟩ | ⟨a, b, h1, h2, h3⟩)
        · exact .inl h
        · exact .inr ⟨a, b, by simp at h1; simp [h1], h2, h3⟩
        · exact .inr ⟨a, b, by simp [h1], h2, h3⟩
      · rintro (h | ⟨a, b, h1, h2, h3⟩)
        · exact .inl h
        · rcases List.mem_cons.1 h1 with h1 | h1
          · exact .inr (.inl ⟨a, b, by simp [h1], h2, h3⟩)
          · exact .inr (.inr ⟨a, b, h1, h2, h3⟩)
    · intro x hx
      obtain ⟨a, b, h1, rfl, h3⟩ := (abv_mem (by omega) _ _).1 hx
      have := h3.lt
      simp [okB]
      omega
theorem sd_bothL (Es : List En) : ∀ (is t : List Int), Sd t → Sd (bothL Es is t)
  | [], t, h => h
  | i :: is, t, h => sd_bothL Es is _ (sd_putAll _ _ h)
theorem both_same {Es : List En} (hn : Es.length ≤ 1000) (is : List Int) : bothL Es is [] = abvL Es is :=
  sd_ext (sd_bothL Es is [] (by simp [Sd])) (sd_abv Es is) (fun x => by rw [mem_bothL hn]; simp)
end Go.Proofs.YtjnphoeifonenaaDoor

/- New: plain, and its results. -/
set_option linter.unusedSimpArgs false
set_option linter.unusedVariables false
set_option maxRecDepth 100000
namespace Go.Proofs.YtjnphoeifonenaaDoor
open Go.RowKit

theorem results_tmp_cell {fn : Func} {p u : Tmp} {ty : TypeId} (h : fn.results = #[.tmp u, .cell p ty]) (tmps : Array Value) (P : Program) (w : World) :
    (results fn tmps).run P w = ((asAddr (tmps.getD p undef)).run P w).andThen fun a w₁ => ((loadVar ty a).run P w₁).andThen fun v w₂ => .ok (.tuple #[tmps.getD u undef, v]) w₂ := by
  simp only [results, h]
  simp [Sem.run_bind, Result.andThen]
theorem ret_new {w : World} {g : Nat} {e p q : Int} {V : Value} {tmps : Array Value} (h : w.heap[g]? = some (.cells (ftC e p q) 36 (0, 0))) (h2 : tmps.getD 3 undef = .pointer (some ⟨g, 0, none⟩)) (h3 : tmps.getD 2 undef = V) :
    (results Tryd.f10 tmps).run Tryd.prog w = .ok (.tuple #[V, .agg (ftC e p q)]) w := by
  rw [results_tmp_cell (p := 3) (u := 2) (ty := 36) rfl, h2, h3]
  simp [asAddr, load_fault h, Result.andThen]
/-- All entries. -/
def esL (l : List K8) : List En := l.map (enOf l)
theorem esL_len (l : List K8) : (esL l).length = l.length := by simp [esL]
theorem nxE_esL {l : List K8} {k : Nat} {c : K8} (h : l[k]? = some c) : nxE (esL l) k = (enOf l c).rt := by
  unfold nxE
  rw [enAt_nat (x := enOf l c) (by unfold esL; rw [List.getElem?_map, h]; rfl)]
theorem enOf_rt {l : List K8} {c : K8} : (∀ a ∈ (enOf l c).rt, a < l.length) ∧ (enOf l c).rt.length ≤ 1 + c.fcs.length := by
  unfold enOf
  cases h : entR8 l c with
  | none => simp [en0]
  | some p =>
    obtain ⟨s, rt⟩ := p
    have := entR8_nat h
    refine ⟨fun a ha => ?_, by simpa using this.2⟩
    obtain ⟨i, hi, rfl⟩ := List.mem_map.1 ha
    obtain ⟨j, rfl, hj⟩ := this.1 i hi
    simpa using hj
theorem esL_ok {l : List K8} (hl : l.length ≤ 1000) (hf : ∀ c ∈ l, c.fcs.length ≤ 999) : EsOk (esL l) where
  lt := fun k a ha => by
    rw [esL_len]
    by_cases hk : k < l.length
    · obtain ⟨c, hc⟩ := at_lt hk
      rw [nxE_esL hc] at ha
      exact enOf_rt.1 a ha
    · unfold nxE at ha
      rw [enAt_out (by rw [esL_len]; omega)] at ha
      simp [en0] at ha
  few := fun k => by
    by_cases hk : k < l.length
    · obtain ⟨c, hc⟩ := at_lt hk
      rw [nxE_esL hc]
      have := enOf_rt (l := l) (c := c)
      have := hf c (List.mem_of_getElem? hc)
      omega
    · unfold nxE
      rw [enAt_out (by rw [esL_len]; omega)]
      simp [en0]
  n := by rw [esL_len]; exact hl
theorem minL_mem : ∀ (l : List Int), l ≠ [] → minL l ∈ l
  | [], h => absurd rfl h
  | [x], _ => by simp [minL]
  | x :: y :: l, _ => by
    rw [minL]
    · have := minL_mem (y :: l) (by simp)
      by_cases hx : x ≤ minL (y :: l)
      · rw [Int.min_eq_left hx]; simp
      · rw [Int.min_eq_right (by omega)]; exact List.mem_cons_of_mem _ this
    · simp
/-- What round answers is a number, or -1. -/
theorem roundL_lt {Es : List En} (hn : Es.length ≤ 1000000) : ∀ (xs l : List Int) (first : Int), (first = -1 ∨ (0 ≤ first ∧ first < (Es.length : Int))) → (roundL Es xs l first = -1 ∨ (0 ≤ roundL Es xs l first ∧ roundL Es xs l first < (Es.length : Int)))
  | [], l, first, h => h
  | x :: xs, l, first, h => by
    unfold roundL
    apply roundL_lt hn xs
    split
    · rename_i hc
      right
      have hne : (reachL Es.length (nxB Es) [x] l).2 ≠ [] := fun e => by rw [e] at hc; simp [roundG] at hc
      have hm := minL_mem _ hne
      obtain ⟨i, j, _, hj, hu⟩ := (reach_mem2 hn _ _).1 hm
      have := hu.lt
      omega
    · exact h
/-- The first class that isn't right by names. -/
theorem filK_some {l : List K8} : ∀ (cs : List K8) (k j : Nat), filK l cs k = some j → ∃ c, k ≤ j ∧ cs[j - k]? = some c ∧ okK l j c = false ∧ ∀ i c', i < j - k → cs[i]? = some c' → okK l (k + i) c' = true
  | [], k, j, h => by simp [filK] at h
  | c :: cs, k, j, h => by
    unfold filK at h
    split at h
    · rename_i hc
      obtain ⟨c', h1, h2, h3, h4⟩ := filK_some cs (k + 1) j h
      refine ⟨c', by omega, ?_, h3, fun i c'' hi hc'' => ?_⟩
      · rw [show j - k = (j - (k + 1)) + 1 by omega, List.getElem?_cons_succ]
        exact h2
      · cases i with
        | zero =>
          simp at hc''
          subst hc''
          exact hc
        | succ i =>
          rw [List.getElem?_cons_succ] at hc''
          have := h4 i c'' (by omega) hc''
          rw [show k + (i + 1) = k + 1 + i by omega]
          exact this
    · rename_i hc
      injection h with h
      subst h
      refine ⟨c, Nat.le_refl _, by simp, by simpa using hc, fun i c'' hi => by omega⟩
theorem filK_none {l : List K8} : ∀ (cs : List K8) (k : Nat), filK l cs k = none → ∀ i c, cs[i]? = some c → okK l (k + i) c = true
  | [], k, _, i, c, h => by simp at h
  | d :: cs, k, h, i, c, hc => by
    unfold filK at h
    split at h
    · rename_i hd
      cases i with
      | zero => simp at hc; subst hc; exact hd
      | succ i =>
        rw [List.getElem?_cons_succ] at hc
        have := filK_none cs (k + 1) h i c hc
        rw [show k + (i + 1) = k + 1 + i by omega]
        exact this
    · cases h
/-- What New answers. -/
inductive NwR (l : List K8) (r : Nat) (e : Ending) (w' : World) : Prop
  | bad (k : Nat) (c : K8) (hk : filK l l 0 = some k) (hc : l[k]? = some c) (he : e = .returned (.tuple #[.pointer none, .agg (ftC 11 c.p c.q)]))
  | rnd (s : Cs) (a : Nat) (c : K8) (hf : filK l l 0 = none) (hs : climbTo (esL l) l.length s) (ha : roundL (esL l) s.d.reverse [] (-1) = (a : Int)) (hc : l[a]? = some c) (he : e = .returned (.tuple #[.pointer none, .agg (ftC 11 c.p c.q)]))
  | ok (s : Cs) (t m sz : Nat) (V : Value) (hf : filK l l 0 = none) (hs : climbTo (esL l) l.length s) (ha : roundL (esL l) s.d.reverse [] (-1) = -1) (he : e = .returned (.tuple #[.pointer (some ⟨t, 0, none⟩), .agg (ftC 0 0 0)])) (hr : r ≤ t) (ht : Tl w' (fun g => r ≤ g) t (.map (some m)) V (esL l)) (hm : MapS w' m sz (fstF l l.length))
/-- What the law asks of the classes: names are no longer than any machine's, and there are not too many. -/
structure KOk (l : List K8) : Prop where
  len : l.length ≤ 1000
  nm : ∀ k ∈ l, k.nm.size ≤ 281474976710656 ∧ k.sup.size ≤ 281474976710656 ∧ (∀ s ∈ k.fcs, s.size ≤ 281474976710656) ∧ k.fcs.length ≤ 999
end Go.Proofs.YtjnphoeifonenaaDoor

/- New. -/
set_option linter.unusedSimpArgs false
set_option linter.unusedVariables false
set_option maxRecDepth 100000
namespace Go.Proofs.YtjnphoeifonenaaDoor
open Go.RowKit

theorem ft_set {w : World} {g : Nat} {e0 p0 q0 : Int} (e p q : Int) (h : w.heap[g]? = some (.cells (ftC e0 p0 q0) 36 (0, 0))) :
    (((w.setCell ⟨g, 0, none⟩ (.int .i64 e)).setCell ⟨g, 1, none⟩ (.int .i64 p)).setCell ⟨g, 2, none⟩ (.int .i64 q)).heap[g]? = some (.cells (ftC e p q) 36 (0, 0)) ∧
      Turn [g] w (((w.setCell ⟨g, 0, none⟩ (.int .i64 e)).setCell ⟨g, 1, none⟩ (.int .i64 p)).setCell ⟨g, 2, none⟩ (.int .i64 q)) := by
  have h1 := Go.heap_setCell_same w g 0 _ _ (.int .i64 e) h
  have h2 := Go.heap_setCell_same _ g 1 _ _ (.int .i64 p) h1
  have h3 := Go.heap_setCell_same _ g 2 _ _ (.int .i64 q) h2
  exact ⟨h3, (((Turn.refl [g] w).setCell (.inl (by simp)) _).setCell (.inl (by simp)) _).setCell (.inl (by simp)) _⟩
set_option maxHeartbeats 12800000 in
theorem new_any (A : Option Addr) (c B : Nat) (l : List K8) (m0 m1 m2 m3 m4 m5 m6 m7 m8 : Value) (w : World) (hr : RdKs B w A l) (hB : B ≤ w.heap.size) (hk : KOk l) :
    Calls Tryd.prog 10 #[.agg #[.slice A l.length c, m0, m1, m2, m3, m4, m5, m6, m7, m8]] w fun e w' => NwR l w.heap.size e w' ∧ Turn [] w w' := by
  obtain ⟨n, hn⟩ : ∃ n, l.length = n := ⟨_, rfl⟩
  obtain ⟨r, hrr⟩ : ∃ r, w.heap.size = r := ⟨_, rfl⟩
  obtain ⟨W0, hW0⟩ : ∃ W, (w.alloc (.cells #[.slice A n c, m0, m1, m2, m3, m4, m5, m6, m7, m8] 30)).alloc (.cells #[.int .i64 0, .int .i64 0, .int .i64 0] 36) = W := ⟨_, rfl⟩
  have t0 : Turn [] w W0 := by rw [← hW0]; exact ((Turn.refl [] w).alloc _).alloc _
  have s0 : W0.heap.size = r + 2 := by rw [← hW0, ← hrr]; simp
  have b0 : W0.heap[r]? = some (.cells #[.slice A n c, m0, m1, m2, m3, m4, m5, m6, m7, m8] 30 (0, 0)) := by rw [← hW0, ← hrr]; exact ((Turn.refl [] _).alloc _).heap (heap_alloc_new w _) (by simp)
  have b1 : W0.heap[r + 1]? = some (.cells (ftC 0 0 0) 36 (0, 0)) := by
    rw [← hW0, ← hrr]
    have := heap_alloc_new (w.alloc (.cells #[.slice A n c, m0, m1, m2, m3, m4, m5, m6, m7, m8] 30)) (.cells #[.int .i64 0, .int .i64 0, .int .i64 0] 36)
    rwa [World.size_alloc] at this
  have hr0 := hr.turn t0 (by simp)
  have HF := Lib.hid (firsts_any A c B l W0 hr0 (by omega) hk.len (fun k h => (hk.nm k h).1))
  have hpc : ∀ W F, Turn F W0 W → r ∉ F → W.cell? ⟨r, 0, none⟩ = some (.slice A n c) := fun W F t hF => cell_of_row W r 0 _ _ _ (t.heap b0 hF)
  have x0 := hpc W0 [] (Turn.refl _ _) (by simp)
  have HT0 := Lib.hid t0
  have HS0 := Lib.hid s0
  have HB1 := Lib.hid b1
  have HP := Lib.hid hpc
  have HR := Lib.hid hr0
  have HN := Lib.hid hn
  have HRR := Lib.hid hrr
  have HK := Lib.hid hk
  have HW0 := Lib.hid hW0
  have HBR : Hid (B ≤ r) := Lib.hid (by omega)
  rw [hn] at HF ⊢
  clear hr hB hk t0 s0 b0 b1 hr0 hpc hn hrr hW0
  go_enter Tryd.func10, Tryd.ntmps10
  go_wp2_with fail
  rw [HRR.out, HW0.out]
  refine HF.out.mono ?_
  rintro e w2 ⟨m, sz, rfl, hm, hMap, hsz, t2⟩
  obtain ⟨t, ht⟩ : ∃ t, w2.heap.size = t := ⟨_, rfl⟩
  obtain ⟨W3, hW3⟩ : ∃ W, w2.alloc (.cells #[.map (some m), .slice none 0 0] 70) = W := ⟨_, rfl⟩
  have t3 : Turn [] w2 W3 := by rw [← hW3]; exact (Turn.refl [] w2).alloc _
  have b3 : W3.heap[t]? = some (.cells #[.map (some m), .slice none 0 0] 70 (0, 0)) := by rw [← hW3, ← ht]; exact heap_alloc_new w2 _
  have hml := hMap.lt
  have hrt : r + 2 ≤ t := by have := t2.size; have := HS0.out; omega
  have hM3 := hMap.turn t3 (by simp)
  rw [← HN.out] at hM3
  have hR3 := HR.out.turn (t2.trans' t3) (by simp)
  have HFi := Lib.hid (fill_any A c B l t m sz W3 b3 hM3 (by omega) hR3 (by have := HBR.out; omega) HK.out.len (fun k h => ⟨(HK.out.nm k h).1, (HK.out.nm k h).2.1, (HK.out.nm k h).2.2.1, by have := (HK.out.nm k h).2.2.2; omega⟩))
  have x3 := HP.out W3 [] (t2.trans' t3) (by simp)
  have hm2 : m < t := by omega
  have HX3 := Lib.hid (And.intro t2 (And.intro t3 (And.intro hM3 hR3)))
  have HTT := Lib.hid ht
  have HW3 := Lib.hid hW3
  rw [HN.out] at HFi
  clear t2 t3 b3 hml hM3 hR3 hMap ht hW3 hm hsz x0
  go_upto_region 2 with fail
  rw [HTT.out, HW3.out]
  go_wp2_with fail
  refine HFi.out.mono ?_
  rintro e w4 ⟨rfl, t4, hE⟩
  have HT4 := Lib.hid t4
  have HE := Lib.hid hE
  have x4 := HP.out w4 [t] ((HX3.out.1.trans' HX3.out.2.1).more (G := [t]) (by simp) |>.trans t4 (fun g hg => .inl hg)) (by simp; omega)
  clear t4 hE HFi HF x3
  cases hf : filK l l 0 with
  | some k =>
    have hfi : filI l = (k : Int) := by unfold filI; rw [hf]
    rw [hfi]
    obtain ⟨x, _, hx, _, _⟩ := filK_some l 0 k hf
    simp only [Nat.sub_zero] at hx
    obtain ⟨b, off, cs, rfl, hb, hbl, hcell, A3, c3, A4, n4, c4, A5, n5, c5, A6, n6, c6, I, rfl, hst⟩ := (HX3.out.2.2.2.turn HT4.out (fun g hg => by have := HBR.out; simp at hg; omega)) k x hx
    have e0 : w4.cell? ⟨b, off + k * 10, none⟩ = some (.string x.nm) := hcell 0 _ rfl
    have q1 := hcell 1 _ rfl
    have q2 := hcell 2 _ rfl
    have q3 := hcell 3 _ rfl
    have q4 := hcell 4 _ rfl
    have q5 := hcell 5 _ rfl
    have q6 := hcell 6 _ rfl
    have q7 := hcell 7 _ rfl
    have q8 := hcell 8 _ rfl
    have q9 := hcell 9 _ rfl
    have hkn : k < n := by have := (List.getElem?_eq_some_iff.1 hx).1; have := HN.out; omega
    have d2 : (k : Int) < (n : Int) := by omega
    have HFa := Lib.hid (fun W => faultAt_any x A3 c3 A4 n4 c4 A5 n5 c5 A6 n6 c6 I W)
    have HX := Lib.hid (And.intro hf hx)
    clear hf hx hfi hcell hst HE
    go_wp2_with fail
    refine (HFa.out _).mono ?_
    rintro e w5 ⟨rfl, t5⟩
    have tt5 : Turn [t] W0 w5 := (((HX3.out.1.trans' HX3.out.2.1).more (G := [t]) (by simp)).trans HT4.out (fun g hg => .inl hg)).trans' t5
    have b5 := tt5.heap HB1.out (by simp; omega)
    have m0' : w5.cell? ⟨r + 1, 0, none⟩ = some (.int .i64 0) := cell_of_row w5 _ 0 _ _ _ b5
    have m1' : w5.cell? ⟨r + 1, 1, none⟩ = some (.int .i64 0) := cell_of_row w5 _ 1 _ _ _ b5
    have m2' : w5.cell? ⟨r + 1, 2, none⟩ = some (.int .i64 0) := cell_of_row w5 _ 2 _ _ _ b5
    have f0' : w5.frozen? ⟨r + 1, 0, none⟩ = false := frozen_of_row w5 _ 0 _ _ b5
    have f1' : w5.frozen? ⟨r + 1, 1, none⟩ = false := frozen_of_row w5 _ 1 _ _ b5
    have f2' : w5.frozen? ⟨r + 1, 2, none⟩ = false := frozen_of_row w5 _ 2 _ _ b5
    have HB5 := Lib.hid b5
    have HT5 := Lib.hid tt5
    clear b5 tt5 t5 HFa
    unfold ftC
    go_wp2_with fail
    have hfs := ft_set 11 x.p x.q HB5.out
    refine bodyPost_ret (ret_new hfs.1 rfl rfl) rfl ⟨NwR.bad k x HX.out.1 HX.out.2 rfl, ?_⟩
    refine ((HT0.out).trans HT5.out (fun g hg => .inr ?_)).trans hfs.2 (fun g hg => .inr ?_)
    · simp at hg; have := HRR.out; omega
    · simp at hg; have := HRR.out; omega
  | none =>
    have hfi : filI l = -1 := by unfold filI; rw [hf]
    rw [hfi]
    obtain ⟨V, hb4, ho4⟩ := HE.out hf
    have hTl : Tl w4 (fun g => W3.heap.size ≤ g) t (.map (some m)) V (esL l) := ⟨hb4, ho4.rdv goodE, by rw [esL_len]; have := HK.out.len; omega⟩
    have HRo := Lib.hid (round_any hTl (esL_ok HK.out.len (fun c hc => (HK.out.nm c hc).2.2.2)))
    have HTl := Lib.hid hTl
    have HF := Lib.hid hf
    clear hf hfi hb4 ho4 hTl HE
    go_wp2_with fail
    refine HRo.out.mono ?_
    rintro e w5 ⟨⟨s, hs, rfl⟩, t5⟩
    have tt5 : Turn [t] W0 w5 := (((HX3.out.1.trans' HX3.out.2.1).more (G := [t]) (by simp)).trans HT4.out (fun g hg => .inl hg)).trans' t5
    have hlt := roundL_lt (Es := esL l) (by rw [esL_len]; have := HK.out.len; omega) s.d.reverse [] (-1) (.inl rfl)
    obtain ⟨a, ha⟩ : ∃ a, roundL (esL l) s.d.reverse [] (-1) = a := ⟨_, rfl⟩
    rw [ha] at hlt ⊢
    rw [esL_len] at hs
    have b5 := tt5.heap HB1.out (by simp; omega)
    have x5 := HP.out w5 [t] tt5 (by simp; omega)
    have HB5 := Lib.hid b5
    have HT5 := Lib.hid tt5
    have HS5 := Lib.hid (And.intro hs (And.intro ha t5))
    clear tt5 t5 hs ha HRo
    rcases hlt with rfl | ⟨hlo, hhi⟩
    · have m0' : w5.cell? ⟨r + 1, 0, none⟩ = some (.int .i64 0) := cell_of_row w5 _ 0 _ _ _ b5
      have m1' : w5.cell? ⟨r + 1, 1, none⟩ = some (.int .i64 0) := cell_of_row w5 _ 1 _ _ _ b5
      have m2' : w5.cell? ⟨r + 1, 2, none⟩ = some (.int .i64 0) := cell_of_row w5 _ 2 _ _ _ b5
      have f0' : w5.frozen? ⟨r + 1, 0, none⟩ = false := frozen_of_row w5 _ 0 _ _ b5
      have f1' : w5.frozen? ⟨r + 1, 1, none⟩ = false := frozen_of_row w5 _ 1 _ _ b5
      have f2' : w5.frozen? ⟨r + 1, 2, none⟩ = false := frozen_of_row w5 _ 2 _ _ b5
      clear b5
      go_wp2_with fail
      have hfs := ft_set 0 0 0 HB5.out
      have hs3 : r + 2 ≤ W3.heap.size := by have := (HX3.out.1.trans' HX3.out.2.1).size; have := HS0.out; omega
      have hTf := (HTl.out.turn' HS5.out.2.2).turn hfs.2 (by simp; omega) (fun g hg hh => by simp at hg; omega)
      refine bodyPost_ret (ret_new hfs.1 rfl rfl) rfl ⟨NwR.ok s t m sz V HF.out HS5.out.1 HS5.out.2.1 rfl (by have := HRR.out; omega) ⟨hTf.blk, hTf.ent.mono goodE (fun g hg _ => by have := HRR.out; omega), hTf.len⟩ ?_, ?_⟩
      · have hmm := HX3.out.2.2.1.turn (HT4.out.trans' HS5.out.2.2) (by simp; omega)
        refine hmm.turn hfs.2 ?_
        simp
        have hb := HB5.out
        intro e
        subst e
        obtain ⟨D, ⟨es, clock, hbm, _⟩, _⟩ := hmm
        rw [hb] at hbm
        cases hbm
      · refine ((HT0.out).trans HT5.out (fun g hg => .inr ?_)).trans hfs.2 (fun g hg => .inr ?_)
        · simp at hg; have := HRR.out; omega
        · simp at hg; have := HRR.out; omega
    · obtain ⟨k, rfl⟩ := Int.eq_ofNat_of_zero_le hlo
      rw [esL_len] at hhi
      obtain ⟨x, hx⟩ := at_lt (show k < l.length by omega)
      obtain ⟨b, off, cs, rfl, hb, hbl, hcell, A3, c3, A4, n4, c4, A5, n5, c5, A6, n6, c6, I, rfl, hst⟩ := ((HX3.out.2.2.2.turn HT4.out (fun g hg => by have := HBR.out; simp at hg; omega)).turn HS5.out.2.2 (by simp)) k x hx
      have e0 : w5.cell? ⟨b, off + k * 10, none⟩ = some (.string x.nm) := hcell 0 _ rfl
      have q1 := hcell 1 _ rfl
      have q2 := hcell 2 _ rfl
      have q3 := hcell 3 _ rfl
      have q4 := hcell 4 _ rfl
      have q5 := hcell 5 _ rfl
      have q6 := hcell 6 _ rfl
      have q7 := hcell 7 _ rfl
      have q8 := hcell 8 _ rfl
      have q9 := hcell 9 _ rfl
      have hkn : k < n := by have := HN.out; omega
      have d2 : (k : Int) < (n : Int) := by omega
      have HFa := Lib.hid (fun W => faultAt_any x A3 c3 A4 n4 c4 A5 n5 c5 A6 n6 c6 I W)
      have HX := Lib.hid hx
      clear hx hcell hst b5 hhi
      go_wp2_with fail
      refine (HFa.out _).mono ?_
      rintro e w6 ⟨rfl, t6⟩
      have tt6 : Turn [t] W0 w6 := HT5.out.trans' t6
      have b6 := tt6.heap HB1.out (by simp; omega)
      have m0' : w6.cell? ⟨r + 1, 0, none⟩ = some (.int .i64 0) := cell_of_row w6 _ 0 _ _ _ b6
      have m1' : w6.cell? ⟨r + 1, 1, none⟩ = some (.int .i64 0) := cell_of_row w6 _ 1 _ _ _ b6
      have m2' : w6.cell? ⟨r + 1, 2, none⟩ = some (.int .i64 0) := cell_of_row w6 _ 2 _ _ _ b6
      have f0' : w6.frozen? ⟨r + 1, 0, none⟩ = false := frozen_of_row w6 _ 0 _ _ b6
      have f1' : w6.frozen? ⟨r + 1, 1, none⟩ = false := frozen_of_row w6 _ 1 _ _ b6
      have f2' : w6.frozen? ⟨r + 1, 2, none⟩ = false := frozen_of_row w6 _ 2 _ _ b6
      have HB6 := Lib.hid b6
      have HT6 := Lib.hid tt6
      clear b6 tt6 t6 HFa
      unfold ftC
      go_wp2_with fail
      have hfs := ft_set 11 x.p x.q HB6.out
      refine bodyPost_ret (ret_new hfs.1 rfl rfl) rfl ⟨NwR.rnd s k x HF.out HS5.out.1 HS5.out.2.1 HX.out rfl, ?_⟩
      refine ((HT0.out).trans HT6.out (fun g hg => .inr ?_)).trans hfs.2 (fun g hg => .inr ?_)
      · simp at hg; have := HRR.out; omega
      · simp at hg; have := HRR.out; omega
end Go.Proofs.YtjnphoeifonenaaDoor

/- The heap of numbers that may come next: IntSlice's Len, Less, Swap; Push and Pop. -/
set_option linter.unusedSimpArgs false
set_option linter.unusedVariables false
set_option maxRecDepth 100000
namespace Go.Proofs.YtjnphoeifonenaaDoor
open Go.RowKit

theorem rset {w : World} {b i : Nat} {cs cs' : Array Value} {t : TypeId} {u : Value} (h : w.heap[b]? = some (.cells cs t (0, 0))) (e : cs.setIfInBounds i u = cs') : (w.setCell ⟨b, i, none⟩ u).heap[b]? = some (.cells cs' t (0, 0)) := by
  rw [← e]; exact Go.heap_setCell_same w b i _ _ u h
/-- The heap at rb: its list lies in blocks behind it. -/
structure Hp (w : World) (rb : Nat) (V : Value) (h : List Int) : Prop where
  blk : w.heap[rb]? = some (.cells #[V] 80 (0, 0))
  own : OwnI w 0 V h
  ap : ∀ g, V.ownBlock = some g → rb < g
/-- What turns a heap leaves. -/
structure HpO (w w' : World) (rb : Nat) (V V' : Value) (h' : List Int) : Prop where
  hp : Hp w' rb V' h'
  tr : Turn (rb :: V.ownBlock.toList) w w'
  mv : V'.ownBlock = V.ownBlock ∨ ∃ g, V'.ownBlock = some g ∧ w.heap.size ≤ g
theorem Hp.turn {w w' : World} {rb : Nat} {V : Value} {h : List Int} {F : List Nat} (k : Hp w rb V h) (t : Turn F w w') (h1 : rb ∉ F) (h2 : ∀ g, V.ownBlock = some g → g ∉ F) : Hp w' rb V h := ⟨t.heap k.blk h1, k.own.turn t h2, k.ap⟩
theorem Hp.turn' {w w' : World} {rb : Nat} {V : Value} {h : List Int} (k : Hp w rb V h) (t : Turn [] w w') : Hp w' rb V h := k.turn t (by simp) (by simp)
theorem HpO.refl {w : World} {rb : Nat} {V : Value} {h : List Int} (k : Hp w rb V h) : HpO w w rb V V h := ⟨k, Turn.refl _ _, .inl rfl⟩
theorem HpO.trans {w w1 w2 : World} {rb : Nat} {V V1 V2 : Value} {h1 h2 : List Int} (a : HpO w w1 rb V V1 h1) (b : HpO w1 w2 rb V1 V2 h2) : HpO w w2 rb V V2 h2 := by
  have hs := a.tr.size
  refine ⟨b.hp, a.tr.trans b.tr (fun g hg => ?_), ?_⟩
  · rcases List.mem_cons.1 hg with rfl | hg
    · exact .inl (by simp)
    · have hg' : V1.ownBlock = some g := by simpa using hg
      rcases a.mv with m | ⟨g', m1, m2⟩
      · exact .inl (by rw [m] at hg'; simp [hg'])
      · rw [m1] at hg'; injection hg' with hg'; exact .inr (by omega)
  · rcases b.mv with m | ⟨g, m1, m2⟩
    · rcases a.mv with n | n
      · exact .inl (m.trans n)
      · rw [m]; exact .inr n
    · exact .inr ⟨g, m1, by omega⟩
theorem HpO.turn {w w' w2 : World} {rb : Nat} {V V' : Value} {h : List Int} (a : HpO w w' rb V V' h) (t : Turn [] w' w2) : HpO w w2 rb V V' h := a.trans ⟨a.hp.turn' t, t.more (by simp), .inl rfl⟩
theorem Hp.form {w : World} {rb : Nat} {V : Value} {h : List Int} (k : Hp w rb V h) : ∃ A c, V = .slice A h.length c ∧ h.length ≤ c := by
  obtain ⟨A, c, e, _, hc⟩ := k.own.form
  exact ⟨A, c, e, hc⟩

set_option maxHeartbeats 1600000 in
theorem slen_any (P : Option Addr) (n c : Nat) (w : World) (hn : n ≤ 10000000) : Calls Tryd.prog 35 #[.slice P n c] w fun e w' => e = .returned (.int .i64 (n : Int)) ∧ w = w' := by
  go_enter Tryd.func35, Tryd.ntmps35
  go_wp2_with fail
  go_ret
  exact ⟨rfl, rfl⟩
set_option maxHeartbeats 3200000 in
theorem less_any (P : Option Addr) (n c : Nat) (h : List Int) (i j : Nat) (x y : Int) (w : World) (hI : Ints w P h) (hn : n = h.length) (hx : h[i]? = some x) (hy : h[j]? = some y) :
    Calls Tryd.prog 95 #[.slice P n c, .int .i64 (i : Int), .int .i64 (j : Int)] w fun e w' => e = .returned (.bool (decide (x < y))) ∧ Turn [] w w' := by
  obtain ⟨b, off, rfl, hb, hcx⟩ := hI i x hx
  obtain ⟨b', off', e, hb', hcy⟩ := hI j y hy
  have hil : i < n := by rw [hn]; exact (List.getElem?_eq_some_iff.1 hx).1
  have hjl : j < n := by rw [hn]; exact (List.getElem?_eq_some_iff.1 hy).1
  injection e with e
  injection e with e1 e2
  subst e1 e2
  have d1 : (i : Int) < (n : Int) := by omega
  have d2 : (j : Int) < (n : Int) := by omega
  clear hI hn hx hy hb'
  go_enter Tryd.func95, Tryd.ntmps95
  go_wp2_with fail
  go_quiet (fail)
  go_wp2_with fail
  go_ret
  exact ⟨rfl, (Turn.refl [] _).drewN _⟩
/-- Two numbers change places. -/
def swL (h : List Int) (i j : Nat) : List Int := (h.set i (h[j]?.getD 0)).set j (h[i]?.getD 0)
theorem swL_len (h : List Int) (i j : Nat) : (swL h i j).length = h.length := by simp [swL]
set_option maxHeartbeats 3200000 in
theorem swap_any (g n c : Nat) (h : List Int) (i j r : Nat) (x y : Int) (w : World) (hO : OwnI w r (.slice (some ⟨g, 0, none⟩) n c) h) (hn : n = h.length) (hx : h[i]? = some x) (hy : h[j]? = some y) :
    Calls Tryd.prog 99 #[.slice (some ⟨g, 0, none⟩) n c, .int .i64 (i : Int), .int .i64 (j : Int)] w fun e w' => e = .returned (.tuple #[]) ∧ OwnI w' r (.slice (some ⟨g, 0, none⟩) n c) (swL h i j) ∧ Turn [g] w w' := by
  obtain ⟨g', c', e, hc', hg', _, hcell, hfr⟩ := hO.slot (by have := (List.getElem?_eq_some_iff.1 hx).1; omega)
  injection e with e _ e2
  injection e with e
  injection e with e1 _
  subst e1 e2
  have hil : i < n := by rw [hn]; exact (List.getElem?_eq_some_iff.1 hx).1
  have hjl : j < n := by rw [hn]; exact (List.getElem?_eq_some_iff.1 hy).1
  have d1 : (i : Int) < (n : Int) := by omega
  have d2 : (j : Int) < (n : Int) := by omega
  have c1 := hcell i x hx
  have c2 := hcell j y hy
  have f1 := hfr i
  have f2 := hfr j
  have HO := Lib.hid hO
  have HN := Lib.hid hn
  have HX := Lib.hid (And.intro hx hy)
  clear hO hn hx hy hcell hfr
  have n1 : (0 : Int) ≤ (i : Int) := by omega
  have n2 : (0 : Int) ≤ (j : Int) := by omega
  have hend : ∀ W, W = ((w.setCell ⟨g, i, none⟩ (.int .i64 y)).setCell ⟨g, j, none⟩ (.int .i64 x)).drew → OwnI W r (.slice (some ⟨g, 0, none⟩) n c) (swL h i j) ∧ Turn [g] w W := fun W e => by
    subst e
    have h1 := OwnI.putAt (j := i) (y := y) HO.out HN.out
    have h2 := OwnI.putAt (j := j) (y := x) h1 (by rw [HN.out]; simp)
    unfold swL
    rw [HX.out.1, HX.out.2]
    exact ⟨h2.turn' (Turn.refl [] _).drew, (((Turn.refl [g] w).setCell (.inl (by simp)) _).setCell (.inl (by simp)) _).drew⟩
  have HE := Lib.hid hend
  clear hend
  by_cases hij : i = j
  · subst hij
    obtain rfl : x = y := by have := HX.out; rw [this.1] at this; exact Option.some.inj this.2
    go_enter Tryd.func99, Tryd.ntmps99
    go_wp2_with fail
    go_region
    go_wp2_with fail
    go_end0
    exact ⟨rfl, HE.out _ rfl⟩
  · go_enter Tryd.func99, Tryd.ntmps99
    go_wp2_with fail
    go_region
    go_wp2_with fail
    go_end0
    exact ⟨rfl, HE.out _ rfl⟩

theorem isAgg_islice (w : World) : (isAgg 78).run Tryd.prog w = .ok false w := by kernel_rfl
theorem load_islice {w : World} {rb : Nat} {V : Value} (h : w.cell? ⟨rb, 0, none⟩ = some V) : (loadVar 78 ⟨rb, 0, none⟩).run Tryd.prog w = .ok V w := by
  simp [loadVar, isAgg_islice, Result.andThen, h]
theorem inv_at {w : World} {rb : Nat} {V : Value} (h : w.cell? ⟨rb, 0, none⟩ = some V) (k : FuncId) : Sem.run Tryd.prog (loadVar 78 ⟨rb, 0, none⟩ >>= fun v => pure (k, v)) w = .ok (k, V) w := by
  rw [Sem.run_bind, load_islice h]
  rfl
theorem inv_len {w : World} {rb : Nat} {V : Value} (h : w.cell? ⟨rb, 0, none⟩ = some V) :
    (method 252 77 (.pointer (some ⟨rb, 0, none⟩)) "Len").run Tryd.prog w = .ok (35, V) w := by
  have e : (method 252 77 (.pointer (some ⟨rb, 0, none⟩)) "Len").run Tryd.prog w = Sem.run Tryd.prog (loadVar 78 ⟨rb, 0, none⟩ >>= fun v => pure (35, v)) w := by kernel_rfl
  rw [e, inv_at h]
theorem inv_less {w : World} {rb : Nat} {V : Value} (h : w.cell? ⟨rb, 0, none⟩ = some V) :
    (method 252 77 (.pointer (some ⟨rb, 0, none⟩)) "Less").run Tryd.prog w = .ok (95, V) w := by
  have e : (method 252 77 (.pointer (some ⟨rb, 0, none⟩)) "Less").run Tryd.prog w = Sem.run Tryd.prog (loadVar 78 ⟨rb, 0, none⟩ >>= fun v => pure (95, v)) w := by kernel_rfl
  rw [e, inv_at h]
theorem inv_swap {w : World} {rb : Nat} {V : Value} (h : w.cell? ⟨rb, 0, none⟩ = some V) :
    (method 252 77 (.pointer (some ⟨rb, 0, none⟩)) "Swap").run Tryd.prog w = .ok (99, V) w := by
  have e : (method 252 77 (.pointer (some ⟨rb, 0, none⟩)) "Swap").run Tryd.prog w = Sem.run Tryd.prog (loadVar 78 ⟨rb, 0, none⟩ >>= fun v => pure (99, v)) w := by kernel_rfl
  rw [e, inv_at h]
theorem inv_push (w : World) (rb : Nat) : (method 252 77 (.pointer (some ⟨rb, 0, none⟩)) "Push").run Tryd.prog w = .ok (97, .pointer (some ⟨rb, 0, none⟩)) w := by kernel_rfl
theorem inv_pop (w : World) (rb : Nat) : (method 252 77 (.pointer (some ⟨rb, 0, none⟩)) "Pop").run Tryd.prog w = .ok (96, .pointer (some ⟨rb, 0, none⟩)) w := by kernel_rfl

/-- append of one int onto an IntSlice, inside a region that draws its order. -/
theorem rws_one {w : World} {b : Nat} {T : TypeId} {y : Int} (h : w.heap[b]? = some (.cells #[.int .i64 y] T (0, 0))) : Rws w 1 (some ⟨b, 0, Option.none⟩) 1 [.int .i64 y] :=
  ⟨by simp, .inr ⟨b, 0, rfl, (Array.getElem?_eq_some_iff.1 h).1, fun j u hj => by
    rw [Nat.zero_add, cell_of_row _ b _ _ _ _ h]
    simpa using hj⟩⟩
theorem ta_int (x : Int) (w : World) : (Instr.typeAssert (.iface 3 (.int .i64 x)) 20 3 false).run Tryd.prog w = .ok (.int .i64 x) w := by kernel_rfl
set_option maxHeartbeats 3200000 in
theorem push_any {rb : Nat} {V : Value} {h : List Int} {w : World} (k : Hp w rb V h) (x : Int) (hl : h.length ≤ 1000000) :
    Calls Tryd.prog 97 #[.pointer (some ⟨rb, 0, none⟩), .iface 3 (.int .i64 x)] w fun e w' => e = .returned (.tuple #[]) ∧ ∃ V', HpO w w' rb V V' (h ++ [x]) := by
  obtain ⟨A, c, rfl, hc⟩ := k.form
  have c0 : w.cell? ⟨rb, 0, none⟩ = some (.slice A h.length c) := cell_of_row w rb 0 _ _ _ k.blk
  have f0 : w.frozen? ⟨rb, 0, none⟩ = false := frozen_of_row w rb 0 _ _ k.blk
  have hne := World.new_ne w ⟨rb, 0, none⟩ c0
  have hrb : rb < w.heap.size := cell_lt c0
  have K := Lib.hid k
  have hta := fun W => ta_int x W
  clear k
  go_enter Tryd.func97, Tryd.ntmps97
  go_wp2_with fail
  go_region_law (refine step_appR rfl (.tmp 8) (.tmp 11) 78 rfl _ 3 (.int .i64 0) 1 8 Tryd.underlying78 int_info rfl (by omega) (.slice A h.length c) h.length (h.map (Value.int .i64)) (by simp [Act.eval, Act.put]) (K.out.own.turn' (((Turn.refl [] w).alloc _).drew)) (some ⟨w.heap.size, 0, none⟩) 1 1 [.int .i64 x] (by simp [Act.eval, Act.put]) (rws_one (heap_alloc_new w _)) (by simp [Value.oneCell']) (by simp only [maxLen]; omega) (by omega) ?_
                 intro v5 w5 ho5 ht5 hm5
                 obtain ⟨A5, c5, hv5, _, _⟩ := owns_form ho5
                 subst hv5
                 have hb5 := ht5.heap ((((Turn.refl [] w).alloc _).drew).heap K.out.blk (by simp)) (fun hg => by have := K.out.ap _ (by simpa using hg); omega)
                 have n1 : w5.cell? ⟨rb, 0, none⟩ = some (.slice A h.length c) := cell_of_row w5 rb 0 _ _ _ hb5
                 have n1f : w5.frozen? ⟨rb, 0, none⟩ = false := frozen_of_row w5 rb 0 _ _ hb5
                 have HO5 := Lib.hid ho5
                 have HT5 := Lib.hid ht5
                 have HM5 := Lib.hid hm5
                 have HB5 := Lib.hid hb5
                 clear ho5 ht5 hm5 hb5)
  all_goals
    go_wp2_with fail
    go_end0
    refine ⟨rfl, .slice A5 (h.length + 1) c5, ?_⟩
    have ho5 := HO5.out
    have ht5 := HT5.out
    have tA : Turn (Value.slice A h.length c).ownBlock.toList w w5 := (((Turn.refl [] w).alloc _).drew.more (G := (Value.slice A h.length c).ownBlock.toList) (by simp)).trans ht5 (fun g hg => .inl hg)
    have tB : Turn [rb] w5 (w5.setCell ⟨rb, 0, none⟩ (.slice A5 (h.length + 1) c5)) := (Turn.refl [rb] w5).setCell (.inl (by simp)) _
    have hm : ∀ g, (Value.slice A5 (h.length + 1) c5).ownBlock = some g → rb < g := fun g hg => by
      rcases HM5.out with m | m
      · rw [m] at hg; exact K.out.ap g hg
      · rw [m] at hg; injection hg with hg; simp at hg; omega
    refine ⟨⟨rset HB5.out rfl, ?_, hm⟩, ?_, ?_⟩
    · have : OwnI w5 0 (.slice A5 (h.length + 1) c5) (h ++ [x]) := by
        unfold OwnI
        rw [List.length_append, List.map_append]
        exact ho5
      exact this.turn tB (fun g hg hh => by have := hm g hg; simp at hh; omega)
    · exact (tA.more (G := rb :: (Value.slice A h.length c).ownBlock.toList) (fun g hg => .inl (by simp [hg]))).trans tB (fun g hg => .inl (by simp at hg; simp [hg]))
    · rcases HM5.out with m | m
      · exact .inl m
      · exact .inr ⟨_, m, by simp⟩
end Go.Proofs.YtjnphoeifonenaaDoor

/- The heap: Pop; up. -/
set_option linter.unusedSimpArgs false
set_option linter.unusedVariables false
set_option maxRecDepth 100000
namespace Go.Proofs.YtjnphoeifonenaaDoor
open Go.RowKit

set_option maxHeartbeats 3200000 in
theorem pop_any {rb : Nat} {V : Value} {q : List Int} {x : Int} {w : World} (k : Hp w rb V (q ++ [x])) (hl : q.length ≤ 1000000) :
    Calls Tryd.prog 96 #[.pointer (some ⟨rb, 0, none⟩)] w fun e w' => e = .returned (.iface 3 (.int .i64 x)) ∧ ∃ V', HpO w w' rb V V' q := by
  obtain ⟨g, c, rfl, hc, hg, _, hcell, _⟩ := k.own.slot (by simp)
  obtain ⟨Q, hQ⟩ : ∃ Q, q.length = Q := ⟨_, rfl⟩
  have hN : (q ++ [x]).length = Q + 1 := by rw [List.length_append, hQ]; rfl
  rw [hN] at k hc ⊢
  have c0 : w.cell? ⟨rb, 0, none⟩ = some (.slice (some ⟨g, 0, none⟩) (Q + 1) c) := cell_of_row w rb 0 _ _ _ k.blk
  have f0 : w.frozen? ⟨rb, 0, none⟩ = false := frozen_of_row w rb 0 _ _ k.blk
  have c1 : w.cell? ⟨g, Q, none⟩ = some (.int .i64 x) := hcell Q x (by rw [← hQ]; simp)
  have hend : HpO w (w.setCell ⟨rb, 0, none⟩ (.slice (some ⟨g, 0, none⟩) Q c)) rb (.slice (some ⟨g, 0, none⟩) (Q + 1) c) (.slice (some ⟨g, 0, none⟩) Q c) q := by
    have tS : Turn [rb] w (w.setCell ⟨rb, 0, none⟩ (.slice (some ⟨g, 0, none⟩) Q c)) := (Turn.refl [rb] w).setCell (.inl (by simp)) _
    have ho := k.own
    have ho2 : OwnI w 0 (.slice (some ⟨g, 0, none⟩) q.length c) q := by
      unfold OwnI at ho ⊢
      rw [List.length_append, List.map_append, ← hQ] at ho
      exact ownsRow_pop (by simp) ho
    rw [hQ] at ho2
    refine ⟨⟨rset k.blk rfl, ho2.turn tS (fun y hy hh => ?_), fun y hy => k.ap y hy⟩, tS.more (by simp), .inl rfl⟩
    have := k.ap y hy
    simp at hh
    omega
  have HL := Lib.hid (fun W => slen_any (some ⟨g, 0, none⟩) (Q + 1) c W (by omega))
  obtain ⟨N, hNN⟩ : ∃ N, Q + 1 = N := ⟨_, rfl⟩
  rw [hNN] at c0 hc hend HL ⊢
  have n1 : (N : Int) - 1 = (Q : Int) := by omega
  have n7 : IntKind.i64.wrap (Q : Int) = (Q : Int) := wrap_small (Q : Int) (by omega) (by omega)
  have n8 : IntKind.i64.wrap ((N : Int) - 1) = (Q : Int) := by rw [n1]; exact n7
  have n4 : (0 : Int) ≤ (Q : Int) := by omega
  have n5 : (Q : Int) < (N : Int) := by omega
  have n9 : (Q : Int) ≤ (c : Int) := by omega
  have n10 : Q ≤ c := by omega
  have HE := Lib.hid hend
  clear k hcell hend hQ hN hNN
  go_enter Tryd.func96, Tryd.ntmps96
  go_wp2_with fail
  refine (HL.out _).mono ?_
  rintro e w1 ⟨rfl, rfl⟩
  go_wp2_with fail
  go_ret
  exact ⟨rfl, _, HE.out⟩

def upF : Nat → List Int → Nat → List Int
  | 0, h, _ => h
  | f + 1, h, j => if (j - 1) / 2 = j then h else if h[j]?.getD 0 < h[(j - 1) / 2]?.getD 0 then upF f (swL h ((j - 1) / 2) j) ((j - 1) / 2) else h
theorem HpO.sw {w w1 w2 : World} {rb g n c : Nat} {h : List Int} {i j : Nat} (a : HpO w w1 rb (.slice (some ⟨g, 0, none⟩) n c) (.slice (some ⟨g, 0, none⟩) n c) h) (ho : OwnI w2 0 (.slice (some ⟨g, 0, none⟩) n c) (swL h i j)) (t : Turn [g] w1 w2) :
    HpO w w2 rb (.slice (some ⟨g, 0, none⟩) n c) (.slice (some ⟨g, 0, none⟩) n c) (swL h i j) :=
  a.trans ⟨⟨t.heap a.hp.blk (by have := a.hp.ap g rfl; simp; omega), ho, a.hp.ap⟩, t.more (fun y hy => .inl (by simp at hy; subst hy; simp [Value.ownBlock])), .inl rfl⟩
set_option maxHeartbeats 6400000 in
theorem up_any {rb g n c : Nat} {h : List Int} {w : World} (k : Hp w rb (.slice (some ⟨g, 0, none⟩) n c) h) (hn : n = h.length) (hl : n ≤ 1000001) (j : Nat) (hj : j < n) :
    Calls Tryd.prog 52 #[.iface 77 (.pointer (some ⟨rb, 0, none⟩)), .int .i64 (j : Int)] w fun e w' => e = .returned (.tuple #[]) ∧ HpO w w' rb (.slice (some ⟨g, 0, none⟩) n c) (.slice (some ⟨g, 0, none⟩) n c) (upF j h j) := by
  have H0 : Hid (∃ hc f, j ≤ f ∧ hc.length = n ∧ upF f hc j = upF j h j ∧ HpO w w rb (.slice (some ⟨g, 0, none⟩) n c) (.slice (some ⟨g, 0, none⟩) n c) hc) := Lib.hid ⟨h, j, Nat.le_refl _, hn.symm, rfl, HpO.refl k⟩
  clear k hn
  go_enter Tryd.func52, Tryd.ntmps52
  go_wp2_with fail
  go_loopw [1] (fun v1 wr => ∃ jc : Nat, jc < n ∧ v1 = .int .i64 (jc : Int) ∧ Hid (∃ hc f, jc ≤ f ∧ hc.length = n ∧ upF f hc jc = upF j h j ∧ HpO w wr rb (.slice (some ⟨g, 0, none⟩) n c) (.slice (some ⟨g, 0, none⟩) n c) hc)) (fun v1 _ => (intOf v1).toNat)
  case atStart => exact ⟨j, hj, rfl, H0⟩
  case round =>
    obtain ⟨jc, hjc, rfl, HK⟩ := hrel
    obtain ⟨hc, f, hf, hcl, hup, hO⟩ := HK.out
    have c0 : wr.cell? ⟨rb, 0, none⟩ = some (.slice (some ⟨g, 0, none⟩) n c) := cell_of_row wr rb 0 _ _ _ hO.hp.blk
    have m1 := inv_less c0
    have m2 := inv_swap c0
    by_cases hz : jc = 0
    · subst hz
      have hu : upF f hc 0 = hc := by cases f <;> simp [upF]
      have HX := Lib.hid (And.intro hup (And.intro hO hu))
      clear hf hcl hup hO hu HK m1 m2
      go_wp2_with fail
      go_end0
      rw [← HX.out.1, HX.out.2.2]
      exact ⟨rfl, HX.out.2.1⟩
    · obtain ⟨p, hp⟩ : ∃ p, (jc - 1) / 2 = p := ⟨_, rfl⟩
      have hpj : p < jc := by omega
      obtain ⟨x, hx⟩ := at_lt (show jc < hc.length by omega)
      obtain ⟨y, hy⟩ := at_lt (show p < hc.length by omega)
      have w1 : IntKind.i64.wrap ((jc : Int) - 1) = (jc : Int) - 1 := wrap_small _ (by omega) (by omega)
      have w2 : Int.tdiv ((jc : Int) - 1) 2 = (p : Int) := by
        have e : (jc : Int) - 1 = ((jc - 1 : Nat) : Int) := by omega
        rw [e, ← hp]
        rfl
      have w3 : IntKind.i64.wrap (p : Int) = (p : Int) := wrap_small _ (by omega) (by omega)
      have d1 : decide ((p : Int) = (jc : Int)) = false := by simp; omega
      have d2 : ¬ ((p : Int) = (jc : Int)) := by omega
      have d3 : ((p : Int) == (jc : Int)) = false := by simp; omega
      obtain ⟨AI, cI, eI, hI, _⟩ := hO.hp.own.form
      have eI2 : AI = some ⟨g, 0, none⟩ := by injection eI with eI _ _; exact eI.symm
      subst eI2
      have HL := Lib.hid (less_any (some ⟨g, 0, none⟩) n c hc jc p x y wr hI hcl.symm hx hy)
      have hstep : upF f hc jc = if x < y then upF (f - 1) (swL hc p jc) p else hc := by
        obtain ⟨f', rfl⟩ : ∃ f', f = f' + 1 := ⟨f - 1, by omega⟩
        rw [upF, hp, if_neg (by omega), hx, hy]
        rfl
      have HX := Lib.hid (And.intro hup (And.intro hO (And.intro hstep (And.intro hf (And.intro hcl (And.intro hx hy))))))
      clear hf hcl hup hO HK hstep hx hy hI eI hp
      by_cases hxy : x < y
      · have e1 : decide (x < y) = true := by simpa using hxy
        rw [e1] at HL
        have HXY := Lib.hid hxy
        clear hxy e1
        go_wp2_with fail
        refine HL.out.mono ?_
        rintro e w3 ⟨rfl, t3⟩
        have hO3 := HX.out.2.1.turn t3
        have c3 : w3.cell? ⟨rb, 0, none⟩ = some (.slice (some ⟨g, 0, none⟩) n c) := cell_of_row w3 rb 0 _ _ _ hO3.hp.blk
        have m3 := inv_swap c3
        have HS := Lib.hid (swap_any g n c hc p jc 0 y x w3 hO3.hp.own HX.out.2.2.2.2.1.symm HX.out.2.2.2.2.2.2 HX.out.2.2.2.2.2.1)
        have HO3 := Lib.hid hO3
        clear hO3 t3 m1 m2
        go_wp2_with fail
        refine HS.out.mono ?_
        rintro e w4 ⟨rfl, ho4, t4⟩
        have HN : Hid (∃ hc f, p ≤ f ∧ hc.length = n ∧ upF f hc p = upF j h j ∧ HpO w w4 rb (.slice (some ⟨g, 0, none⟩) n c) (.slice (some ⟨g, 0, none⟩) n c) hc) := by
          refine Lib.hid ⟨swL hc p jc, f - 1, by have := HX.out.2.2.2.1; omega, by rw [swL_len]; exact HX.out.2.2.2.2.1, ?_, HO3.out.sw ho4 t4⟩
          rw [← HX.out.1, HX.out.2.2.1, if_pos HXY.out]
        clear ho4 t4 HS HO3
        go_wp2_with fail
        go_roundw
        case rel => exact ⟨p, by omega, rfl, HN⟩
        case measure => simp [intOf]; omega
      · have e1 : decide (x < y) = false := by simpa using hxy
        rw [e1] at HL
        have HXY := Lib.hid hxy
        clear hxy e1
        go_wp2_with fail
        refine HL.out.mono ?_
        rintro e w3 ⟨rfl, t3⟩
        go_wp2_with fail
        go_end0
        refine ⟨rfl, ?_⟩
        rw [← HX.out.1, HX.out.2.2.1, if_neg (by have := HXY.out; omega)]
        exact HX.out.2.1.turn t3
end Go.Proofs.YtjnphoeifonenaaDoor
