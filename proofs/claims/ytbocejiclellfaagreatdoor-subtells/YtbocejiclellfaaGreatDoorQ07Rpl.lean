import Derived.Test.YtbocejiclellfaaGreatDoorQ02Tbl
import Derived.Test.YtbocejiclellfaaGreatDoorQ06Fil
import Derived.Test.YtbocejiclellfaaGreatDoorQ03Clw
import Derived.Test.YtbocejiclellfaaGreatDoorQ05Flt
import Derived.Deep.DeepCutAuto
import Derived.Handy
import Derived.Deep.RegionHeld3
import Derived.BigQuiet

/- What reach answers, said of ways: plain. -/
set_option linter.unusedSimpArgs false
set_option linter.unusedVariables false
set_option maxRecDepth 100000
namespace Go.Proofs.YtbocejiclellfaaGreatDoor
open Go.RowKit

/-- A way from i to j, among those below n that T hasn't. -/
inductive Ua (nx : Nat → List Nat) (n : Nat) (T : List Int) : Nat → Nat → Prop
  | refl {i : Nat} (h : i < n) (ht : (i : Int) ∉ T) : Ua nx n T i i
  | step {i j a : Nat} (h : Ua nx n T i j) (ha : a ∈ nx j) (hn : a < n) (ht : (a : Int) ∉ T) : Ua nx n T i a
section
variable {nx : Nat → List Nat} {n : Nat} {T : List Int}
theorem Ua.lt {i j : Nat} (h : Ua nx n T i j) : j < n := by
  cases h with
  | refl h _ => exact h
  | step _ _ h _ => exact h
theorem Ua.out {i j : Nat} (h : Ua nx n T i j) : (j : Int) ∉ T := by
  cases h with
  | refl _ h => exact h
  | step _ _ _ h => exact h
theorem Ua.trans {i j k : Nat} (h : Ua nx n T i j) (hk : Ua nx n T j k) : Ua nx n T i k := by
  induction hk with
  | refl _ _ => exact h
  | step _ ha hn ht ih => exact .step ih ha hn ht
theorem meetL_ext (hn : n ≤ 1000000) : ∀ (is l L : List Int), ∃ X, (meetL n is l L).2 = L ++ X ∧ (∀ y, y ∈ (meetL n is l L).1 ↔ y ∈ l ∨ y ∈ X) ∧ (∀ y ∈ X, y ∈ is ∧ (0 ≤ y ∧ y < (n : Int)) ∧ y ∉ l) ∧ (∀ y ∈ is, 0 ≤ y → y < (n : Int) → y ∈ (meetL n is l L).1)
  | [], l, L => ⟨[], by simp [meetL], by simp [meetL], by simp, by simp⟩
  | i :: is, l, L => by
    rw [meetL_cons]
    cases hm : mayB n l i with
    | true =>
      obtain ⟨X, h1, h2, h3, h4⟩ := meetL_ext hn is (stepL n l i) (L ++ [i])
      have hm' := hm
      unfold mayB at hm'
      rw [Bool.and_eq_true, decide_eq_true_eq] at hm'
      have hni : i ∉ l := by
        have := hm'.2
        simpa [hasB] using this
      simp only [if_true]
      refine ⟨i :: X, by rw [h1]; simp, fun y => ?_, fun y hy => ?_, fun y hy hy0 hyn => ?_⟩
      · rw [h2, mem_step hn]
        constructor
        · rintro ((h | ⟨h, _⟩) | h)
          · exact .inl h
          · exact .inr (by rw [h]; simp)
          · exact .inr (by simp [h])
        · rintro (h | h)
          · exact .inl (.inl h)
          · rcases List.mem_cons.1 h with rfl | h
            · exact .inl (.inr ⟨rfl, hm'.1⟩)
            · exact .inr h
      · rcases List.mem_cons.1 hy with rfl | hy
        · exact ⟨by simp, hm'.1, hni⟩
        · have := h3 y hy
          exact ⟨by simp [this.1], this.2.1, fun h => this.2.2 ((mem_step hn).2 (.inl h))⟩
      · rcases List.mem_cons.1 hy with rfl | hy
        · exact (h2 y).2 (.inl ((mem_step hn).2 (.inr ⟨rfl, hy0, hyn⟩)))
        · exact h4 y hy hy0 hyn
    | false =>
      obtain ⟨X, h1, h2, h3, h4⟩ := meetL_ext hn is (stepL n l i) L
      have hs : stepL n l i = l := by unfold stepL; rw [hm]; rfl
      rw [hs] at h1 h2 h3 h4
      simp only [Bool.false_eq_true, if_false]
      rw [hs]
      refine ⟨X, h1, h2, fun y hy => ⟨by simp [(h3 y hy).1], (h3 y hy).2⟩, fun y hy hy0 hyn => ?_⟩
      rcases List.mem_cons.1 hy with rfl | hy
      · unfold mayB at hm
        have hr : decide (0 ≤ y ∧ y < (n : Int)) = true := by simpa using ⟨hy0, hyn⟩
        rw [hr] at hm
        have hy2 : y ∈ l := by simpa [hasB] using hm
        exact (h2 y).2 (.inl hy2)
      · exact h4 y hy hy0 hyn
/-- k of those found are done. -/
structure Gi (nx : Nat → List Nat) (n : Nat) (is T : List Int) (k : Nat) (l L : List Int) : Prop where
  a : ∀ y, y ∈ l ↔ y ∈ T ∨ y ∈ L
  b : ∀ y ∈ L, ∃ i j : Nat, (i : Int) ∈ is ∧ y = (j : Int) ∧ Ua nx n T i j
  c : ∀ y ∈ is, 0 ≤ y → y < (n : Int) → y ∈ l
  d : ∀ (q : Nat) (x : Nat), q < k → L[q]? = some (x : Int) → ∀ a ∈ nx x, a < n → (a : Int) ∈ l
theorem gi_go (hn : n ≤ 1000000) {is : List Int} : ∀ (f k : Nat) (l L : List Int), InvL n l L → Gi nx n is T k l L → n < f + k → Gi nx n is T (goL n nx f k l L).2.length (goL n nx f k l L).1 (goL n nx f k l L).2
  | 0, k, l, L, hI, hG, hf => by
    have := nodup_le n L hI.nd hI.lo
    exact ⟨hG.a, hG.b, hG.c, fun q x hq => hG.d q x (by have : q < L.length := hq; omega)⟩
  | f + 1, k, l, L, hI, hG, hf => by
    cases hk : L[k]? with
    | none =>
      have hl : L.length ≤ k := List.getElem?_eq_none_iff.1 hk
      rw [goL_none hl]
      exact ⟨hG.a, hG.b, hG.c, fun q x hq => hG.d q x (by have : q < L.length := hq; omega)⟩
    | some i =>
      rw [goL_some hk]
      obtain ⟨i0, hi0⟩ := Int.eq_ofNat_of_zero_le (hI.lo i (List.mem_of_getElem? hk)).1
      subst hi0
      obtain ⟨X, h1, h2, h3, h4⟩ := meetL_ext hn (ofN (nx i0)) l L
      have e : ((i0 : Int)).toNat = i0 := by simp
      rw [e]
      refine gi_go hn f (k + 1) _ _ (meetL_inv hn _ hI) ⟨fun y => ?_, fun y hy => ?_, fun y hy h0 hyn => ?_, fun q x hq hx a ha han => ?_⟩ (by omega)
      · rw [h2, h1, hG.a, List.mem_append, or_assoc]
      · rw [h1] at hy
        rcases List.mem_append.1 hy with hy | hy
        · exact hG.b y hy
        · obtain ⟨k1, k2, k3⟩ := h3 y hy
          unfold ofN at k1
          obtain ⟨a, ha, rfl⟩ := List.mem_map.1 k1
          obtain ⟨i, j, q1, q2, q3⟩ := hG.b _ (List.mem_of_getElem? hk)
          have q2' : i0 = j := by omega
          subst q2'
          exact ⟨i, a, q1, rfl, .step q3 ha (by omega) (fun h => k3 ((hG.a _).2 (.inl h)))⟩
      · exact (h2 y).2 (.inl (hG.c y hy h0 hyn))
      · have hkl : k < L.length := (List.getElem?_eq_some_iff.1 hk).1
        rw [h1, List.getElem?_append_left (by omega)] at hx
        by_cases hqk : q < k
        · exact (h2 _).2 (.inl (hG.d q x hqk hx a ha han))
        · have hq' : q = k := by omega
          subst hq'
          rw [hk] at hx
          injection hx with hx
          have hx' : i0 = x := by omega
          subst hx'
          exact h4 _ (by unfold ofN; exact List.mem_map.2 ⟨a, ha, rfl⟩) (by omega) (by omega)
theorem reach_gi (hn : n ≤ 1000000) (is : List Int) : Gi nx n is T (reachL n nx is T).2.length (reachL n nx is T).1 (reachL n nx is T).2 := by
  unfold reachL
  have hI : InvL n T [] := ⟨by simp, by simp, by simp⟩
  obtain ⟨X, h1, h2, h3, h4⟩ := meetL_ext hn is T []
  refine gi_go hn _ _ _ _ (meetL_inv hn is hI) ⟨fun y => ?_, fun y hy => ?_, fun y hy h0 hyn => h4 y hy h0 hyn, fun q x hq => by omega⟩ (by omega)
  · rw [h2, h1]; simp
  · rw [h1] at hy
    obtain ⟨k1, k2, k3⟩ := h3 y (by simpa using hy)
    obtain ⟨i, hi⟩ := Int.eq_ofNat_of_zero_le k2.1
    subst hi
    exact ⟨i, i, k1, rfl, .refl (by omega) k3⟩
theorem reach_mem2 (hn : n ≤ 1000000) (is : List Int) (y : Int) : y ∈ (reachL n nx is T).2 ↔ ∃ i j : Nat, (i : Int) ∈ is ∧ y = (j : Int) ∧ Ua nx n T i j := by
  have h := reach_gi (nx := nx) (T := T) hn is
  constructor
  · exact h.b y
  · rintro ⟨i, j, hi, rfl, hu⟩
    have hin : ∀ q : Nat, (q : Int) ∈ (reachL n nx is T).1 → (q : Int) ∉ T → (q : Int) ∈ (reachL n nx is T).2 := fun q hq hqt => by
      rcases (h.a _).1 hq with h1 | h1
      · exact absurd h1 hqt
      · exact h1
    induction hu with
    | refl h1 h2 => exact hin _ (h.c _ hi (by omega) (by omega)) h2
    | step h1 ha h2 h3 ih =>
      obtain ⟨q, hq, hqe⟩ := List.getElem_of_mem ih
      exact hin _ (h.d q _ hq (by rw [List.getElem?_eq_getElem hq, hqe]) _ ha h2) h3
theorem reach_mem1 (hn : n ≤ 1000000) (is : List Int) (y : Int) : y ∈ (reachL n nx is T).1 ↔ y ∈ T ∨ y ∈ (reachL n nx is T).2 := (reach_gi (nx := nx) hn is).a y
theorem sd_step (l : List Int) (h : Sd l) (i : Int) : Sd (stepL n l i) := by
  unfold stepL
  split
  · exact sd_putL h i
  · exact h
theorem sd_meet : ∀ (is l L : List Int), Sd l → Sd (meetL n is l L).1
  | [], l, L, h => h
  | i :: is, l, L, h => by
    rw [meetL_cons]
    exact sd_meet is _ _ (sd_step l h i)
theorem sd_go : ∀ (f k : Nat) (l L : List Int), Sd l → Sd (goL n nx f k l L).1
  | 0, k, l, L, h => h
  | f + 1, k, l, L, h => by
    unfold goL
    split
    · exact h
    · exact sd_go f _ _ _ (sd_meet _ _ _ h)
theorem sd_reach (is : List Int) (h : Sd T) : Sd (reachL n nx is T).1 := sd_go _ _ _ _ (sd_meet _ _ _ h)
end
theorem abv_mem {Es : List En} (hn : Es.length ≤ 1000000) (is : List Int) (y : Int) : y ∈ abvL Es is ↔ ∃ i j : Nat, (i : Int) ∈ is ∧ y = (j : Int) ∧ Ua (nxE Es) Es.length [] i j := by
  unfold abvL
  rw [reach_mem1 hn, reach_mem2 hn]
  simp
theorem sd_abv (Es : List En) (is : List Int) : Sd (abvL Es is) := sd_reach is (by simp [Sd])
/-- All of a list put into another. -/
def putAll : List Int → List Int → List Int
  | [], t => t
  | x :: xs, t => putAll xs (putL t x)
theorem mem_putAll : ∀ (xs t : List Int) (y : Int), (∀ x ∈ xs, okB x = true) → (y ∈ putAll xs t ↔ y ∈ t ∨ y ∈ xs)
  | [], t, y, _ => by simp [putAll]
  | x :: xs, t, y, h => by
    rw [putAll, mem_putAll xs _ y (fun z hz => h z (by simp [hz])), mem_putL, List.mem_cons]
    have := h x (by simp)
    simp only [this, and_true, or_assoc]
theorem sd_putAll : ∀ (xs t : List Int), Sd t → Sd (putAll xs t)
  | [], t, h => h
  | x :: xs, t, h => sd_putAll xs _ (sd_putL h x)
/-- All above each. -/
def bothL (Es : List En) : List Int → List Int → List Int
  | [], t => t
  | i :: is, t => bothL Es is (putAll (abvL Es [i]) t)
theorem mem_bothL {Es : List En} (hn : Es.length ≤ 1000) : ∀ (is t : List Int) (y : Int), y ∈ bothL Es is t ↔ y ∈ t ∨ y ∈ abvL Es is
  | [], t, y => by
    rw [bothL, abv_mem (by omega)]
    simp
  | i :: is, t, y => by
    rw [bothL, mem_bothL hn is, mem_putAll]
    · rw [abv_mem (by omega), abv_mem (by omega), abv_mem (by omega), or_assoc]
      constructor
      · rintro (h | ⟨a, b, h1, h2, h3⟩ | ⟨a, b, h1, h2, h3⟩)
        · exact .inl h
        · exact .inr ⟨a, b, by simp at h1; simp [h1], h2, h3⟩
        · exact .inr ⟨a, b, by simp [h1], h2, h3⟩
      · rintro (h | ⟨a, b, h1, h2, h3⟩)
        · exact .inl h
        · rcases List.mem_cons.1 h1 with h1 | h1
          · exact .inr (.inl ⟨a, b, by simp [h1], h2, h3⟩)
          · exact .inr (.inr ⟨a, b, h1, h2, h3⟩)
    · intro x hx
      obtain ⟨a, b, h1, rfl, h3⟩ := (abv_mem (by omega) _ _).1 hx
      have := h3.lt
      simp [okB]
      omega
theorem sd_bothL (Es : List En) : ∀ (is t : List Int), Sd t → Sd (bothL Es is t)
  | [], t, h => h
  | i :: is, t, h => sd_bothL Es is _ (sd_putAll _ _ h)
theorem both_same {Es : List En} (hn : Es.length ≤ 1000) (is : List Int) : bothL Es is [] = abvL Es is :=
  sd_ext (sd_bothL Es is [] (by simp [Sd])) (sd_abv Es is) (fun x => by rw [mem_bothL hn]; simp)
end Go.Proofs.YtbocejiclellfaaGreatDoor

/- New: plain, and its results. -/
set_option linter.unusedSimpArgs false
set_option linter.unusedVariables false
set_option maxRecDepth 100000
namespace Go.Proofs.YtbocejiclellfaaGreatDoor
open Go.RowKit

theorem results_tmp_cell {fn : Func} {p u : Tmp} {ty : TypeId} (h : fn.results = #[.tmp u, .cell p ty]) (tmps : Array Value) (P : Program) (w : World) :
    (results fn tmps).run P w = ((asAddr (tmps.getD p undef)).run P w).andThen fun a w₁ => ((loadVar ty a).run P w₁).andThen fun v w₂ => .ok (.tuple #[tmps.getD u undef, v]) w₂ := by
  simp only [results, h]
  simp [Sem.run_bind, Result.andThen]
theorem ret_new {w : World} {g : Nat} {e p q : Int} {V : Value} {tmps : Array Value} (h : w.heap[g]? = some (.cells (ftC e p q) 58 (0, 0))) (h2 : tmps.getD 3 undef = .pointer (some ⟨g, 0, none⟩)) (h3 : tmps.getD 2 undef = V) :
    (results Tryz.f24 tmps).run Tryz.prog w = .ok (.tuple #[V, .agg (ftC e p q)]) w := by
  rw [results_tmp_cell (p := 3) (u := 2) (ty := 58) rfl, h2, h3]
  simp [asAddr, load_fault h, Result.andThen]
/-- All entries. -/
def esL (l : List K8) : List En := l.map (enOf l)
theorem esL_len (l : List K8) : (esL l).length = l.length := by simp [esL]
theorem nxE_esL {l : List K8} {k : Nat} {c : K8} (h : l[k]? = some c) : nxE (esL l) k = (enOf l c).rt := by
  unfold nxE
  rw [enAt_nat (x := enOf l c) (by unfold esL; rw [List.getElem?_map, h]; rfl)]
theorem enOf_rt {l : List K8} {c : K8} : (∀ a ∈ (enOf l c).rt, a < l.length) ∧ (enOf l c).rt.length ≤ 1 + c.fcs.length := by
  unfold enOf
  cases h : entR8 l c with
  | none => simp [en0]
  | some p =>
    obtain ⟨s, rt⟩ := p
    have := entR8_nat h
    refine ⟨fun a ha => ?_, by simpa using this.2⟩
    obtain ⟨i, hi, rfl⟩ := List.mem_map.1 ha
    obtain ⟨j, rfl, hj⟩ := this.1 i hi
    simpa using hj
theorem esL_ok {l : List K8} (hl : l.length ≤ 1000) (hf : ∀ c ∈ l, c.fcs.length ≤ 999) : EsOk (esL l) where
  lt := fun k a ha => by
    rw [esL_len]
    by_cases hk : k < l.length
    · obtain ⟨c, hc⟩ := at_lt hk
      rw [nxE_esL hc] at ha
      exact enOf_rt.1 a ha
    · unfold nxE at ha
      rw [enAt_out (by rw [esL_len]; omega)] at ha
      simp [en0] at ha
  few := fun k => by
    by_cases hk : k < l.length
    · obtain ⟨c, hc⟩ := at_lt hk
      rw [nxE_esL hc]
      have := enOf_rt (l := l) (c := c)
      have := hf c (List.mem_of_getElem? hc)
      omega
    · unfold nxE
      rw [enAt_out (by rw [esL_len]; omega)]
      simp [en0]
  n := by rw [esL_len]; exact hl
theorem minL_mem : ∀ (l : List Int), l ≠ [] → minL l ∈ l
  | [], h => absurd rfl h
  | [x], _ => by simp [minL]
  | x :: y :: l, _ => by
    rw [minL]
    · have := minL_mem (y :: l) (by simp)
      by_cases hx : x ≤ minL (y :: l)
      · rw [Int.min_eq_left hx]; simp
      · rw [Int.min_eq_right (by omega)]; exact List.mem_cons_of_mem _ this
    · simp
/-- What round answers is a number, or -1. -/
theorem roundL_lt {Es : List En} (hn : Es.length ≤ 1000000) : ∀ (xs l : List Int) (first : Int), (first = -1 ∨ (0 ≤ first ∧ first < (Es.length : Int))) → (roundL Es xs l first = -1 ∨ (0 ≤ roundL Es xs l first ∧ roundL Es xs l first < (Es.length : Int)))
  | [], l, first, h => h
  | x :: xs, l, first, h => by
    unfold roundL
    apply roundL_lt hn xs
    split
    · rename_i hc
      right
      have hne : (reachL Es.length (nxB Es) [x] l).2 ≠ [] := fun e => by rw [e] at hc; simp [roundG] at hc
      have hm := minL_mem _ hne
      obtain ⟨i, j, _, hj, hu⟩ := (reach_mem2 hn _ _).1 hm
      have := hu.lt
      omega
    · exact h
/-- The first class that isn't right by names. -/
theorem filK_some {l : List K8} : ∀ (cs : List K8) (k j : Nat), filK l cs k = some j → ∃ c, k ≤ j ∧ cs[j - k]? = some c ∧ okK l j c = false ∧ ∀ i c', i < j - k → cs[i]? = some c' → okK l (k + i) c' = true
  | [], k, j, h => by simp [filK] at h
  | c :: cs, k, j, h => by
    unfold filK at h
    split at h
    · rename_i hc
      obtain ⟨c', h1, h2, h3, h4⟩ := filK_some cs (k + 1) j h
      refine ⟨c', by omega, ?_, h3, fun i c'' hi hc'' => ?_⟩
      · rw [show j - k = (j - (k + 1)) + 1 by omega, List.getElem?_cons_succ]
        exact h2
      · cases i with
        | zero =>
          simp at hc''
          subst hc''
          exact hc
        | succ i =>
          rw [List.getElem?_cons_succ] at hc''
          have := h4 i c'' (by omega) hc''
          rw [show k + (i + 1) = k + 1 + i by omega]
          exact this
    · rename_i hc
      injection h with h
      subst h
      refine ⟨c, Nat.le_refl _, by simp, by simpa using hc, fun i c'' hi => by omega⟩
theorem filK_none {l : List K8} : ∀ (cs : List K8) (k : Nat), filK l cs k = none → ∀ i c, cs[i]? = some c → okK l (k + i) c = true
  | [], k, _, i, c, h => by simp at h
  | d :: cs, k, h, i, c, hc => by
    unfold filK at h
    split at h
    · rename_i hd
      cases i with
      | zero => simp at hc; subst hc; exact hd
      | succ i =>
        rw [List.getElem?_cons_succ] at hc
        have := filK_none cs (k + 1) h i c hc
        rw [show k + (i + 1) = k + 1 + i by omega]
        exact this
    · cases h
/-- What New answers. -/
inductive NwR (l : List K8) (r : Nat) (e : Ending) (w' : World) : Prop
  | bad (k : Nat) (c : K8) (hk : filK l l 0 = some k) (hc : l[k]? = some c) (he : e = .returned (.tuple #[.pointer none, .agg (ftC 11 c.p c.q)]))
  | rnd (s : Cs) (a : Nat) (c : K8) (hf : filK l l 0 = none) (hs : climbTo (esL l) l.length s) (ha : roundL (esL l) s.d.reverse [] (-1) = (a : Int)) (hc : l[a]? = some c) (he : e = .returned (.tuple #[.pointer none, .agg (ftC 11 c.p c.q)]))
  | ok (s : Cs) (t m sz : Nat) (V : Value) (hf : filK l l 0 = none) (hs : climbTo (esL l) l.length s) (ha : roundL (esL l) s.d.reverse [] (-1) = -1) (he : e = .returned (.tuple #[.pointer (some ⟨t, 0, none⟩), .agg (ftC 0 0 0)])) (hr : r ≤ t) (ht : Tl w' (fun g => r ≤ g) t (.map (some m)) V (esL l)) (hm : MapS w' m sz (fstF l l.length))
/-- What the law asks of the classes: names are no longer than any machine's, and there are not too many. -/
structure KOk (l : List K8) : Prop where
  len : l.length ≤ 1000
  nm : ∀ k ∈ l, k.nm.size ≤ 281474976710656 ∧ k.sup.size ≤ 281474976710656 ∧ (∀ s ∈ k.fcs, s.size ≤ 281474976710656) ∧ k.fcs.length ≤ 999
end Go.Proofs.YtbocejiclellfaaGreatDoor

/- The reference's Find; its Right. -/
set_option linter.unusedSimpArgs false
set_option linter.unusedVariables false
set_option maxRecDepth 100000
namespace Go.Proofs.YtbocejiclellfaaGreatDoor
open Go.RowKit

theorem tx_same (a : ByteArray) : (a.toList == a.toList) = true := by simp
theorem tx_other {a b : ByteArray} (h : a ≠ b) : (a.toList == b.toList) = false := by
  rw [beq_eq_false_iff_ne]
  intro e
  rw [ByteArray.toList_eq, ByteArray.toList_eq] at e
  exact h (ByteArray.ext (by simpa using e))
/-- What Find answers. -/
def fndI (l : List K8) (s : ByteArray) : Int := match fstF l l.length s with
  | some i => (i : Int)
  | none => -1
theorem fstF_next {l : List K8} {i : Nat} {c : K8} {s : ByteArray} (hc : l[i]? = some c) (h : fstF l i s = none) : fstF l (i + 1) s = if c.nm = s then some i else none := by
  rw [fstF_succ hc]
  by_cases e : c.nm = s
  · subst e
    rw [h, if_pos rfl]
    simp [updS]
  · rw [if_neg e]
    split
    · exact h
    · unfold updS
      rw [if_neg (fun h => e h.symm)]
      exact h
theorem fstF_more {l : List K8} {i : Nat} {s : ByteArray} {j : Nat} (h : fstF l i s = some j) (hi : i ≤ l.length) : fstF l l.length s = some j := by
  unfold fstF at h ⊢
  rw [List.take_length]
  conv => lhs; rw [← List.take_append_drop i l]
  rw [List.findIdx?_append, h]
  rfl
set_option maxHeartbeats 6400000 in
theorem rfind_any (A : Option Addr) (c B : Nat) (l : List K8) (m0 m1 m2 m3 m4 m5 m6 m7 m8 : Value) (s : ByteArray) (w : World) (hr : RdKs B w A l) (hl : l.length ≤ 1000) :
    Calls Tryz.prog 9 #[.agg #[.slice A l.length c, m0, m1, m2, m3, m4, m5, m6, m7, m8], .string s] w fun e w' => e = .returned (.int .i64 (fndI l s)) ∧ Turn [] w w' := by
  obtain ⟨n, hn⟩ : ∃ n, l.length = n := ⟨_, rfl⟩
  obtain ⟨r, hrr⟩ : ∃ r, w.heap.size = r := ⟨_, rfl⟩
  obtain ⟨W0, hW0⟩ : ∃ W, w.alloc (.cells #[.slice A n c, m0, m1, m2, m3, m4, m5, m6, m7, m8] 30) = W := ⟨_, rfl⟩
  have t0 : Turn [] w W0 := by rw [← hW0]; exact (Turn.refl [] w).alloc _
  have b0 : W0.heap[r]? = some (.cells #[.slice A n c, m0, m1, m2, m3, m4, m5, m6, m7, m8] 30 (0, 0)) := by rw [← hW0, ← hrr]; exact heap_alloc_new w _
  have p0 : W0.cell? ⟨r, 0, none⟩ = some (.slice A n c) := cell_of_row W0 r 0 _ _ _ b0
  have HR := Lib.hid (hr.turn t0 (by simp))
  have HT0 := Lib.hid t0
  have HW0 := Lib.hid hW0
  have HN := Lib.hid hn
  have HRR := Lib.hid hrr
  rw [hn] at hl ⊢
  clear hr t0 hW0 b0 hn hrr
  go_enter Tryz.func9, Tryz.ntmps9
  go_wp2_with fail
  rw [HRR.out, HW0.out]
  go_loopw [5] (fun v5 wr => ∃ i : Nat, i ≤ n ∧ v5 = .int .i64 (i : Int) ∧ wr = W0 ∧ Hid (fstF l i s = none)) (fun v5 _ => n - (intOf v5).toNat)
  case atStart => exact ⟨0, Nat.zero_le _, rfl, rfl, Lib.hid (by rw [fstF_zero])⟩
  case round =>
    obtain ⟨i, hi, rfl, rfl, HK⟩ := hrel
    by_cases him : i < n
    · have d1 : decide ((i : Int) < (n : Int)) = true := by simp; omega
      have d2 : (i : Int) < (n : Int) := by omega
      obtain ⟨x, hx⟩ := at_lt (show i < l.length by have := HN.out; omega)
      obtain ⟨b, off, cs, rfl, hb, hbl, hcell, A3, c3, A4, n4, c4, A5, n5, c5, A6, n6, c6, I, rfl, hst⟩ := HR.out i x hx
      have e0 : wr.cell? ⟨b, off + i * 10, none⟩ = some (.string x.nm) := hcell 0 _ rfl
      have hnx := fstF_next hx HK.out
      clear hcell hst
      by_cases hs : x.nm = s
      · have e1 := tx_same s
        rw [if_pos hs] at hnx
        have hfi : fndI l s = (i : Int) := by
          unfold fndI
          rw [fstF_more hnx (by have := HN.out; omega)]
        subst hs
        have HF := Lib.hid hfi
        clear hnx hx HK hfi
        go_wp2_with fail
        go_ret
        exact ⟨by rw [HF.out]; rfl, HT0.out⟩
      · have e1 := tx_other hs
        rw [if_neg hs] at hnx
        have HN1 := Lib.hid hnx
        clear hnx hx HK hs
        go_wp2_with fail
        go_roundw
        case rel => exact ⟨i + 1, by omega, by go_num, trivial, HN1⟩
        case measure => simp [intOf]; omega
    · obtain rfl : i = n := by omega
      have d1 : decide ((i : Int) < (i : Int)) = false := by simp
      have hfi : fndI l s = -1 := by
        unfold fndI
        rw [HN.out, HK.out]
      have HF := Lib.hid hfi
      clear hfi
      go_wp2_with fail
      go_ret
      exact ⟨by rw [HF.out]; rfl, HT0.out⟩
end Go.Proofs.YtbocejiclellfaaGreatDoor

/- The heap of numbers that may come next: IntSlice's Len, Less, Swap; Push and Pop. -/
set_option linter.unusedSimpArgs false
set_option linter.unusedVariables false
set_option maxRecDepth 100000
namespace Go.Proofs.YtbocejiclellfaaGreatDoor
open Go.RowKit

theorem rset {w : World} {b i : Nat} {cs cs' : Array Value} {t : TypeId} {u : Value} (h : w.heap[b]? = some (.cells cs t (0, 0))) (e : cs.setIfInBounds i u = cs') : (w.setCell ⟨b, i, none⟩ u).heap[b]? = some (.cells cs' t (0, 0)) := by
  rw [← e]; exact Go.heap_setCell_same w b i _ _ u h
/-- The heap at rb: its list lies in blocks behind it. -/
structure Hp (w : World) (rb : Nat) (V : Value) (h : List Int) : Prop where
  blk : w.heap[rb]? = some (.cells #[V] 98 (0, 0))
  own : OwnI w 0 V h
  ap : ∀ g, V.ownBlock = some g → rb < g
/-- What turns a heap leaves. -/
structure HpO (w w' : World) (rb : Nat) (V V' : Value) (h' : List Int) : Prop where
  hp : Hp w' rb V' h'
  tr : Turn (rb :: V.ownBlock.toList) w w'
  mv : V'.ownBlock = V.ownBlock ∨ ∃ g, V'.ownBlock = some g ∧ w.heap.size ≤ g
theorem Hp.turn {w w' : World} {rb : Nat} {V : Value} {h : List Int} {F : List Nat} (k : Hp w rb V h) (t : Turn F w w') (h1 : rb ∉ F) (h2 : ∀ g, V.ownBlock = some g → g ∉ F) : Hp w' rb V h := ⟨t.heap k.blk h1, k.own.turn t h2, k.ap⟩
theorem Hp.turn' {w w' : World} {rb : Nat} {V : Value} {h : List Int} (k : Hp w rb V h) (t : Turn [] w w') : Hp w' rb V h := k.turn t (by simp) (by simp)
theorem HpO.refl {w : World} {rb : Nat} {V : Value} {h : List Int} (k : Hp w rb V h) : HpO w w rb V V h := ⟨k, Turn.refl _ _, .inl rfl⟩
theorem HpO.trans {w w1 w2 : World} {rb : Nat} {V V1 V2 : Value} {h1 h2 : List Int} (a : HpO w w1 rb V V1 h1) (b : HpO w1 w2 rb V1 V2 h2) : HpO w w2 rb V V2 h2 := by
  have hs := a.tr.size
  refine ⟨b.hp, a.tr.trans b.tr (fun g hg => ?_), ?_⟩
  · rcases List.mem_cons.1 hg with rfl | hg
    · exact .inl (by simp)
    · have hg' : V1.ownBlock = some g := by simpa using hg
      rcases a.mv with m | ⟨g', m1, m2⟩
      · exact .inl (by rw [m] at hg'; simp [hg'])
      · rw [m1] at hg'; injection hg' with hg'; exact .inr (by omega)
  · rcases b.mv with m | ⟨g, m1, m2⟩
    · rcases a.mv with n | n
      · exact .inl (m.trans n)
      · rw [m]; exact .inr n
    · exact .inr ⟨g, m1, by omega⟩
theorem HpO.turn {w w' w2 : World} {rb : Nat} {V V' : Value} {h : List Int} (a : HpO w w' rb V V' h) (t : Turn [] w' w2) : HpO w w2 rb V V' h := a.trans ⟨a.hp.turn' t, t.more (by simp), .inl rfl⟩
theorem Hp.form {w : World} {rb : Nat} {V : Value} {h : List Int} (k : Hp w rb V h) : ∃ A c, V = .slice A h.length c ∧ h.length ≤ c := by
  obtain ⟨A, c, e, _, hc⟩ := k.own.form
  exact ⟨A, c, e, hc⟩

set_option maxHeartbeats 1600000 in
theorem slen_any (P : Option Addr) (n c : Nat) (w : World) (hn : n ≤ 10000000) : Calls Tryz.prog 52 #[.slice P n c] w fun e w' => e = .returned (.int .i64 (n : Int)) ∧ w = w' := by
  go_enter Tryz.func52, Tryz.ntmps52
  go_wp2_with fail
  go_ret
  exact ⟨rfl, rfl⟩
set_option maxHeartbeats 3200000 in
theorem less_any (P : Option Addr) (n c : Nat) (h : List Int) (i j : Nat) (x y : Int) (w : World) (hI : Ints w P h) (hn : n = h.length) (hx : h[i]? = some x) (hy : h[j]? = some y) :
    Calls Tryz.prog 117 #[.slice P n c, .int .i64 (i : Int), .int .i64 (j : Int)] w fun e w' => e = .returned (.bool (decide (x < y))) ∧ Turn [] w w' := by
  obtain ⟨b, off, rfl, hb, hcx⟩ := hI i x hx
  obtain ⟨b', off', e, hb', hcy⟩ := hI j y hy
  have hil : i < n := by rw [hn]; exact (List.getElem?_eq_some_iff.1 hx).1
  have hjl : j < n := by rw [hn]; exact (List.getElem?_eq_some_iff.1 hy).1
  injection e with e
  injection e with e1 e2
  subst e1 e2
  have d1 : (i : Int) < (n : Int) := by omega
  have d2 : (j : Int) < (n : Int) := by omega
  clear hI hn hx hy hb'
  go_enter Tryz.func117, Tryz.ntmps117
  go_wp2_with fail
  go_quiet (fail)
  go_wp2_with fail
  go_ret
  exact ⟨rfl, (Turn.refl [] _).drewN _⟩
/-- Two numbers change places. -/
def swL (h : List Int) (i j : Nat) : List Int := (h.set i (h[j]?.getD 0)).set j (h[i]?.getD 0)
theorem swL_len (h : List Int) (i j : Nat) : (swL h i j).length = h.length := by simp [swL]
set_option maxHeartbeats 3200000 in
theorem swap_any (g n c : Nat) (h : List Int) (i j r : Nat) (x y : Int) (w : World) (hO : OwnI w r (.slice (some ⟨g, 0, none⟩) n c) h) (hn : n = h.length) (hx : h[i]? = some x) (hy : h[j]? = some y) :
    Calls Tryz.prog 121 #[.slice (some ⟨g, 0, none⟩) n c, .int .i64 (i : Int), .int .i64 (j : Int)] w fun e w' => e = .returned (.tuple #[]) ∧ OwnI w' r (.slice (some ⟨g, 0, none⟩) n c) (swL h i j) ∧ Turn [g] w w' := by
  obtain ⟨g', c', e, hc', hg', _, hcell, hfr⟩ := hO.slot (by have := (List.getElem?_eq_some_iff.1 hx).1; omega)
  injection e with e _ e2
  injection e with e
  injection e with e1 _
  subst e1 e2
  have hil : i < n := by rw [hn]; exact (List.getElem?_eq_some_iff.1 hx).1
  have hjl : j < n := by rw [hn]; exact (List.getElem?_eq_some_iff.1 hy).1
  have d1 : (i : Int) < (n : Int) := by omega
  have d2 : (j : Int) < (n : Int) := by omega
  have c1 := hcell i x hx
  have c2 := hcell j y hy
  have f1 := hfr i
  have f2 := hfr j
  have HO := Lib.hid hO
  have HN := Lib.hid hn
  have HX := Lib.hid (And.intro hx hy)
  clear hO hn hx hy hcell hfr
  have n1 : (0 : Int) ≤ (i : Int) := by omega
  have n2 : (0 : Int) ≤ (j : Int) := by omega
  have hend : ∀ W, W = ((w.setCell ⟨g, i, none⟩ (.int .i64 y)).setCell ⟨g, j, none⟩ (.int .i64 x)).drew → OwnI W r (.slice (some ⟨g, 0, none⟩) n c) (swL h i j) ∧ Turn [g] w W := fun W e => by
    subst e
    have h1 := OwnI.putAt (j := i) (y := y) HO.out HN.out
    have h2 := OwnI.putAt (j := j) (y := x) h1 (by rw [HN.out]; simp)
    unfold swL
    rw [HX.out.1, HX.out.2]
    exact ⟨h2.turn' (Turn.refl [] _).drew, (((Turn.refl [g] w).setCell (.inl (by simp)) _).setCell (.inl (by simp)) _).drew⟩
  have HE := Lib.hid hend
  clear hend
  by_cases hij : i = j
  · subst hij
    obtain rfl : x = y := by have := HX.out; rw [this.1] at this; exact Option.some.inj this.2
    go_enter Tryz.func121, Tryz.ntmps121
    go_wp2_with fail
    go_region
    go_wp2_with fail
    go_end0
    exact ⟨rfl, HE.out _ rfl⟩
  · go_enter Tryz.func121, Tryz.ntmps121
    go_wp2_with fail
    go_region
    go_wp2_with fail
    go_end0
    exact ⟨rfl, HE.out _ rfl⟩

theorem isAgg_islice (w : World) : (isAgg 96).run Tryz.prog w = .ok false w := by kernel_rfl
theorem load_islice {w : World} {rb : Nat} {V : Value} (h : w.cell? ⟨rb, 0, none⟩ = some V) : (loadVar 96 ⟨rb, 0, none⟩).run Tryz.prog w = .ok V w := by
  simp [loadVar, isAgg_islice, Result.andThen, h]
theorem inv_at {w : World} {rb : Nat} {V : Value} (h : w.cell? ⟨rb, 0, none⟩ = some V) (k : FuncId) : Sem.run Tryz.prog (loadVar 96 ⟨rb, 0, none⟩ >>= fun v => pure (k, v)) w = .ok (k, V) w := by
  rw [Sem.run_bind, load_islice h]
  rfl
theorem inv_len {w : World} {rb : Nat} {V : Value} (h : w.cell? ⟨rb, 0, none⟩ = some V) :
    (method 271 95 (.pointer (some ⟨rb, 0, none⟩)) "Len").run Tryz.prog w = .ok (52, V) w := by
  have e : (method 271 95 (.pointer (some ⟨rb, 0, none⟩)) "Len").run Tryz.prog w = Sem.run Tryz.prog (loadVar 96 ⟨rb, 0, none⟩ >>= fun v => pure (52, v)) w := by kernel_rfl
  rw [e, inv_at h]
theorem inv_less {w : World} {rb : Nat} {V : Value} (h : w.cell? ⟨rb, 0, none⟩ = some V) :
    (method 271 95 (.pointer (some ⟨rb, 0, none⟩)) "Less").run Tryz.prog w = .ok (117, V) w := by
  have e : (method 271 95 (.pointer (some ⟨rb, 0, none⟩)) "Less").run Tryz.prog w = Sem.run Tryz.prog (loadVar 96 ⟨rb, 0, none⟩ >>= fun v => pure (117, v)) w := by kernel_rfl
  rw [e, inv_at h]
theorem inv_swap {w : World} {rb : Nat} {V : Value} (h : w.cell? ⟨rb, 0, none⟩ = some V) :
    (method 271 95 (.pointer (some ⟨rb, 0, none⟩)) "Swap").run Tryz.prog w = .ok (121, V) w := by
  have e : (method 271 95 (.pointer (some ⟨rb, 0, none⟩)) "Swap").run Tryz.prog w = Sem.run Tryz.prog (loadVar 96 ⟨rb, 0, none⟩ >>= fun v => pure (121, v)) w := by kernel_rfl
  rw [e, inv_at h]
theorem inv_push (w : World) (rb : Nat) : (method 271 95 (.pointer (some ⟨rb, 0, none⟩)) "Push").run Tryz.prog w = .ok (119, .pointer (some ⟨rb, 0, none⟩)) w := by kernel_rfl
theorem inv_pop (w : World) (rb : Nat) : (method 271 95 (.pointer (some ⟨rb, 0, none⟩)) "Pop").run Tryz.prog w = .ok (118, .pointer (some ⟨rb, 0, none⟩)) w := by kernel_rfl

/-- append of one int onto an IntSlice, inside a region that draws its order. -/
theorem rws_one {w : World} {b : Nat} {T : TypeId} {y : Int} (h : w.heap[b]? = some (.cells #[.int .i64 y] T (0, 0))) : Rws w 1 (some ⟨b, 0, Option.none⟩) 1 [.int .i64 y] :=
  ⟨by simp, .inr ⟨b, 0, rfl, (Array.getElem?_eq_some_iff.1 h).1, fun j u hj => by
    rw [Nat.zero_add, cell_of_row _ b _ _ _ _ h]
    simpa using hj⟩⟩
theorem ta_int (x : Int) (w : World) : (Instr.typeAssert (.iface 3 (.int .i64 x)) 20 3 false).run Tryz.prog w = .ok (.int .i64 x) w := by kernel_rfl
set_option maxHeartbeats 3200000 in
theorem push_any {rb : Nat} {V : Value} {h : List Int} {w : World} (k : Hp w rb V h) (x : Int) (hl : h.length ≤ 1000000) :
    Calls Tryz.prog 119 #[.pointer (some ⟨rb, 0, none⟩), .iface 3 (.int .i64 x)] w fun e w' => e = .returned (.tuple #[]) ∧ ∃ V', HpO w w' rb V V' (h ++ [x]) := by
  obtain ⟨A, c, rfl, hc⟩ := k.form
  have c0 : w.cell? ⟨rb, 0, none⟩ = some (.slice A h.length c) := cell_of_row w rb 0 _ _ _ k.blk
  have f0 : w.frozen? ⟨rb, 0, none⟩ = false := frozen_of_row w rb 0 _ _ k.blk
  have hne := World.new_ne w ⟨rb, 0, none⟩ c0
  have hrb : rb < w.heap.size := cell_lt c0
  have K := Lib.hid k
  have hta := fun W => ta_int x W
  clear k
  go_enter Tryz.func119, Tryz.ntmps119
  go_wp2_with fail
  go_region_law (refine step_appR rfl (.tmp 8) (.tmp 11) 96 rfl _ 3 (.int .i64 0) 1 8 Tryz.underlying96 int_info rfl (by omega) (.slice A h.length c) h.length (h.map (Value.int .i64)) (by simp [Act.eval, Act.put]) (K.out.own.turn' (((Turn.refl [] w).alloc _).drew)) (some ⟨w.heap.size, 0, none⟩) 1 1 [.int .i64 x] (by simp [Act.eval, Act.put]) (rws_one (heap_alloc_new w _)) (by simp [Value.oneCell']) (by simp only [maxLen]; omega) (by omega) ?_
                 intro v5 w5 ho5 ht5 hm5
                 obtain ⟨A5, c5, hv5, _, _⟩ := owns_form ho5
                 subst hv5
                 have hb5 := ht5.heap ((((Turn.refl [] w).alloc _).drew).heap K.out.blk (by simp)) (fun hg => by have := K.out.ap _ (by simpa using hg); omega)
                 have n1 : w5.cell? ⟨rb, 0, none⟩ = some (.slice A h.length c) := cell_of_row w5 rb 0 _ _ _ hb5
                 have n1f : w5.frozen? ⟨rb, 0, none⟩ = false := frozen_of_row w5 rb 0 _ _ hb5
                 have HO5 := Lib.hid ho5
                 have HT5 := Lib.hid ht5
                 have HM5 := Lib.hid hm5
                 have HB5 := Lib.hid hb5
                 clear ho5 ht5 hm5 hb5)
  all_goals
    go_wp2_with fail
    go_end0
    refine ⟨rfl, .slice A5 (h.length + 1) c5, ?_⟩
    have ho5 := HO5.out
    have ht5 := HT5.out
    have tA : Turn (Value.slice A h.length c).ownBlock.toList w w5 := (((Turn.refl [] w).alloc _).drew.more (G := (Value.slice A h.length c).ownBlock.toList) (by simp)).trans ht5 (fun g hg => .inl hg)
    have tB : Turn [rb] w5 (w5.setCell ⟨rb, 0, none⟩ (.slice A5 (h.length + 1) c5)) := (Turn.refl [rb] w5).setCell (.inl (by simp)) _
    have hm : ∀ g, (Value.slice A5 (h.length + 1) c5).ownBlock = some g → rb < g := fun g hg => by
      rcases HM5.out with m | m
      · rw [m] at hg; exact K.out.ap g hg
      · rw [m] at hg; injection hg with hg; simp at hg; omega
    refine ⟨⟨rset HB5.out rfl, ?_, hm⟩, ?_, ?_⟩
    · have : OwnI w5 0 (.slice A5 (h.length + 1) c5) (h ++ [x]) := by
        unfold OwnI
        rw [List.length_append, List.map_append]
        exact ho5
      exact this.turn tB (fun g hg hh => by have := hm g hg; simp at hh; omega)
    · exact (tA.more (G := rb :: (Value.slice A h.length c).ownBlock.toList) (fun g hg => .inl (by simp [hg]))).trans tB (fun g hg => .inl (by simp at hg; simp [hg]))
    · rcases HM5.out with m | m
      · exact .inl m
      · exact .inr ⟨_, m, by simp⟩
end Go.Proofs.YtbocejiclellfaaGreatDoor

/- The reference's Right. -/
set_option linter.unusedSimpArgs false
set_option linter.unusedVariables false
set_option maxRecDepth 100000
namespace Go.Proofs.YtbocejiclellfaaGreatDoor
open Go.RowKit

theorem own_raise {w : World} {B B' e sz n : Nat} {v : Value} {xs : List Value} (h : w.ownsRow B e sz v n xs) (hb : ∀ g, v.ownBlock = some g → B' ≤ g) : w.ownsRow B' e sz v n xs := by
  refine ⟨h.1, ?_⟩
  rcases h.2 with hn | ⟨g, cap, cur, rfl, _, rest⟩
  · exact .inl hn
  · exact .inr ⟨g, cap, cur, rfl, hb g rfl, rest⟩
/-- What Right answers. -/
def rtI (l : List K8) (x : K8) : List Int := (if x.sup = ⟨#[]⟩ then [] else [fndI l x.sup]) ++ x.fcs.map (fndI l)
set_option maxHeartbeats 12800000 in
theorem rright_any (A : Option Addr) (c B : Nat) (l : List K8) (m0 m1 m2 m3 m4 m5 m6 m7 m8 : Value) (i : Nat) (x : K8) (w : World) (hr : RdKs B w A l) (hl : l.length ≤ 1000) (hx : l[i]? = some x) (hfl : x.fcs.length ≤ 999) :
    Calls Tryz.prog 43 #[.agg #[.slice A l.length c, m0, m1, m2, m3, m4, m5, m6, m7, m8], .int .i64 (i : Int)] w fun e w' => ∃ U, e = .returned U ∧ OwnI w' w.heap.size U (rtI l x) ∧ Turn [] w w' := by
  obtain ⟨n, hn⟩ : ∃ n, l.length = n := ⟨_, rfl⟩
  obtain ⟨r, hrr⟩ : ∃ r, w.heap.size = r := ⟨_, rfl⟩
  obtain ⟨W0, hW0⟩ : ∃ W, w.alloc (.cells #[.slice A n c, m0, m1, m2, m3, m4, m5, m6, m7, m8] 30) = W := ⟨_, rfl⟩
  have t0 : Turn [] w W0 := by rw [← hW0]; exact (Turn.refl [] w).alloc _
  have s0 : W0.heap.size = r + 1 := by rw [← hW0, ← hrr]; simp
  have b0 : W0.heap[r]? = some (.cells #[.slice A n c, m0, m1, m2, m3, m4, m5, m6, m7, m8] 30 (0, 0)) := by rw [← hW0, ← hrr]; exact heap_alloc_new w _
  have HFd : Hid (∀ W s, Turn [] W0 W → Calls Tryz.prog 9 #[.agg #[.slice A n c, m0, m1, m2, m3, m4, m5, m6, m7, m8], .string s] W fun e w' => e = .returned (.int .i64 (fndI l s)) ∧ Turn [] W w') := Lib.hid fun W s t => by
    rw [← hn]
    exact rfind_any A c B l m0 m1 m2 m3 m4 m5 m6 m7 m8 s W ((hr.turn t0 (by simp)).turn t (by simp)) hl
  have hin : i < n := by rw [← hn]; exact (List.getElem?_eq_some_iff.1 hx).1
  obtain ⟨b, off, cs, rfl, hb, hbl, hcell, A3, c3, A4, n4, c4, A5, n5, c5, A6, n6, c6, I, rfl, hst⟩ := (hr.turn t0 (by simp)) i x hx
  obtain ⟨W1, hW1⟩ : ∃ W, W0.alloc (.cells #[.string x.nm, .string x.sup, .bool x.face, .slice A3 x.fcs.length c3, .slice A4 n4 c4, .slice A5 n5 c5, .slice A6 n6 c6, .pointer I, .int .i64 x.p, .int .i64 x.q] 53) = W := ⟨_, rfl⟩
  have t1 : Turn [] W0 W1 := by rw [← hW1]; exact (Turn.refl [] W0).alloc _
  have b1 : W1.heap[r + 1]? = some (.cells #[.string x.nm, .string x.sup, .bool x.face, .slice A3 x.fcs.length c3, .slice A4 n4 c4, .slice A5 n5 c5, .slice A6 n6 c6, .pointer I, .int .i64 x.p, .int .i64 x.q] 53 (0, 0)) := by rw [← hW1, ← s0]; exact heap_alloc_new W0 _
  have p0 : W0.cell? ⟨r, 0, none⟩ = some (.slice (some ⟨b, off, none⟩) n c) := cell_of_row W0 r 0 _ _ _ b0
  have e0 : W0.cell? ⟨b, off + i * 10, none⟩ = some (.string x.nm) := hcell 0 _ rfl
  have e1 := hcell 1 _ rfl
  have e2 := hcell 2 _ rfl
  have e3 := hcell 3 _ rfl
  have e4 := hcell 4 _ rfl
  have e5 := hcell 5 _ rfl
  have e6 := hcell 6 _ rfl
  have e7 := hcell 7 _ rfl
  have e8 := hcell 8 _ rfl
  have e9 := hcell 9 _ rfl
  have hpc : ∀ W, Turn [] W0 W → ∀ (q : Nat) (v : Value), (#[Value.slice (some ⟨b, off, none⟩) n c, m0, m1, m2, m3, m4, m5, m6, m7, m8] : Array Value)[q]? = some v → W.cell? ⟨r, q, none⟩ = some v := fun W t q v hv => (cell_of_row W r q _ _ _ (t.heap b0 (by simp))).trans hv
  have hcc : ∀ W, Turn [] W1 W → W.cell? ⟨r + 1, 1, none⟩ = some (.string x.sup) ∧ W.cell? ⟨r + 1, 3, none⟩ = some (.slice A3 x.fcs.length c3) := fun W t => ⟨cell_of_row W (r + 1) 1 _ _ _ (t.heap b1 (by simp)), cell_of_row W (r + 1) 3 _ _ _ (t.heap b1 (by simp))⟩
  have hir : (i : Int) < (n : Int) := by omega
  obtain ⟨nf, hnf⟩ : ∃ nf, x.fcs.length = nf := ⟨_, rfl⟩
  rw [hnf] at hW1 hcc hfl
  have HP := Lib.hid hpc
  have HCC := Lib.hid hcc
  have HST := Lib.hid (hst.turn t1 (by simp))
  have HT0 := Lib.hid t0
  have HT1 := Lib.hid t1
  have HW0 := Lib.hid hW0
  have HW1 := Lib.hid hW1
  have HRR := Lib.hid hrr
  have HS0 := Lib.hid s0
  have HNF := Lib.hid hnf
  have z1 : ∀ W, Turn [] W0 W → True := fun _ _ => trivial
  rw [hnf] at e3
  rw [hn]
  clear hr hn hrr hW0 t0 s0 b0 hx hcell hst hW1 t1 b1 hpc hcc hnf z1 hl hb hbl
  go_enter Tryz.func43, Tryz.ntmps43
  go_upto_region 2 with fail
  rw [HRR.out, HW0.out]
  go_upto_region 3 with fail
  rw [HS0.out, HW1.out]
  obtain ⟨z1, z3⟩ := HCC.out W1 (Turn.refl _ _)
  clear e0 e1 e2 e3 e4 e5 e6 e7 e8 e9 p0
  obtain ⟨em, hem⟩ : ∃ em, x.sup.toList.isEmpty = em := ⟨_, rfl⟩
  have HEM : Hid ((x.sup = ⟨#[]⟩) = (em = true)) := Lib.hid (by
    rw [← hem, ByteArray.toList_eq]
    apply propext
    constructor
    · intro h; rw [h]; rfl
    · intro h
      apply ByteArray.ext
      simpa using h)
  go_upto_if 15 with fail
  clear hem
  go_cut [5] (fun v5 w' => Hid (OwnI w' (r + 2) v5 (if x.sup = ⟨#[]⟩ then [] else [fndI l x.sup]) ∧ Turn [] W1 w'))
  case first =>
    have q0 : W1.cell? ⟨r, 0, none⟩ = some (.slice (some ⟨b, off, none⟩) n c) := HP.out W1 HT1.out 0 _ rfl
    have q1 : W1.cell? ⟨r, 1, none⟩ = some m0 := HP.out W1 HT1.out 1 _ rfl
    have q2 : W1.cell? ⟨r, 2, none⟩ = some m1 := HP.out W1 HT1.out 2 _ rfl
    have q3 : W1.cell? ⟨r, 3, none⟩ = some m2 := HP.out W1 HT1.out 3 _ rfl
    have q4 : W1.cell? ⟨r, 4, none⟩ = some m3 := HP.out W1 HT1.out 4 _ rfl
    have q5 : W1.cell? ⟨r, 5, none⟩ = some m4 := HP.out W1 HT1.out 5 _ rfl
    have q6 : W1.cell? ⟨r, 6, none⟩ = some m5 := HP.out W1 HT1.out 6 _ rfl
    have q7 : W1.cell? ⟨r, 7, none⟩ = some m6 := HP.out W1 HT1.out 7 _ rfl
    have q8 : W1.cell? ⟨r, 8, none⟩ = some m7 := HP.out W1 HT1.out 8 _ rfl
    have q9 : W1.cell? ⟨r, 9, none⟩ = some m8 := HP.out W1 HT1.out 9 _ rfl
    have HFx := Lib.hid (HFd.out W1 x.sup HT1.out)
    have s1 : r + 2 ≤ W1.heap.size := by
      rw [← HW1.out]
      have := HS0.out
      simp
      omega
    obtain ⟨z, hz⟩ : ∃ z, fndI l x.sup = z := ⟨_, rfl⟩
    rw [hz] at HFx
    have HZ := Lib.hid hz
    clear hz
    cases em with
    | true =>
      go_wp2_with fail
      go_meet
      rw [if_pos (by rw [HEM.out]; trivial)]
      exact Lib.hid ⟨OwnI.nil _ _, Turn.refl _ _⟩
    | false =>
      go_wp2_with fail
      refine HFx.out.mono ?_
      rintro e w3 ⟨rfl, t3⟩
      have HT3 := Lib.hid t3
      have s3 : r + 2 ≤ w3.heap.size := by have := t3.size; omega
      clear t3
      go_wp2_with (at_builtin
                   refine wpList_app1' rfl (.tmp 16) (.tmp 21) rfl w3 (r + 2) (.slice none 0 0) [] z 1 rfl (OwnI.nil _ _) rfl (by simp) s3 ?_
                   intro v6 w6 ho6 ht6 hm6
                   have HO6 := Lib.hid (And.intro ho6 (And.intro ht6 hm6))
                   clear ho6 ht6 hm6)
      go_meet
      rw [if_neg (by rw [HEM.out]; simp), HZ.out]
      exact Lib.hid ⟨HO6.out.1, HT3.out.trans' HO6.out.2.1⟩
  case rest =>
    obtain ⟨pre, hpre⟩ : ∃ pre, (if x.sup = ⟨#[]⟩ then [] else [fndI l x.sup]) = pre := ⟨_, rfl⟩
    have HPRE := Lib.hid hpre
    have hpl : pre.length ≤ 1 := by rw [← hpre]; split <;> simp
    rw [hpre] at hcut
    clear hpre z1 z3 HEM em
    go_upto_region 5 with fail
    go_wp2_with fail
    go_loopw [5, 7] (fun v5 v7 wr => ∃ k : Nat, k ≤ nf ∧ v7 = .int .i64 (k : Int) ∧ Hid (OwnI wr (r + 2) v5 (pre ++ (x.fcs.take k).map (fndI l)) ∧ Turn [] W1 wr)) (fun _ v7 _ => nf - (intOf v7).toNat)
    case atStart => exact ⟨0, Nat.zero_le _, rfl, by simpa using hcut⟩
    case round =>
      obtain ⟨k, hk, rfl, HO⟩ := hrel
      have z3 : wr.cell? ⟨r + 1, 3, none⟩ = some (.slice A3 nf c3) := (HCC.out wr HO.out.2).2
      by_cases hkn : k < nf
      · have d1 : decide ((k : Int) < (nf : Int)) = true := by simp; omega
        have d2 : (k : Int) < (nf : Int) := by omega
        obtain ⟨f, hf⟩ := at_lt (show k < x.fcs.length by have := HNF.out; omega)
        have tt := HT1.out.trans' HO.out.2
        obtain ⟨fb, foff, rfl, hfb, hfl', hfc⟩ := HST.out k f hf
        have HSS : Hid (∀ w', Turn [] W1 w' → (w'.cell? ⟨r, 0, none⟩ = some (.slice (some ⟨b, off, none⟩) n c) ∧ w'.cell? ⟨r, 1, none⟩ = some m0 ∧ w'.cell? ⟨r, 2, none⟩ = some m1 ∧ w'.cell? ⟨r, 3, none⟩ = some m2 ∧ w'.cell? ⟨r, 4, none⟩ = some m3 ∧ w'.cell? ⟨r, 5, none⟩ = some m4 ∧ w'.cell? ⟨r, 6, none⟩ = some m5 ∧ w'.cell? ⟨r, 7, none⟩ = some m6 ∧ w'.cell? ⟨r, 8, none⟩ = some m7 ∧ w'.cell? ⟨r, 9, none⟩ = some m8 ∧ w'.cell? ⟨r + 1, 3, none⟩ = some (.slice (some ⟨fb, foff, none⟩) nf c3) ∧ w'.cell? ⟨fb, foff + k, none⟩ = some (.string f))) := Lib.hid (fun W t => ⟨HP.out W (HT1.out.trans' t) 0 _ rfl, HP.out W (HT1.out.trans' t) 1 _ rfl, HP.out W (HT1.out.trans' t) 2 _ rfl, HP.out W (HT1.out.trans' t) 3 _ rfl, HP.out W (HT1.out.trans' t) 4 _ rfl, HP.out W (HT1.out.trans' t) 5 _ rfl, HP.out W (HT1.out.trans' t) 6 _ rfl, HP.out W (HT1.out.trans' t) 7 _ rfl, HP.out W (HT1.out.trans' t) 8 _ rfl, HP.out W (HT1.out.trans' t) 9 _ rfl, (HCC.out W t).2, (t.cell (p := ⟨fb, foff + k, none⟩) hfl' (by simp)).trans hfc⟩)
        have hS0 := HSS.out wr HO.out.2
        have hS0' := HSS.out wr.drew HO.out.2.drew
        have HFx := Lib.hid (HFd.out wr.drew f tt.drew)
        obtain ⟨z, hz⟩ : ∃ z, fndI l f = z := ⟨_, rfl⟩
        rw [hz] at HFx
        have HZ := Lib.hid (And.intro hz hf)
        have hsr : r + 2 ≤ wr.heap.size := by
          have := HO.out.2.size
          rw [← HW1.out] at this
          have := HS0.out
          simp at *
          omega
        have HSR := Lib.hid hsr
        obtain ⟨A5v, c5v, hv5, _, _⟩ := HO.out.1.form
        obtain ⟨L5, hL5⟩ : ∃ L5, (pre ++ (x.fcs.take k).map (fndI l)).length = L5 := ⟨_, rfl⟩
        have hL5' : L5 ≤ 1001 := by rw [← hL5]; simp; omega
        rw [hL5] at hv5
        have HL5 := Lib.hid hL5
        have HV5 := Lib.hid hv5
        subst hv5
        clear hfb hfl' hfc hz hsr hL5 hf
        go_upto_region 8 with fail
        go_region_held3 (fun w' => w'.cell? ⟨r, 0, none⟩ = some (.slice (some ⟨b, off, none⟩) n c) ∧ w'.cell? ⟨r, 1, none⟩ = some m0 ∧ w'.cell? ⟨r, 2, none⟩ = some m1 ∧ w'.cell? ⟨r, 3, none⟩ = some m2 ∧ w'.cell? ⟨r, 4, none⟩ = some m3 ∧ w'.cell? ⟨r, 5, none⟩ = some m4 ∧ w'.cell? ⟨r, 6, none⟩ = some m5 ∧ w'.cell? ⟨r, 7, none⟩ = some m6 ∧ w'.cell? ⟨r, 8, none⟩ = some m7 ∧ w'.cell? ⟨r, 9, none⟩ = some m8 ∧ w'.cell? ⟨r + 1, 3, none⟩ = some (.slice (some ⟨fb, foff, none⟩) nf c3) ∧ w'.cell? ⟨fb, foff + k, none⟩ = some (.string f))
          (first | exact hS0 | exact hS0' | exact hS1 | exact hS2 | exact hS6 | go_keep)
          (first
            | (go_at_call 9; (with_reducible refine HFx.out.mono ?_); rintro e w1 ⟨rfl, t1⟩
               have tt1 : Turn [] wr w1 := (Turn.refl [] wr).drew.trans' t1
               have hS1 := HSS.out w1 (HO.out.2.trans' tt1)
               have hS2 := HSS.out (w1.alloc (.cells #[.int .i64 z] 3)) ((HO.out.2.trans' tt1).alloc _)
               have HT1' := Lib.hid tt1
               clear t1 tt1)
            | (refine step_appR rfl (.tmp 30) (.tmp 38) 63 rfl _ 3 (.int .i64 0) 1 8 Tryz.underlying63 int_info rfl (by omega) (.slice A5v L5 c5v) L5 ((pre ++ (x.fcs.take k).map (fndI l)).map (Value.int .i64)) (by simp [Act.eval, Act.put]) (by
                 have h := ownsRow_mono (HO.out.1.turn' (HT1'.out.alloc (.cells #[.int .i64 z] 3))) (Nat.zero_le _)
                 rw [HL5.out] at h
                 exact h) (some ⟨w1.heap.size, 0, none⟩) 1 1 [.int .i64 z] (by simp [Act.eval, Act.put]) (rws_one (heap_alloc_new w1 _)) (by simp [Value.oneCell']) (by simp only [maxLen]; omega) (by omega) ?_
               intro v6 w6 ho6 ht6 hm6
               have tw6 : Turn [] W1 w6 := (HO.out.2.trans' (HT1'.out.alloc _)).trans ht6 (fun g hg => .inr (by have h1 := (HO.out.1.lt g (by simpa using hg)).1; have h2 := HW1.out; subst h2; have := HS0.out; simp; omega))
               have hS6 := HSS.out w6 tw6
               have HO6 := Lib.hid (And.intro ho6 (And.intro ht6 (And.intro hm6 tw6)))
               clear ho6 ht6 hm6 tw6))
        go_wp2_with fail
        go_roundw
        case rel =>
          refine ⟨k + 1, by omega, by go_num, Lib.hid ⟨?_, HO6.out.2.2.2⟩⟩
          rw [take_snoc HZ.out.2, List.map_append, ← List.append_assoc, List.map_cons, List.map_nil, HZ.out.1]
          unfold OwnI
          rw [List.length_append, List.map_append, HL5.out]
          refine own_raise HO6.out.1 (fun g hg => ?_)
          rcases HO6.out.2.2.1 with m | m
          · rw [m] at hg; exact (HO.out.1.lt g hg).1
          · rw [m] at hg; injection hg with hg; have := HSR.out; have := HT1'.out.size; simp at hg; omega
        case measure => simp [intOf]; omega
      · obtain rfl : k = nf := by omega
        have d1 : decide ((k : Int) < (k : Int)) = false := by simp
        have HOE := HO.out
        rw [List.take_of_length_le (by rw [HNF.out]; exact Nat.le_refl _)] at HOE
        obtain ⟨A9, c9, hv9, _, _⟩ := HOE.1.form
        have HOE2 := Lib.hid HOE
        subst hv9
        clear HOE HO
        go_wp2_with fail
        go_ret
        refine ⟨_, rfl, ?_, ?_⟩
        · unfold rtI
          rw [HPRE.out, HRR.out]
          exact HOE2.out.1.mono (by omega)
        · exact (HT0.out.trans' HT1.out).trans' HOE2.out.2
end Go.Proofs.YtbocejiclellfaaGreatDoor

/- The reference's sound. -/
set_option linter.unusedSimpArgs false
set_option linter.unusedVariables false
set_option maxRecDepth 100000
namespace Go.Proofs.YtbocejiclellfaaGreatDoor
open Go.RowKit

def faceAt (l : List K8) (z : Int) : Bool := match l[z.toNat]? with
  | some c => c.face
  | none => false
def fcB (l : List K8) (x : K8) (a : Nat) : Bool := match x.fcs[a]? with
  | some f => decide (0 ≤ fndI l f) && faceAt l (fndI l f) && !((x.fcs.take a).any fun g => decide (g = f))
  | none => false
def supOk (l : List K8) (x : K8) : Bool := decide (x.sup = ⟨#[]⟩) || (decide (0 ≤ fndI l x.sup) && !faceAt l (fndI l x.sup))
/-- What sound answers. -/
def sndB (l : List K8) (i : Nat) (x : K8) : Bool := decide (fndI l x.nm = (i : Int)) && supOk l x && (List.range x.fcs.length).all (fcB l x)
theorem fndI_cases (l : List K8) (s : ByteArray) : fndI l s = -1 ∨ ∃ (j : Nat) (y : K8), fndI l s = (j : Int) ∧ l[j]? = some y ∧ y.nm = s := by
  unfold fndI
  cases h : fstF l l.length s with
  | none => exact .inl rfl
  | some j =>
    obtain ⟨_, y, h1, h2⟩ := fstF_lt h
    exact .inr ⟨j, y, rfl, h1, h2⟩
theorem faceAt_at {l : List K8} {j : Nat} {y : K8} (h : l[j]? = some y) : faceAt l (j : Int) = y.face := by
  unfold faceAt
  simp [h]
theorem sndB_nm {l : List K8} {i : Nat} {x : K8} (h : fndI l x.nm ≠ (i : Int)) : sndB l i x = false := by
  unfold sndB
  simp [h]
theorem sndB_sup {l : List K8} {i : Nat} {x : K8} (h : supOk l x = false) : sndB l i x = false := by
  unfold sndB
  simp [h]
theorem sndB_fc {l : List K8} {i a : Nat} {x : K8} (ha : a < x.fcs.length) (h : fcB l x a = false) : sndB l i x = false := by
  unfold sndB
  rw [Bool.and_eq_false_iff]
  right
  rw [List.all_eq_false]
  exact ⟨a, List.mem_range.2 ha, by simp [h]⟩
theorem sndB_true {l : List K8} {i : Nat} {x : K8} (h0 : fndI l x.nm = (i : Int)) (h1 : supOk l x = true) (h2 : ∀ a, a < x.fcs.length → fcB l x a = true) : sndB l i x = true := by
  unfold sndB
  rw [Bool.and_eq_true, Bool.and_eq_true]
  exact ⟨⟨by simpa using h0, h1⟩, List.all_eq_true.2 fun a ha => h2 a (List.mem_range.1 ha)⟩
theorem any_has {l : List ByteArray} {a k : Nat} {f : ByteArray} (h : l[a]? = some f) (hk : a < k) : ((l.take k).any fun g => decide (g = f)) = true := by
  rw [List.any_eq_true]
  exact ⟨f, List.mem_of_getElem? (i := a) (by rw [List.getElem?_take_of_lt hk]; exact h), by simp⟩
theorem any_hasnt {l : List ByteArray} {k : Nat} {f : ByteArray} (h : ∀ q, q < k → l[q]? ≠ some f) : ((l.take k).any fun g => decide (g = f)) = false := by
  rw [List.any_eq_false]
  intro g hg
  obtain ⟨q, hq⟩ := List.mem_iff_getElem?.1 hg
  rw [List.getElem?_take] at hq
  by_cases hqk : q < k
  · rw [if_pos hqk] at hq
    intro e
    have e : g = f := by simpa using e
    exact h q hqk (by rw [hq, e])
  · rw [if_neg hqk] at hq
    cases hq
set_option maxHeartbeats 12800000 in
theorem rsound_any (A : Option Addr) (c B : Nat) (l : List K8) (m0 m1 m2 m3 m4 m5 m6 m7 m8 : Value) (i : Nat) (x : K8) (w : World) (hr : RdKs B w A l) (hl : l.length ≤ 1000) (hx : l[i]? = some x) (hfl : x.fcs.length ≤ 999) :
    Calls Tryz.prog 33 #[.agg #[.slice A l.length c, m0, m1, m2, m3, m4, m5, m6, m7, m8], .int .i64 (i : Int)] w fun e w' => e = .returned (.bool (sndB l i x)) ∧ Turn [] w w' := by
  obtain ⟨n, hn⟩ : ∃ n, l.length = n := ⟨_, rfl⟩
  obtain ⟨r, hrr⟩ : ∃ r, w.heap.size = r := ⟨_, rfl⟩
  obtain ⟨W0, hW0⟩ : ∃ W, w.alloc (.cells #[.slice A n c, m0, m1, m2, m3, m4, m5, m6, m7, m8] 30) = W := ⟨_, rfl⟩
  have t0 : Turn [] w W0 := by rw [← hW0]; exact (Turn.refl [] w).alloc _
  have s0 : W0.heap.size = r + 1 := by rw [← hW0, ← hrr]; simp
  have b0 : W0.heap[r]? = some (.cells #[.slice A n c, m0, m1, m2, m3, m4, m5, m6, m7, m8] 30 (0, 0)) := by rw [← hW0, ← hrr]; exact heap_alloc_new w _
  have HFd : Hid (∀ W s, Turn [] W0 W → Calls Tryz.prog 9 #[.agg #[.slice A n c, m0, m1, m2, m3, m4, m5, m6, m7, m8], .string s] W fun e w' => e = .returned (.int .i64 (fndI l s)) ∧ Turn [] W w') := Lib.hid fun W s t => by
    rw [← hn]
    exact rfind_any A c B l m0 m1 m2 m3 m4 m5 m6 m7 m8 s W ((hr.turn t0 (by simp)).turn t (by simp)) hl
  have hin : i < n := by rw [← hn]; exact (List.getElem?_eq_some_iff.1 hx).1
  have hr0 := hr.turn t0 (by simp)
  obtain ⟨b, off, cs, rfl, hb, hbl, hcell, A3, c3, A4, n4, c4, A5, n5, c5, A6, n6, c6, I, rfl, hst⟩ := hr0 i x hx
  have HFC : Hid (∀ W, Turn [] W0 W → ∀ (j : Nat) (y : K8), l[j]? = some y → W.cell? ⟨b, off + j * 10 + 2, none⟩ = some (.bool y.face) ∧ j < n) := Lib.hid fun W t j y hy => by
    obtain ⟨b', off', cs', e, hb', hbl', hcell', A3', c3', A4', n4', c4', A5', n5', c5', A6', n6', c6', I', rfl, _⟩ := hr0 j y hy
    injection e with e
    injection e with e1 e2
    subst e1 e2
    exact ⟨(t.cell (p := ⟨b, off + j * 10 + 2, none⟩) hbl' (by simp)).trans (hcell' 2 _ rfl), by rw [← hn]; exact (List.getElem?_eq_some_iff.1 hy).1⟩
  obtain ⟨W1, hW1⟩ : ∃ W, W0.alloc (.cells #[.string x.nm, .string x.sup, .bool x.face, .slice A3 x.fcs.length c3, .slice A4 n4 c4, .slice A5 n5 c5, .slice A6 n6 c6, .pointer I, .int .i64 x.p, .int .i64 x.q] 53) = W := ⟨_, rfl⟩
  have t1 : Turn [] W0 W1 := by rw [← hW1]; exact (Turn.refl [] W0).alloc _
  have b1 : W1.heap[r + 1]? = some (.cells #[.string x.nm, .string x.sup, .bool x.face, .slice A3 x.fcs.length c3, .slice A4 n4 c4, .slice A5 n5 c5, .slice A6 n6 c6, .pointer I, .int .i64 x.p, .int .i64 x.q] 53 (0, 0)) := by rw [← hW1, ← s0]; exact heap_alloc_new W0 _
  have p0 : W0.cell? ⟨r, 0, none⟩ = some (.slice (some ⟨b, off, none⟩) n c) := cell_of_row W0 r 0 _ _ _ b0
  have e0 : W0.cell? ⟨b, off + i * 10, none⟩ = some (.string x.nm) := hcell 0 _ rfl
  have e1 := hcell 1 _ rfl
  have e2 := hcell 2 _ rfl
  have e3 := hcell 3 _ rfl
  have e4 := hcell 4 _ rfl
  have e5 := hcell 5 _ rfl
  have e6 := hcell 6 _ rfl
  have e7 := hcell 7 _ rfl
  have e8 := hcell 8 _ rfl
  have e9 := hcell 9 _ rfl
  have hpc : ∀ W, Turn [] W0 W → ∀ (q : Nat) (v : Value), (#[Value.slice (some ⟨b, off, none⟩) n c, m0, m1, m2, m3, m4, m5, m6, m7, m8] : Array Value)[q]? = some v → W.cell? ⟨r, q, none⟩ = some v := fun W t q v hv => (cell_of_row W r q _ _ _ (t.heap b0 (by simp))).trans hv
  have hcc : ∀ W, Turn [] W1 W → W.cell? ⟨r + 1, 0, none⟩ = some (.string x.nm) ∧ W.cell? ⟨r + 1, 1, none⟩ = some (.string x.sup) ∧ W.cell? ⟨r + 1, 3, none⟩ = some (.slice A3 x.fcs.length c3) := fun W t => ⟨cell_of_row W (r + 1) 0 _ _ _ (t.heap b1 (by simp)), cell_of_row W (r + 1) 1 _ _ _ (t.heap b1 (by simp)), cell_of_row W (r + 1) 3 _ _ _ (t.heap b1 (by simp))⟩
  have hir : (i : Int) < (n : Int) := by omega
  obtain ⟨nf, hnf⟩ : ∃ nf, x.fcs.length = nf := ⟨_, rfl⟩
  rw [hnf] at hW1 hcc hfl
  have HP := Lib.hid hpc
  have HCC := Lib.hid hcc
  have HST := Lib.hid (hst.turn t1 (by simp))
  have HT0 := Lib.hid t0
  have HT1 := Lib.hid t1
  have HW0 := Lib.hid hW0
  have HW1 := Lib.hid hW1
  have HRR := Lib.hid hrr
  have HS0 := Lib.hid s0
  have HNF := Lib.hid hnf
  have HN1 : n ≤ 1000 := by rw [← hn]; exact hl
  rw [hnf] at e3
  rw [hn]
  clear hr hr0 hn hrr hW0 t0 s0 b0 hx hcell hst hW1 t1 b1 hpc hcc hnf hl hb hbl
  go_enter Tryz.func33, Tryz.ntmps33
  go_upto_region 1 with fail
  rw [HRR.out, HW0.out]
  go_upto_region 2 with fail
  rw [HS0.out, HW1.out]
  obtain ⟨z0, z1, z3⟩ := HCC.out W1 (Turn.refl _ _)
  clear e0 e1 e2 e3 e4 e5 e6 e7 e8 e9 p0
  have q0 : W1.cell? ⟨r, 0, none⟩ = some (.slice (some ⟨b, off, none⟩) n c) := HP.out W1 HT1.out 0 _ rfl
  have q1 : W1.cell? ⟨r, 1, none⟩ = some m0 := HP.out W1 HT1.out 1 _ rfl
  have q2 : W1.cell? ⟨r, 2, none⟩ = some m1 := HP.out W1 HT1.out 2 _ rfl
  have q3 : W1.cell? ⟨r, 3, none⟩ = some m2 := HP.out W1 HT1.out 3 _ rfl
  have q4 : W1.cell? ⟨r, 4, none⟩ = some m3 := HP.out W1 HT1.out 4 _ rfl
  have q5 : W1.cell? ⟨r, 5, none⟩ = some m4 := HP.out W1 HT1.out 5 _ rfl
  have q6 : W1.cell? ⟨r, 6, none⟩ = some m5 := HP.out W1 HT1.out 6 _ rfl
  have q7 : W1.cell? ⟨r, 7, none⟩ = some m6 := HP.out W1 HT1.out 7 _ rfl
  have q8 : W1.cell? ⟨r, 8, none⟩ = some m7 := HP.out W1 HT1.out 8 _ rfl
  have q9 : W1.cell? ⟨r, 9, none⟩ = some m8 := HP.out W1 HT1.out 9 _ rfl
  have HFx := Lib.hid (HFd.out W1 x.nm HT1.out)
  obtain ⟨z, hz⟩ : ∃ z, fndI l x.nm = z := ⟨_, rfl⟩
  rw [hz] at HFx
  have HZ := Lib.hid hz
  clear hz
  go_wp2_with fail
  refine HFx.out.mono ?_
  rintro e w2 ⟨rfl, t2⟩
  have HT2 := Lib.hid t2
  obtain ⟨_, z1', z3'⟩ := HCC.out w2 t2
  clear q0 q1 q2 q3 q4 q5 q6 q7 q8 q9 z0 z1 z3 HFx t2
  by_cases h0 : z = (i : Int)
  · subst h0
    have d0 : ((i : Int) != (i : Int)) = false := by simp
    have d0' : decide ((i : Int) = (i : Int)) = true := by simp
    obtain ⟨em, hem⟩ : ∃ em, x.sup.toList.isEmpty = em := ⟨_, rfl⟩
    have HEM : Hid ((x.sup = ⟨#[]⟩) = (em = true)) := Lib.hid (by
      rw [← hem, ByteArray.toList_eq]
      apply propext
      constructor
      · intro h; rw [h]; rfl
      · intro h
        apply ByteArray.ext
        simpa using h)
    go_upto_if 23 with fail
    clear hem
    go_cut [] (fun w' => Hid (supOk l x = true ∧ Turn [] W1 w'))
    case first =>
      cases em with
      | true =>
        have hsu : supOk l x = true := by
          have h : x.sup = ⟨#[]⟩ := by rw [HEM.out]
          unfold supOk
          simp [h]
        have HSU := Lib.hid hsu
        clear hsu
        go_wp2_with fail
        go_meet
        exact Lib.hid ⟨HSU.out, HT2.out⟩
      | false =>
        have hne : ¬ x.sup = ⟨#[]⟩ := by rw [HEM.out]; simp
        have HNE := Lib.hid hne
        clear hne
        have q0 : w2.cell? ⟨r, 0, none⟩ = some (.slice (some ⟨b, off, none⟩) n c) := HP.out w2 (HT1.out.trans' HT2.out) 0 _ rfl
        have q1 : w2.cell? ⟨r, 1, none⟩ = some m0 := HP.out w2 (HT1.out.trans' HT2.out) 1 _ rfl
        have q2 : w2.cell? ⟨r, 2, none⟩ = some m1 := HP.out w2 (HT1.out.trans' HT2.out) 2 _ rfl
        have q3 : w2.cell? ⟨r, 3, none⟩ = some m2 := HP.out w2 (HT1.out.trans' HT2.out) 3 _ rfl
        have q4 : w2.cell? ⟨r, 4, none⟩ = some m3 := HP.out w2 (HT1.out.trans' HT2.out) 4 _ rfl
        have q5 : w2.cell? ⟨r, 5, none⟩ = some m4 := HP.out w2 (HT1.out.trans' HT2.out) 5 _ rfl
        have q6 : w2.cell? ⟨r, 6, none⟩ = some m5 := HP.out w2 (HT1.out.trans' HT2.out) 6 _ rfl
        have q7 : w2.cell? ⟨r, 7, none⟩ = some m6 := HP.out w2 (HT1.out.trans' HT2.out) 7 _ rfl
        have q8 : w2.cell? ⟨r, 8, none⟩ = some m7 := HP.out w2 (HT1.out.trans' HT2.out) 8 _ rfl
        have q9 : w2.cell? ⟨r, 9, none⟩ = some m8 := HP.out w2 (HT1.out.trans' HT2.out) 9 _ rfl
        have HFs := Lib.hid (HFd.out w2 x.sup (HT1.out.trans' HT2.out))
        rcases fndI_cases l x.sup with hc | ⟨j, y, hc, hy, _⟩
        · rw [hc] at HFs
          have HB : Hid (sndB l i x = false) := Lib.hid (sndB_sup (by unfold supOk; rw [hc]; simp [HNE.out]))
          clear hc
          go_wp2_with fail
          refine HFs.out.mono ?_
          rintro e w4 ⟨rfl, t4⟩
          have HT4 := Lib.hid t4
          clear t4
          go_wp2_with fail
          go_ret
          exact ⟨by rw [HB.out]; rfl, ((HT0.out.trans' HT1.out).trans' HT2.out).trans' HT4.out⟩
        · rw [hc] at HFs
          obtain ⟨fc, hfc⟩ : ∃ fc, y.face = fc := ⟨_, rfl⟩
          have hsu : supOk l x = !fc := by
            unfold supOk
            rw [hc, faceAt_at hy, hfc]
            simp [HNE.out]
          have HSU := Lib.hid hsu
          have HY := Lib.hid (And.intro hy hfc)
          clear hc hy hfc hsu
          go_wp2_with fail
          refine HFs.out.mono ?_
          rintro e w4 ⟨rfl, t4⟩
          obtain ⟨y2, hjn⟩ := HFC.out w4 ((HT1.out.trans' HT2.out).trans' t4) j y HY.out.1
          rw [HY.out.2] at y2
          have p0 : w4.cell? ⟨r, 0, none⟩ = some (.slice (some ⟨b, off, none⟩) n c) := HP.out w4 ((HT1.out.trans' HT2.out).trans' t4) 0 _ rfl
          have d1 : decide ((j : Int) < 0) = false := by simp
          have d2 : (j : Int) < (n : Int) := by omega
          have HT4 := Lib.hid t4
          clear t4
          cases fc with
          | true =>
            have HB : Hid (sndB l i x = false) := Lib.hid (sndB_sup HSU.out)
            go_wp2_with fail
            go_ret
            exact ⟨by rw [HB.out]; rfl, ((HT0.out.trans' HT1.out).trans' HT2.out).trans' HT4.out⟩
          | false =>
            go_wp2_with fail
            go_meet
            exact Lib.hid ⟨HSU.out, HT2.out.trans' HT4.out⟩
    case rest =>
      clear z1' z3' HEM em
      go_upto_region 8 with fail
      go_wp2_with fail
      go_loopw [7] (fun v7 wr => ∃ k : Nat, k ≤ nf ∧ v7 = .int .i64 (k : Int) ∧ Hid ((∀ a, a < k → fcB l x a = true) ∧ Turn [] W1 wr)) (fun v7 _ => nf - (intOf v7).toNat)
      case atStart => exact ⟨0, Nat.zero_le _, rfl, Lib.hid ⟨fun a ha => absurd ha (Nat.not_lt_zero a), hcut.out.2⟩⟩
      case round =>
        obtain ⟨k, hk, rfl, HO⟩ := hrel
        have z3 : wr.cell? ⟨r + 1, 3, none⟩ = some (.slice A3 nf c3) := (HCC.out wr HO.out.2).2.2
        by_cases hkn : k < nf
        · have d1 : decide ((k : Int) < (nf : Int)) = true := by simp; omega
          have d2 : (k : Int) < (nf : Int) := by omega
          obtain ⟨f, hf⟩ := at_lt (show k < x.fcs.length by have := HNF.out; omega)
          obtain ⟨fb, foff, rfl, hfb, hfl', hfc⟩ := HST.out k f hf
          have HSS : Hid (∀ w', Turn [] W1 w' → (w'.cell? ⟨r, 0, none⟩ = some (.slice (some ⟨b, off, none⟩) n c) ∧ w'.cell? ⟨r, 1, none⟩ = some m0 ∧ w'.cell? ⟨r, 2, none⟩ = some m1 ∧ w'.cell? ⟨r, 3, none⟩ = some m2 ∧ w'.cell? ⟨r, 4, none⟩ = some m3 ∧ w'.cell? ⟨r, 5, none⟩ = some m4 ∧ w'.cell? ⟨r, 6, none⟩ = some m5 ∧ w'.cell? ⟨r, 7, none⟩ = some m6 ∧ w'.cell? ⟨r, 8, none⟩ = some m7 ∧ w'.cell? ⟨r, 9, none⟩ = some m8 ∧ w'.cell? ⟨r + 1, 3, none⟩ = some (.slice (some ⟨fb, foff, none⟩) nf c3) ∧ w'.cell? ⟨fb, foff + k, none⟩ = some (.string f))) := Lib.hid (fun W t => ⟨HP.out W (HT1.out.trans' t) 0 _ rfl, HP.out W (HT1.out.trans' t) 1 _ rfl, HP.out W (HT1.out.trans' t) 2 _ rfl, HP.out W (HT1.out.trans' t) 3 _ rfl, HP.out W (HT1.out.trans' t) 4 _ rfl, HP.out W (HT1.out.trans' t) 5 _ rfl, HP.out W (HT1.out.trans' t) 6 _ rfl, HP.out W (HT1.out.trans' t) 7 _ rfl, HP.out W (HT1.out.trans' t) 8 _ rfl, HP.out W (HT1.out.trans' t) 9 _ rfl, (HCC.out W t).2.2, (t.cell (p := ⟨fb, foff + k, none⟩) hfl' (by simp)).trans hfc⟩)
          have hS0 := HSS.out wr HO.out.2
          have hS0' := HSS.out wr.drew HO.out.2.drew
          have HFx := Lib.hid (HFd.out wr.drew f (HT1.out.trans' HO.out.2.drew))
          have HKF := Lib.hid hf
          have hka : k < x.fcs.length := by have := HNF.out; omega
          have HKA := Lib.hid hka
          clear hfb hfl' hfc hf hka
          rcases fndI_cases l f with hc | ⟨j, y, hc, hy, _⟩
          · rw [hc] at HFx
            have HB : Hid (sndB l i x = false) := Lib.hid (sndB_fc HKA.out (by unfold fcB; rw [HKF.out]; simp [hc]))
            clear hc
            go_upto_region 11 with fail
            go_region_held3 (fun w' => w'.cell? ⟨r, 0, none⟩ = some (.slice (some ⟨b, off, none⟩) n c) ∧ w'.cell? ⟨r, 1, none⟩ = some m0 ∧ w'.cell? ⟨r, 2, none⟩ = some m1 ∧ w'.cell? ⟨r, 3, none⟩ = some m2 ∧ w'.cell? ⟨r, 4, none⟩ = some m3 ∧ w'.cell? ⟨r, 5, none⟩ = some m4 ∧ w'.cell? ⟨r, 6, none⟩ = some m5 ∧ w'.cell? ⟨r, 7, none⟩ = some m6 ∧ w'.cell? ⟨r, 8, none⟩ = some m7 ∧ w'.cell? ⟨r, 9, none⟩ = some m8 ∧ w'.cell? ⟨r + 1, 3, none⟩ = some (.slice (some ⟨fb, foff, none⟩) nf c3) ∧ w'.cell? ⟨fb, foff + k, none⟩ = some (.string f))
              (first | exact hS0 | exact hS0' | exact hS1 | go_keep)
              (first
                | (go_at_call 9; (with_reducible refine HFx.out.mono ?_); rintro e w4 ⟨rfl, t4⟩
                   have tt4 : Turn [] W1 w4 := HO.out.2.drew.trans' t4
                   have hS1 := HSS.out w4 tt4
                   have HT4 := Lib.hid tt4
                   clear t4 tt4))
            go_wp2_with fail
            go_ret
            exact ⟨by rw [HB.out]; rfl, (HT0.out.trans' HT1.out).trans' HT4.out⟩
          · rw [hc] at HFx
            obtain ⟨fc, hfc⟩ : ∃ fc, y.face = fc := ⟨_, rfl⟩
            have hfk : fcB l x k = (fc && !((x.fcs.take k).any fun g => decide (g = f))) := by
              unfold fcB
              rw [HKF.out]
              simp only [hc, faceAt_at hy, hfc]
              simp
            have HFK := Lib.hid hfk
            have HY := Lib.hid (And.intro hy hfc)
            clear hc hy hfc hfk
            go_upto_region 11 with fail
            go_region_held3 (fun w' => w'.cell? ⟨r, 0, none⟩ = some (.slice (some ⟨b, off, none⟩) n c) ∧ w'.cell? ⟨r, 1, none⟩ = some m0 ∧ w'.cell? ⟨r, 2, none⟩ = some m1 ∧ w'.cell? ⟨r, 3, none⟩ = some m2 ∧ w'.cell? ⟨r, 4, none⟩ = some m3 ∧ w'.cell? ⟨r, 5, none⟩ = some m4 ∧ w'.cell? ⟨r, 6, none⟩ = some m5 ∧ w'.cell? ⟨r, 7, none⟩ = some m6 ∧ w'.cell? ⟨r, 8, none⟩ = some m7 ∧ w'.cell? ⟨r, 9, none⟩ = some m8 ∧ w'.cell? ⟨r + 1, 3, none⟩ = some (.slice (some ⟨fb, foff, none⟩) nf c3) ∧ w'.cell? ⟨fb, foff + k, none⟩ = some (.string f))
              (first | exact hS0 | exact hS0' | exact hS1 | go_keep)
              (first
                | (go_at_call 9; (with_reducible refine HFx.out.mono ?_); rintro e w4 ⟨rfl, t4⟩
                   have tt4 : Turn [] W1 w4 := HO.out.2.drew.trans' t4
                   have hS1 := HSS.out w4 tt4
                   have HT4 := Lib.hid tt4
                   clear t4 tt4))
            obtain ⟨y2, hjn⟩ := HFC.out w4 (HT1.out.trans' HT4.out) j y HY.out.1
            rw [HY.out.2] at y2
            have p0 : w4.cell? ⟨r, 0, none⟩ = some (.slice (some ⟨b, off, none⟩) n c) := HP.out w4 (HT1.out.trans' HT4.out) 0 _ rfl
            have d3 : decide ((j : Int) < 0) = false := by simp
            have d4 : (j : Int) < (n : Int) := by omega
            clear hS1 hS0 hS0'
            cases fc with
            | false =>
              have HB : Hid (sndB l i x = false) := Lib.hid (sndB_fc HKA.out HFK.out)
              go_wp2_with fail
              go_ret
              exact ⟨by rw [HB.out]; rfl, (HT0.out.trans' HT1.out).trans' HT4.out⟩
            | true =>
              go_wp2_with fail
              go_loopw [9] (fun v9 wq => ∃ a : Nat, a ≤ k ∧ v9 = .int .i64 (a : Int) ∧ Hid ((∀ q, q < a → x.fcs[q]? ≠ some f) ∧ Turn [] W1 wq)) (fun v9 _ => k - (intOf v9).toNat)
              case atStart => exact ⟨0, Nat.zero_le _, rfl, Lib.hid ⟨fun a ha => absurd ha (Nat.not_lt_zero a), HT4.out⟩⟩
              case round =>
                obtain ⟨a, ha, rfl, HQ⟩ := hrel
                have z3q : wr.cell? ⟨r + 1, 3, none⟩ = some (.slice (some ⟨fb, foff, none⟩) nf c3) := (HCC.out wr HQ.out.2).2.2
                by_cases hak : a < k
                · have d5 : decide ((a : Int) < (k : Int)) = true := by simp; omega
                  have d6 : (a : Int) < (nf : Int) := by omega
                  obtain ⟨g, hg⟩ := at_lt (show a < x.fcs.length by have := HNF.out; omega)
                  obtain ⟨gb, goff, e, hgb, hgl, hgc⟩ := HST.out a g hg
                  injection e with e
                  injection e with e1 e2
                  subst e1 e2
                  have cg : wr.cell? ⟨fb, foff + a, none⟩ = some (.string g) := (HQ.out.2.cell (p := ⟨fb, foff + a, none⟩) hgl (by simp)).trans hgc
                  have cf : wr.cell? ⟨fb, foff + k, none⟩ = some (.string f) := (HSS.out wr HQ.out.2).2.2.2.2.2.2.2.2.2.2.2
                  have HGA := Lib.hid hg
                  clear hg hgb hgl hgc
                  by_cases hgf : g = f
                  · subst hgf
                    have e9 := tx_same g
                    have HB : Hid (sndB l i x = false) := Lib.hid (sndB_fc HKA.out (by rw [HFK.out, any_has HGA.out hak]; rfl))
                    go_upto_region 17 with fail
                    go_quiet (fail)
                    go_wp2_with fail
                    go_ret
                    exact ⟨by rw [HB.out]; rfl, (HT0.out.trans' HT1.out).trans' (HQ.out.2.drewN _)⟩
                  · have e9 := tx_other hgf
                    have HNE : Hid (∀ q, q < a + 1 → x.fcs[q]? ≠ some f) := Lib.hid (fun q hq => by
                      by_cases hqa : q = a
                      · subst hqa
                        rw [HGA.out]
                        intro e
                        injection e with e
                        exact hgf e
                      · exact HQ.out.1 q (by omega))
                    clear hgf
                    go_upto_region 17 with fail
                    go_quiet (fail)
                    go_wp2_with fail
                    go_roundw
                    case rel => exact ⟨a + 1, by omega, by go_num, Lib.hid ⟨HNE.out, HQ.out.2.drewN _⟩⟩
                    case measure => simp [intOf]; omega
                · obtain rfl : a = k := by omega
                  have d5 : decide ((a : Int) < (a : Int)) = false := by simp
                  have HN : Hid (∀ q, q < a + 1 → fcB l x q = true) := Lib.hid (fun q hq => by
                    by_cases hqa : q = a
                    · subst hqa
                      rw [HFK.out, any_hasnt HQ.out.1]
                      rfl
                    · exact HO.out.1 q (by omega))
                  go_wp2_with fail
                  go_roundw
                  case rel => exact ⟨a + 1, by omega, by go_num, Lib.hid ⟨HN.out, HQ.out.2⟩⟩
                  case measure => simp [intOf]; omega
        · obtain rfl : k = nf := by omega
          have d1 : decide ((k : Int) < (k : Int)) = false := by simp
          have HB : Hid (sndB l i x = true) := Lib.hid (sndB_true HZ.out hcut.out.1 (fun a ha => HO.out.1 a (by have := HNF.out; omega)))
          go_wp2_with fail
          go_ret
          exact ⟨by rw [HB.out]; rfl, (HT0.out.trans' HT1.out).trans' HO.out.2⟩
  · have d0 : (z != (i : Int)) = true := by simpa using h0
    have d0' : decide (z = (i : Int)) = false := by simpa using h0
    have HB : Hid (sndB l i x = false) := Lib.hid (sndB_nm (by rw [HZ.out]; exact h0))
    go_wp2_with fail
    go_ret
    exact ⟨by rw [HB.out]; rfl, (HT0.out.trans' HT1.out).trans' HT2.out⟩
end Go.Proofs.YtbocejiclellfaaGreatDoor

/- Slices of Bools of the program's own making. -/
set_option linter.unusedSimpArgs false
set_option linter.unusedVariables false
set_option maxRecDepth 100000
namespace Go.Proofs.YtbocejiclellfaaGreatDoor
open Go.RowKit

def OwnB (w : World) (B : Nat) (v : Value) (l : List Bool) : Prop := w.ownsRow B 4 1 v l.length (l.map Value.bool)
theorem bool_info : (Tryz.prog.info? 4).map (fun i => (i.zero, i.size, i.bytes)) = some (some (.bool false), 1, 1) := by kernel_rfl
theorem OwnB.turn {F : List Nat} {w w' : World} {B : Nat} {v : Value} {l : List Bool} (h : OwnB w B v l) (t : Turn F w w') (hn : ∀ g, v.ownBlock = some g → g ∉ F) : OwnB w' B v l := Turn.owns t h hn
theorem OwnB.turn' {w w' : World} {B : Nat} {v : Value} {l : List Bool} (h : OwnB w B v l) (t : Turn [] w w') : OwnB w' B v l := Turn.owns t h (by simp)
theorem OwnB.putAt {w : World} {r g n c j : Nat} {l : List Bool} {y : Bool} (h : OwnB w r (.slice (some ⟨g, 0, none⟩) n c) l) (hn : n = l.length) : OwnB (w.setCell ⟨g, j, none⟩ (.bool y)) r (.slice (some ⟨g, 0, none⟩) n c) (l.set j y) := by
  subst hn
  have := (World.ownsRow.stored h j (.bool y)).1
  unfold OwnB
  rw [List.length_set, List.map_set]
  exact this
theorem OwnB.falses (w : World) (r n : Nat) (hr : r ≤ w.heap.size) (hn : n ≤ 1000000) : OwnB (w.alloc (.cells (madeCells #[.bool false] (n * 1)) 4)) r (.slice (some ⟨w.heap.size, 0, none⟩) n n) (List.replicate n false) := by
  refine ⟨by simp, .inr ⟨w.heap.size, n, madeCells #[.bool false] (n * 1), by simp, hr, heap_alloc_new w _, by simp, by simp only [maxLen]; omega, by simp [size_madeCells], ?_⟩⟩
  have h : (madeCells #[.bool false] (n * 1)).toList = List.replicate (n * 1) (.bool false) := by
    apply List.ext_getElem
    · simp [size_madeCells]
    · intro k h1 h2
      simp [madeCells, Nat.mod_one]
  rw [h, List.take_replicate]
  simp
theorem make_bools (n : Nat) (hn : n ≤ 1000000) (W : World) : (Instr.makeSlice 72 (.int .i64 (n : Int)) (.int .i64 (n : Int))).run Tryz.prog W = .ok (.slice (some ⟨W.heap.size, 0, none⟩) n n) (W.alloc (.cells (madeCells #[.bool false] (n * 1)) 4)) := by
  obtain ⟨i0, hi0, hz0, hz1, hz2⟩ := info_parts bool_info
  have := run_make (P := Tryz.prog) W 72 4 i0 _ Tryz.underlying72 hi0 hz0 .i64 .i64 (n : Int) (n : Int) (by omega) (by omega) (by rw [hz2]; omega) (by omega)
  rw [hz1] at this
  rw [Nat.mul_one]
  simp at this
  exact this
theorem OwnB.at {w : World} {r g n c : Nat} {l : List Bool} (h : OwnB w r (.slice (some ⟨g, 0, none⟩) n c) l) : (∀ (j : Nat) (y : Bool), l[j]? = some y → w.cell? ⟨g, j, none⟩ = some (.bool y)) ∧ ∀ j, w.frozen? ⟨g, j, none⟩ = false := by
  rcases h.2 with ⟨e, _⟩ | ⟨g', cap, cur, e, hb, hg, hnc, _, _, _⟩
  · cases e
  · have e' : Value.slice (some ⟨g, 0, none⟩) n c = .slice (some ⟨g', 0, none⟩) l.length cap := e
    injection e' with e1 e2 e3
    injection e1 with e1
    injection e1 with e1 _
    subst e1 e2 e3
    refine ⟨fun j y hy => ?_, fun j => frozen_of_row w g j _ _ hg⟩
    have hj : j < l.length := (List.getElem?_eq_some_iff.1 hy).1
    have := World.ownsRow.cellAt (cap := c) h j (by omega)
    rw [this]
    simp [hy]
end Go.Proofs.YtbocejiclellfaaGreatDoor

/- What climbed puts down: plain. -/
set_option linter.unusedSimpArgs false
set_option linter.unusedVariables false
set_option maxRecDepth 100000
namespace Go.Proofs.YtbocejiclellfaaGreatDoor
open Go.RowKit

/-- j is i, or above it. -/
def Up (Es : List En) (i j : Nat) : Prop := Ua (nxE Es) Es.length [] i j
section
variable {nx : Nat → List Nat} {n : Nat} {T T' : List Int}
theorem Ua.start {i j : Nat} (h : Ua nx n T i j) : i < n ∧ (i : Int) ∉ T := by
  induction h with
  | refl h1 h2 => exact ⟨h1, h2⟩
  | step _ _ _ _ ih => exact ih
theorem Ua.head {a j k : Nat} (ha : a < n) (ht : (a : Int) ∉ T) (hj : j ∈ nx a) (h : Ua nx n T j k) : Ua nx n T a k :=
  ((Ua.refl ha ht).step hj h.start.1 h.start.2).trans h
theorem Ua.sub {i j : Nat} (h : Ua nx n T i j) (hs : ∀ y ∈ T', y ∈ T) : Ua nx n T' i j := by
  induction h with
  | refl h1 h2 => exact .refl h1 (fun h => h2 (hs _ h))
  | step _ ha hn ht ih => exact .step ih ha hn (fun h => ht (hs _ h))
end
theorem mem_addB (i : Nat) : ∀ (us : List Nat) (ls : List (List Int)) (b : Nat) (x : Int), x ∈ (addB i us ls)[b]?.getD [] ↔ x ∈ ls[b]?.getD [] ∨ (x = (i : Int) ∧ b ∈ us ∧ b < ls.length)
  | [], ls, b, x => by simp [addB]
  | a :: us, ls, b, x => by
    rw [addB, mem_addB i us]
    by_cases hb : b = a
    · subst hb
      by_cases hl : b < ls.length
      · rw [List.getElem?_set_self hl]
        simp only [Option.getD_some, List.mem_append, List.length_set, List.mem_cons, List.not_mem_nil, or_false, true_or, true_and, hl, and_true]
        constructor
        · rintro ((h | h) | ⟨h, _⟩)
          · exact .inl h
          · exact .inr h
          · exact .inr h
        · rintro (h | h)
          · exact .inl (.inl h)
          · exact .inl (.inr h)
      · rw [List.getElem?_eq_none (by rw [List.length_set]; omega), List.getElem?_eq_none (by omega)]
        simp [hl]
    · rw [List.getElem?_set_ne (by omega)]
      simp [hb]
theorem mem_belF (Es : List En) : ∀ (f k : Nat) (ls : List (List Int)) (b : Nat) (x : Int), x ∈ (belF Es f k ls)[b]?.getD [] ↔ x ∈ ls[b]?.getD [] ∨ ∃ j : Nat, k ≤ j ∧ j < k + f ∧ x = (j : Int) ∧ b ∈ nxE Es j ∧ b < ls.length
  | 0, k, ls, b, x => by
    simp only [belF]
    constructor
    · exact .inl
    · rintro (h | ⟨j, h1, h2, _⟩)
      · exact h
      · omega
  | f + 1, k, ls, b, x => by
    rw [belF, mem_belF Es f, mem_addB, addB_len]
    constructor
    · rintro ((h | ⟨h1, h2, h3⟩) | ⟨j, h1, h2, h3, h4, h5⟩)
      · exact .inl h
      · exact .inr ⟨k, Nat.le_refl _, by omega, h1, h2, h3⟩
      · exact .inr ⟨j, by omega, by omega, h3, h4, h5⟩
    · rintro (h | ⟨j, h1, h2, h3, h4, h5⟩)
      · exact .inl (.inl h)
      · by_cases e : j = k
        · subst e
          exact .inl (.inr ⟨h3, h4, h5⟩)
        · exact .inr ⟨j, by omega, by omega, h3, h4, h5⟩
theorem mem_nxB {Es : List En} {a j : Nat} (ha : a < Es.length) : j ∈ nxB Es a ↔ j < Es.length ∧ a ∈ nxE Es j := by
  unfold nxB belowL
  rw [List.mem_map]
  constructor
  · rintro ⟨x, hx, rfl⟩
    rcases (mem_belF Es _ _ _ _ _).1 hx with h | ⟨q, _, h2, rfl, h4, _⟩
    · rw [List.getElem?_replicate, if_pos ha] at h
      simp at h
    · rw [Int.toNat_natCast]
      exact ⟨by omega, h4⟩
  · rintro ⟨h1, h2⟩
    exact ⟨(j : Int), (mem_belF Es _ _ _ _ _).2 (.inr ⟨j, Nat.zero_le _, by omega, rfl, h2, by simpa using ha⟩), by simp⟩
theorem down_up {Es : List En} {T : List Int} {x y : Nat} (h : Ua (nxB Es) Es.length T x y) : Ua (nxE Es) Es.length T y x := by
  induction h with
  | refl h1 h2 => exact .refl h1 h2
  | step hp ha hn ht ih => exact Ua.head hn ht ((mem_nxB hp.lt).1 ha).2 ih
theorem up_down {Es : List En} {T : List Int} {x y : Nat} (h : Ua (nxE Es) Es.length T x y) : Ua (nxB Es) Es.length T y x := by
  induction h with
  | refl h1 h2 => exact .refl h1 h2
  | step hp ha hn ht ih => exact Ua.head hn ht ((mem_nxB hn).2 ⟨hp.lt, ha⟩) ih

/-- What holds while it climbs. -/
structure Ki (Es : List En) (s : Cs) : Prop where
  ok : CsOk Es s
  seen : ∀ y, y ∈ s.l → y ∈ s.p ++ s.d
  trp : ∀ (x : Nat) (c : Int), (x : Int) ∈ s.p → s.tr[x]? = some c → ∀ (i a : Nat), i < c.toNat → (nxE Es x)[i]? = some a → (a : Int) ∈ s.p ++ s.d
  trd : ∀ x : Nat, (x : Int) ∈ s.d → ∀ a ∈ nxE Es x, (a : Int) ∈ s.p ++ s.d
  tz : ∀ x : Nat, x < Es.length → (x : Int) ∉ s.p ++ s.d → s.tr[x]? = some 0
  st : ∀ (p1 : List Int) (x : Nat) (p2 : List Int), s.p = p1 ++ (x : Int) :: p2 → (∀ y : Nat, (y : Int) ∈ p2 → Up Es x y) ∧ ∃ D E, s.d = D ++ E ∧ (∀ y : Nat, (y : Int) ∈ E → Up Es x y) ∧ ∀ y : Nat, (y : Int) ∈ D → ∀ a ∈ nxE Es y, (a : Int) ∈ D ∨ (a : Int) ∈ p1
  dn : ∀ (d1 : List Int) (x : Nat) (d2 : List Int), s.d = d1 ++ (x : Int) :: d2 → ∃ D E, d1 = D ++ E ∧ (∀ y : Nat, (y : Int) ∈ E → Up Es x y) ∧ ∀ y : Nat, (y : Int) ∈ D → ∀ a ∈ nxE Es y, (a : Int) ∈ D ∨ (a : Int) ∈ d2 ∨ (a : Int) ∈ s.p
theorem snoc_split {p p1 p2 : List Int} {x y : Int} (h : p ++ [y] = p1 ++ x :: p2) : (p2 = [] ∧ x = y ∧ p1 = p) ∨ ∃ p2', p2 = p2' ++ [y] ∧ p = p1 ++ x :: p2' := by
  rcases List.eq_nil_or_concat p2 with e | ⟨p2', z, e⟩
  · subst e
    have h2 := List.append_inj' h rfl
    injection h2.2 with h3
    exact .inl ⟨rfl, h3.symm, h2.1.symm⟩
  · rw [List.concat_eq_append] at e
    subst e
    have h1 : p ++ [y] = (p1 ++ x :: p2') ++ [z] := by rw [h]; simp
    have h2 := List.append_inj' h1 rfl
    injection h2.2 with h3
    subst h3
    exact .inr ⟨p2', rfl, h2.1⟩
theorem Ki.enter {Es : List En} {s : Cs} (h : Ki Es s) {i : Nat} (hi : i < Es.length) (hn : Es.length ≤ 1000) (hr : s.p = [] ∨ ∃ (q : List Int) (x : Nat), s.p = q ++ [(x : Int)] ∧ i ∈ nxE Es x) :
    Ki Es (enterS s (i : Int)) ∧ (i : Int) ∈ (enterS s (i : Int)).p ++ (enterS s (i : Int)).d := by
  have hok := h.ok.enter hi hn
  cases hh : hasB s.l (i : Int) with
  | true =>
    have e : enterS s (i : Int) = s := by
      obtain ⟨l, p, d, t⟩ := s
      unfold enterS
      simp only at hh ⊢
      rw [hh, putL_no (by rw [hh]; simp)]
      rfl
    rw [e]
    exact ⟨h, h.seen _ ((hasB_iff _ _).1 hh)⟩
  | false =>
    have e : enterS s (i : Int) = ⟨putL s.l (i : Int), s.p ++ [(i : Int)], s.d, s.tr⟩ := by
      unfold enterS
      rw [hh]
      rfl
    have hni : (i : Int) ∉ s.p ++ s.d := fun hm => by
      have := (hasB_iff s.l (i : Int)).2 (h.ok.mem _ hm)
      rw [hh] at this
      cases this
    rw [e] at hok ⊢
    have hup : ∀ y : Int, y ∈ s.p ++ s.d → y ∈ (s.p ++ [(i : Int)]) ++ s.d := fun y hy => by
      rcases List.mem_append.1 hy with h1 | h1
      · simp [h1]
      · simp [h1]
    refine ⟨⟨hok, fun y hy => ?_, fun x c hx hc j a hj ha => ?_, fun x hx a ha => hup _ (h.trd x hx a ha), fun x hx hnx => h.tz x hx (fun hm => hnx (hup _ hm)), fun p1 x p2 hp => ?_, fun d1 x d2 hd => ?_⟩, by simp⟩
    · simp only at hy ⊢
      rcases (mem_putL s.l (i : Int) y).1 hy with h1 | ⟨h1, _⟩
      · exact hup _ (h.seen y h1)
      · subst h1; simp
    · simp only at hx hc
      rcases List.mem_append.1 hx with hx | hx
      · exact hup _ (h.trp x c hx hc j a hj ha)
      · have hx2 : x = i := by simp at hx; omega
        subst hx2
        rw [h.tz x hi hni] at hc
        injection hc with hc
        subst hc
        simp at hj
    · simp only at hp ⊢
      rcases snoc_split hp with ⟨rfl, hx, rfl⟩ | ⟨p2', rfl, hp'⟩
      · refine ⟨by simp, s.d, [], by simp, by simp, fun y hy a ha => ?_⟩
        rcases List.mem_append.1 (h.trd y hy a ha) with h1 | h1
        · exact .inr h1
        · exact .inl h1
      · obtain ⟨k1, D, E, k2, k3, k4⟩ := h.st p1 x p2' hp'
        refine ⟨fun y hy => ?_, D, E, k2, k3, k4⟩
        rcases List.mem_append.1 hy with hy | hy
        · exact k1 y hy
        · have hy2 : y = i := by simp at hy; omega
          subst hy2
          rcases hr with hr | ⟨q, z, hq, hz⟩
          · rw [hr] at hp'; simp at hp'
          · have hxz : Up Es x z := by
              rw [hp'] at hq
              rcases snoc_split (p := q) (y := (z : Int)) hq.symm with ⟨rfl, hx, rfl⟩ | ⟨p3, rfl, _⟩
              · have : x = z := by omega
                subst this
                have hl := h.ok.lo (x : Int) (by rw [hp']; simp)
                exact .refl (by omega) (by simp)
              · exact k1 z (by simp)
            exact hxz.step hz hi (by simp)
    · simp only at hd
      obtain ⟨D, E, k1, k2, k3⟩ := h.dn d1 x d2 hd
      refine ⟨D, E, k1, k2, fun y hy a ha => ?_⟩
      rcases k3 y hy a ha with h1 | h1 | h1
      · exact .inl h1
      · exact .inr (.inl h1)
      · exact .inr (.inr (by simp [h1]))
theorem Ki.pop {Es : List En} {s : Cs} (h : Ki Es s) {q : List Int} {x : Nat} {c : Int} (hp : s.p = q ++ [(x : Int)]) (hc : s.tr[x]? = some c) (hl : (nxE Es x).length ≤ c.toNat) (hok : CsOk Es ⟨s.l, q, s.d ++ [(x : Int)], s.tr⟩) : Ki Es ⟨s.l, q, s.d ++ [(x : Int)], s.tr⟩ := by
  have hset : ∀ y : Int, y ∈ s.p ++ s.d ↔ y ∈ q ++ (s.d ++ [(x : Int)]) := fun y => by
    rw [hp]
    simp only [List.mem_append, List.mem_singleton]
    constructor
    · rintro ((h | h) | h)
      · exact .inl h
      · exact .inr (.inr h)
      · exact .inr (.inl h)
    · rintro (h | h | h)
      · exact .inl (.inl h)
      · exact .inr h
      · exact .inl (.inr h)
  refine ⟨hok, fun y hy => (hset y).1 (h.seen y hy), fun z c' hz hc' j a hj ha => (hset _).1 (h.trp z c' (by rw [hp]; simp only at hz; simp [hz]) hc' j a hj ha), fun z hz a ha => ?_, fun z hz hnz => h.tz z hz (fun hm => hnz ((hset _).1 hm)), fun p1 z p2 hq => ?_, fun d1 z d2 hd => ?_⟩
  · refine (hset _).1 ?_
    rcases List.mem_append.1 hz with hz | hz
    · exact h.trd z hz a ha
    · have hz2 : z = x := by simp at hz; omega
      subst hz2
      obtain ⟨j, hj, he⟩ := List.getElem_of_mem ha
      exact h.trp z c (by rw [hp]; simp) hc j a (by omega) (by rw [List.getElem?_eq_getElem hj, he])
  · simp only at hq ⊢
    obtain ⟨k1, D, E, k2, k3, k4⟩ := h.st p1 z (p2 ++ [(x : Int)]) (by rw [hp, hq]; simp)
    refine ⟨fun y hy => k1 y (by simp [hy]), D, E ++ [(x : Int)], by rw [k2]; simp, fun y hy => ?_, k4⟩
    rcases List.mem_append.1 hy with hy | hy
    · exact k3 y hy
    · have hy2 : y = x := by simp at hy; omega
      subst hy2
      exact k1 y (by simp)
  · simp only at hd ⊢
    rcases snoc_split hd with ⟨rfl, hx, rfl⟩ | ⟨d2', rfl, hd'⟩
    · have hx' : z = x := by omega
      subst hx'
      obtain ⟨_, D, E, k2, k3, k4⟩ := h.st q z [] (by rw [hp])
      exact ⟨D, E, k2, k3, fun y hy a ha => by
        rcases k4 y hy a ha with h1 | h1
        · exact .inl h1
        · exact .inr (.inr h1)⟩
    · obtain ⟨D, E, k1, k2, k3⟩ := h.dn d1 z d2' hd'
      refine ⟨D, E, k1, k2, fun y hy a ha => ?_⟩
      rcases k3 y hy a ha with h1 | h1 | h1
      · exact .inl h1
      · exact .inr (.inl (by simp [h1]))
      · rw [hp] at h1
        rcases List.mem_append.1 h1 with h1 | h1
        · exact .inr (.inr h1)
        · exact .inr (.inl (by simp at h1; simp [h1]))
theorem enterS_trs (s : Cs) (i : Int) : (enterS s i).tr = s.tr := rfl
theorem Ki.setTr {Es : List En} {s : Cs} (k : Ki Es s) (tr : List Int) (hok : CsOk Es { s with tr := tr })
    (h1 : ∀ (x : Nat) (c : Int), (x : Int) ∈ s.p → tr[x]? = some c → ∀ (i a : Nat), i < c.toNat → (nxE Es x)[i]? = some a → (a : Int) ∈ s.p ++ s.d)
    (h2 : ∀ x : Nat, x < Es.length → (x : Int) ∉ s.p ++ s.d → tr[x]? = some 0) : Ki Es { s with tr := tr } := ⟨hok, k.seen, h1, k.trd, h2, k.st, k.dn⟩
theorem Ki.step {Es : List En} (hok : EsOk Es) {s s' : Cs} (h : Ki Es s) (hs : cstep Es s = some s') : Ki Es s' := by
  rcases List.eq_nil_or_concat s.p with hp | ⟨q, z, hp⟩
  · unfold cstep at hs
    rw [hp] at hs
    cases hs
  · rw [List.concat_eq_append] at hp
    have hzl := h.ok.lo z (by rw [hp]; simp)
    obtain ⟨x, rfl⟩ := Int.eq_ofNat_of_zero_le hzl.1
    have hxl : x < s.tr.length := by rw [h.ok.len]; omega
    obtain ⟨c, hc⟩ := at_lt hxl
    have hcb := h.ok.tr x c hc
    obtain ⟨cn, rfl⟩ := Int.eq_ofNat_of_zero_le hcb.1
    by_cases hl : (nxE Es x).length ≤ cn
    · obtain ⟨g1, g2, _⟩ := cstep_done h.ok hp hc hl
      rw [g1] at hs
      injection hs with hs
      subst hs
      exact h.pop hp hc (by simpa using hl) g2
    · obtain ⟨a, ha⟩ := at_lt (show cn < (nxE Es x).length by omega)
      obtain ⟨g1, g2, _⟩ := cstep_go hok h.ok hp hc ha
      rw [g1] at hs
      injection hs with hs
      subst hs
      have ham := List.mem_of_getElem? ha
      have han := hok.lt x a ham
      obtain ⟨k, hin⟩ := h.enter han hok.n (.inr ⟨q, x, hp, ham⟩)
      have hxs : (x : Int) ∈ (enterS s (a : Int)).p ++ (enterS s (a : Int)).d := by
        have : (x : Int) ∈ s.p ++ s.d := by rw [hp]; simp
        unfold enterS
        simp only
        split
        · exact this
        · rcases List.mem_append.1 this with h1 | h1 <;> simp [h1]
      refine k.setTr _ g2 (fun y c' hy hc' j b hj hb => ?_) (fun y hy hny => ?_)
      · by_cases e : y = x
        · subst e
          rw [List.getElem?_set_self hxl] at hc'
          injection hc' with hc'
          subst hc'
          by_cases ej : j = cn
          · subst ej
            rw [ha] at hb
            injection hb with hb
            subst hb
            exact hin
          · have hc2 : (enterS s (a : Int)).tr[y]? = some (cn : Int) := by rw [enterS_trs]; exact hc
            exact k.trp y (cn : Int) hy hc2 j b (by omega) hb
        · rw [List.getElem?_set_ne (by omega)] at hc'
          have hc2 : (enterS s (a : Int)).tr[y]? = some c' := by rw [enterS_trs]; exact hc'
          exact k.trp y c' hy hc2 j b hj hb
      · by_cases e : y = x
        · subst e
          exact absurd hxs hny
        · rw [List.getElem?_set_ne (by omega)]
          have := k.tz y hy hny
          rw [enterS_trs] at this
          exact this
theorem Ki.run {Es : List En} (hok : EsOk Es) : ∀ (f : Nat) {s : Cs}, Ki Es s → Ki Es (crun Es f s)
  | 0, s, h => h
  | f + 1, s, h => by
    rw [crun]
    cases hc : cstep Es s with
    | none => exact h
    | some s' => exact Ki.run hok f (h.step hok hc)
theorem Ki.zero (Es : List En) : Ki Es (cs0 Es.length) where
  ok := ⟨by simp [cs0], fun k c hk => by
    have := List.eq_of_mem_replicate (List.mem_of_getElem? hk)
    omega, by simp [cs0], by simp [cs0], by simp [cs0]⟩
  seen := by simp [cs0]
  trp := fun x c hx => by simp [cs0] at hx
  trd := fun x hx => by simp [cs0] at hx
  tz := fun x hx _ => by simp [cs0, hx]
  st := fun p1 x p2 h => by simp [cs0] at h
  dn := fun p1 x p2 h => by simp [cs0] at h
theorem enterS_sub (s : Cs) (i : Int) : ∀ y, y ∈ s.p ++ s.d → y ∈ (enterS s i).p ++ (enterS s i).d := fun y hy => by
  unfold enterS
  simp only
  split
  · exact hy
  · rcases List.mem_append.1 hy with h1 | h1 <;> simp [h1]
theorem cstep_sub {Es : List En} {s s' : Cs} (hs : cstep Es s = some s') : ∀ y, y ∈ s.p ++ s.d → y ∈ s'.p ++ s'.d := fun y hy => by
  unfold cstep at hs
  split at hs
  · cases hs
  · rename_i x hx
    split at hs
    · injection hs with hs
      subst hs
      simp only
      exact enterS_sub s _ y hy
    · injection hs with hs
      subst hs
      obtain ⟨q, hq⟩ := last_at hx
      rw [hq] at hy
      simp only [hq, List.dropLast_concat]
      simp only [List.mem_append, List.mem_singleton] at hy ⊢
      rcases hy with (h | h) | h
      · exact .inl h
      · exact .inr (.inr h)
      · exact .inr (.inl h)
theorem crun_sub {Es : List En} : ∀ (f : Nat) {s : Cs}, ∀ y, y ∈ s.p ++ s.d → y ∈ (crun Es f s).p ++ (crun Es f s).d
  | 0, s, y, h => h
  | f + 1, s, y, h => by
    rw [crun]
    cases hc : cstep Es s with
    | none => exact h
    | some s' => exact crun_sub f y (cstep_sub hc y h)
theorem climb_ki {Es : List En} (hok : EsOk Es) : ∀ (k : Nat) (s : Cs), k ≤ Es.length → climbTo Es k s → Ki Es s ∧ s.p = [] ∧ ∀ j : Nat, j < k → (j : Int) ∈ s.d
  | 0, s, _, h => by
    have e : s = cs0 Es.length := h
    subst e
    exact ⟨Ki.zero Es, rfl, fun j hj => by omega⟩
  | k + 1, s, hk, h => by
    obtain ⟨s0, f, h0, h1, h2⟩ := h
    obtain ⟨k0, p0, d0⟩ := climb_ki hok k s0 (by omega) h0
    obtain ⟨k1, hin⟩ := k0.enter (i := k) (by omega) hok.n (.inl p0)
    subst h1
    refine ⟨k1.run hok f, h2, fun j hj => ?_⟩
    have hm : (j : Int) ∈ (enterS s0 (k : Int)).p ++ (enterS s0 (k : Int)).d := by
      by_cases e : j = k
      · subst e; exact hin
      · exact enterS_sub s0 _ _ (by simp [d0 j (by omega)])
    have := crun_sub (Es := Es) f _ hm
    rw [h2] at this
    simpa using this
end Go.Proofs.YtbocejiclellfaaGreatDoor

/- What round answers: the first one that is above itself. Plain. -/
set_option linter.unusedSimpArgs false
set_option linter.unusedVariables false
set_option maxRecDepth 100000
namespace Go.Proofs.YtbocejiclellfaaGreatDoor
open Go.RowKit

/-- One is above itself. -/
def Cyc (Es : List En) (i : Nat) : Prop := i < Es.length ∧ ∃ j ∈ nxE Es i, Up Es j i
theorem Ua.first {nx : Nat → List Nat} {n : Nat} {T : List Int} {y z : Nat} (h : Ua nx n T y z) (hne : y ≠ z) : ∃ j ∈ nx y, Ua nx n T j z := by
  induction h with
  | refl _ _ => exact absurd rfl hne
  | @step z' a hp ha hn ht ih =>
    by_cases e : y = z'
    · subst e
      exact ⟨a, ha, .refl hn ht⟩
    · obtain ⟨j, hj, hu⟩ := ih e
      exact ⟨j, hj, hu.step ha hn ht⟩
theorem minL_le : ∀ (l : List Int), ∀ y ∈ l, minL l ≤ y
  | [], y, h => by simp at h
  | [a], y, h => by simp at h; simp [minL, h]
  | a :: b :: l, y, h => by
    rw [minL]
    · rcases List.mem_cons.1 h with rfl | h
      · exact Int.min_le_left _ _
      · exact Int.le_trans (Int.min_le_right _ _) (minL_le (b :: l) y h)
    · simp
theorem minL_in : ∀ (l : List Int), l ≠ [] → minL l ∈ l
  | [], h => absurd rfl h
  | [x], _ => by simp [minL]
  | x :: y :: l, _ => by
    rw [minL]
    · have := minL_in (y :: l) (by simp)
      by_cases hx : x ≤ minL (y :: l)
      · rw [Int.min_eq_left hx]; simp
      · rw [Int.min_eq_right (by omega)]; exact List.mem_cons_of_mem _ this
    · simp
/-- What is left of all below the last one that climbed on is above it. -/
theorem group_up {Es : List En} {s : Cs} (h : Ki Es s) (hp : s.p = []) (hall : ∀ j : Nat, j < Es.length → (j : Int) ∈ s.d) {d1 d2 T : List Int} {x y : Nat} (hd : s.d = d1 ++ (x : Int) :: d2) (hT : ∀ z ∈ d2, z ∈ T) (hG : Ua (nxB Es) Es.length T x y) : Up Es x y := by
  have hu := down_up hG
  have hx := hG.start
  obtain ⟨D, E, k1, k2, k3⟩ := h.dn d1 x d2 hd
  by_cases e : y = x
  · subst e
    exact .refl hx.1 (by simp)
  · have hy := hall y hG.lt
    rw [hd] at hy
    rcases List.mem_append.1 hy with hy | hy
    · rw [k1] at hy
      rcases List.mem_append.1 hy with hy | hy
      · exfalso
        have key : ∀ z, Ua (nxE Es) Es.length T y z → (z : Int) ∈ D := fun z hz => by
          induction hz with
          | refl _ _ => exact hy
          | step hz ha hn ht ih =>
            rcases k3 _ ih _ ha with h1 | h1 | h1
            · exact h1
            · exact absurd (hT _ h1) ht
            · rw [hp] at h1; simp at h1
        have hxD := key x hu
        have hnd := h.ok.nd
        rw [hp, List.nil_append, hd, k1] at hnd
        rw [List.nodup_append] at hnd
        exact hnd.2.2 (x : Int) (by simp [hxD]) (x : Int) (by simp) rfl
      · exact k2 y hy
    · rcases List.mem_cons.1 hy with h1 | h1
      · exact absurd (by omega) e
      · exact absurd (hT _ h1) hG.out
/-- Ways between two that are above each other keep out of what is closed. -/
theorem mut_out {Es : List En} {T : List Int} (hc : ∀ i j : Nat, (i : Int) ∈ T → Up Es i j → Up Es j i → (j : Int) ∈ T) {i j z : Nat} (hij : Up Es i j) (hi : (i : Int) ∉ T) (h : Up Es j z) : Up Es z i → Ua (nxE Es) Es.length T j z := by
  unfold Up at h
  induction h with
  | refl h1 h2 =>
    intro hz
    exact .refl h1 (fun ht => hi (hc j i ht hz hij))
  | @step z' a hp ha hn ht ih =>
    intro hz
    have hz' : Up Es z' i := Ua.head hp.lt (by simp) ha hz
    refine (ih hz').step ha hn (fun hta => hi (hc a i hta hz ?_))
    exact hij.trans (hp.step ha hn ht)
structure Rk (Es : List En) (d2 T : List Int) (first : Int) : Prop where
  a : ∀ y ∈ d2, y ∈ T
  b : ∀ i j : Nat, (i : Int) ∈ T → Up Es i j → Up Es j i → (j : Int) ∈ T
  c : ∀ i : Nat, (i : Int) ∈ T → Cyc Es i → 0 ≤ first ∧ first ≤ (i : Int)
  d : first = -1 ∨ ∃ c : Nat, first = (c : Int) ∧ Cyc Es c
theorem round_is {Es : List En} (hn : Es.length ≤ 1000000) {s : Cs} (h : Ki Es s) (hp : s.p = []) (hall : ∀ j : Nat, j < Es.length → (j : Int) ∈ s.d) : ∀ (k : Nat) (d1 d2 T : List Int) (first : Int), d1.length = k → s.d = d1 ++ d2 → Rk Es d2 T first →
    (∀ i : Nat, Cyc Es i → 0 ≤ roundL Es d1.reverse T first ∧ roundL Es d1.reverse T first ≤ (i : Int)) ∧ (roundL Es d1.reverse T first = -1 ∨ ∃ c : Nat, roundL Es d1.reverse T first = (c : Int) ∧ Cyc Es c)
  | 0, d1, d2, T, first, hk, hd, hR => by
    have e := List.eq_nil_of_length_eq_zero hk
    subst e
    simp only [List.reverse_nil, roundL]
    refine ⟨fun i hi => hR.c i (hR.a _ ?_) hi, hR.d⟩
    have := hall i hi.1
    rw [hd] at this
    simpa using this
  | k + 1, d1, d2, T, first, hk, hd, hR => by
    rcases List.eq_nil_or_concat d1 with e | ⟨d1', z, e⟩
    · subst e; simp at hk
    · rw [List.concat_eq_append] at e
      subst e
      have hzl := h.ok.lo z (by rw [hp, hd]; simp)
      obtain ⟨x, rfl⟩ := Int.eq_ofNat_of_zero_le hzl.1
      rw [List.reverse_append, List.reverse_singleton, List.singleton_append, roundL]
      have hd' : s.d = d1' ++ ((x : Int) :: d2) := by rw [hd]; simp
      have m2 : ∀ y : Int, y ∈ (reachL Es.length (nxB Es) [(x : Int)] T).2 ↔ ∃ j : Nat, y = (j : Int) ∧ Ua (nxB Es) Es.length T x j := fun y => by
        rw [reach_mem2 hn]
        constructor
        · rintro ⟨i, j, hi, hy, hu⟩
          have : i = x := by simp at hi; omega
          subst this
          exact ⟨j, hy, hu⟩
        · rintro ⟨j, hy, hu⟩
          exact ⟨x, j, by simp, hy, hu⟩
      have m1 : ∀ y : Int, y ∈ (reachL Es.length (nxB Es) [(x : Int)] T).1 ↔ y ∈ T ∨ y ∈ (reachL Es.length (nxB Es) [(x : Int)] T).2 := fun y => reach_mem1 hn _ y
      have hnd := (reachL_inv hn (nxB Es) [(x : Int)] T).nd
      obtain ⟨G, hG⟩ : ∃ G, (reachL Es.length (nxB Es) [(x : Int)] T).2 = G := ⟨_, rfl⟩
      obtain ⟨T', hT'⟩ : ∃ T', (reachL Es.length (nxB Es) [(x : Int)] T).1 = T' := ⟨_, rfl⟩
      rw [hG, hT'] at m1
      rw [hG] at m2 hnd
      simp only [hG, hT']
      have hup : ∀ y : Nat, (y : Int) ∈ G → Up Es x y ∧ Up Es y x := fun y hy => by
        obtain ⟨j, e, hu⟩ := (m2 _).1 hy
        have : y = j := by omega
        subst this
        exact ⟨group_up h hp hall hd' hR.a hu, (down_up hu).sub (by simp)⟩
      have hout : ∀ y : Nat, (y : Int) ∈ G → (y : Int) ∉ T := fun y hy => by
        obtain ⟨j, e, hu⟩ := (m2 _).1 hy
        have : y = j := by omega
        subst this
        exact hu.out
      have hclo : ∀ i j : Nat, (i : Int) ∈ G → Up Es i j → Up Es j i → (j : Int) ∈ G := fun i j hi h1 h2 => by
        obtain ⟨i', e, hu⟩ := (m2 _).1 hi
        have : i = i' := by omega
        subst this
        have hw := mut_out hR.b h1 hu.out h2 (Ua.refl hu.lt (by simp))
        exact (m2 _).2 ⟨j, rfl, hu.trans (up_down hw)⟩
      have hcyc : roundG Es G = true → ∀ y : Nat, (y : Int) ∈ G → Cyc Es y := fun hg y hy => by
        have hyl : y < Es.length := (hup y hy).1.lt
        match G, hg, hy, hup, hnd with
        | [], _, hy, _, _ => simp at hy
        | [g], hg, hy, _, _ =>
          have e : (y : Int) = g := by simpa using hy
          subst e
          have hself : y ∈ nxE Es y := by simpa [roundG] using hg
          exact ⟨hyl, y, hself, .refl hyl (by simp)⟩
        | g1 :: g2 :: gs, hg, hy, hup, hnd =>
          obtain ⟨w, hw, hne⟩ : ∃ w : Int, w ∈ g1 :: g2 :: gs ∧ w ≠ (y : Int) := by
            by_cases e : g1 = (y : Int)
            · refine ⟨g2, by simp, fun e2 => ?_⟩
              have := (List.nodup_cons.1 hnd).1
              exact this (by rw [e, ← e2]; simp)
            · exact ⟨g1, by simp, e⟩
          obtain ⟨wn, e, _⟩ := (m2 w).1 hw
          subst e
          have hyw : Up Es y wn := (hup y hy).2.trans (hup wn hw).1
          have hwy : Up Es wn y := (hup wn hw).2.trans (hup y hy).1
          obtain ⟨j, hj, hu⟩ := Ua.first hyw (by omega)
          exact ⟨hyl, j, hj, hu.trans hwy⟩
      have hgr : ∀ i : Nat, (i : Int) ∈ G → Cyc Es i → roundG Es G = true := fun i hi hc => by
        obtain ⟨hil, j, hj, hu⟩ := hc
        have hjG : (j : Int) ∈ G := hclo i j hi ((Ua.refl hil (by simp)).step hj hu.start.1 (by simp)) hu
        match G, hi, hjG with
        | [], hi, _ => simp at hi
        | [g], hi, hjG =>
          have e1 : (i : Int) = g := by simpa using hi
          have e2 : (j : Int) = g := by simpa using hjG
          have : j = i := by omega
          subst this
          subst e1
          simpa [roundG] using hj
        | g1 :: g2 :: gs, _, _ => rfl
      have hlo : ∀ y ∈ G, 0 ≤ y := fun y hy => by
        obtain ⟨j, e, _⟩ := (m2 y).1 hy
        omega
      refine round_is hn h hp hall k d1' ((x : Int) :: d2) T' _ (by simpa using hk) hd' ⟨fun y hy => ?_, fun i j hi h1 h2 => ?_, fun i hi hc => ?_, ?_⟩
      · rcases List.mem_cons.1 hy with rfl | hy
        · by_cases hx : (x : Int) ∈ T
          · exact (m1 _).2 (.inl hx)
          · exact (m1 _).2 (.inr ((m2 _).2 ⟨x, rfl, .refl (by omega) hx⟩))
        · exact (m1 _).2 (.inl (hR.a y hy))
      · rcases (m1 _).1 hi with hi | hi
        · exact (m1 _).2 (.inl (hR.b i j hi h1 h2))
        · exact (m1 _).2 (.inr (hclo i j hi h1 h2))
      · rcases (m1 _).1 hi with hi | hi
        · have := hR.c i hi hc
          split
          · rename_i hcond
            have hne : G ≠ [] := fun e => by rw [e] at hcond; simp [roundG] at hcond
            have := hlo _ (minL_in G hne)
            omega
          · exact this
        · have h1 := hgr i hi hc
          have h2 := minL_le G _ hi
          split
          · exact ⟨hlo _ (minL_in G (fun e => by rw [e] at hi; simp at hi)), h2⟩
          · rename_i hcond
            have h3 : ¬ (first < 0 ∨ minL G < first) := fun hh => hcond ⟨h1, hh⟩
            omega
      · split
        · rename_i hcond
          right
          have hne : G ≠ [] := fun e => by rw [e] at hcond; simp [roundG] at hcond
          have hm := minL_in G hne
          obtain ⟨j, e, _⟩ := (m2 _).1 hm
          exact ⟨j, e, hcyc hcond.1 j (by rw [← e]; exact hm)⟩
        · exact hR.d
/-- What round answers, from what climbed put down. -/
theorem round_says {Es : List En} (hok : EsOk Es) {s : Cs} (h : climbTo Es Es.length s) :
    (∀ i : Nat, Cyc Es i → 0 ≤ roundL Es s.d.reverse [] (-1) ∧ roundL Es s.d.reverse [] (-1) ≤ (i : Int)) ∧ (roundL Es s.d.reverse [] (-1) = -1 ∨ ∃ c : Nat, roundL Es s.d.reverse [] (-1) = (c : Int) ∧ Cyc Es c) := by
  obtain ⟨k, hp, hall⟩ := climb_ki hok Es.length s (Nat.le_refl _) h
  exact round_is (by have := hok.n; omega) k hp hall _ s.d [] [] (-1) rfl (by simp) ⟨by simp, by simp, by simp, .inl rfl⟩
end Go.Proofs.YtbocejiclellfaaGreatDoor
