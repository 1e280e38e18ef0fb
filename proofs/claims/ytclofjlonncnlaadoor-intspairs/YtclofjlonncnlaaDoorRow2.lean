/- Rows, more: bitOf, or, find's comparison. -/
import Derived.Test.YtclofjlonncnlaaDoorRow
set_option linter.unusedSimpArgs false
set_option linter.unusedVariables false
namespace Go.Proofs.YtclofjlonncnlaaDoor
open Go.RowKit
attribute [local go_sem] idx44_0 idx44_1 idx44_2 idx44_3

theorem ret_bit {a b c d : Int} (h : a = b) (h' : c = d) : Ending.returned (.tuple #[.int .i64 a, .int .u64 c]) = .returned (.tuple #[.int .i64 b, .int .u64 d]) := by rw [h, h']
theorem pow_lt64 (n : Nat) : 2 ^ (n % 64) < 18446744073709551616 := Nat.lt_of_lt_of_le (Nat.pow_lt_pow_right (by omega) (Nat.mod_lt n (by omega))) (by decide)
theorem wrap_pow (n : Nat) : IntKind.u64.wrap (2 ^ (n % 64)) = ((2 ^ (n % 64) : Nat) : Int) := by
  have h := pow_lt64 n
  rw [show (2 : Int) ^ (n % 64) = ((2 ^ (n % 64) : Nat) : Int) by simp]
  exact wrap_u64_nat _ h
set_option maxHeartbeats 400000 in
theorem bitOf_walk (n : Nat) (w : World) (h : n < 1048576) :
    Calls Tryd.prog 27 #[.int .i64 n] w fun e w' => e = .returned (.tuple #[.int .i64 ((n % 256 / 64 : Nat) : Int), .int .u64 ((2 ^ (n % 64) : Nat) : Int)]) ∧ ∃ q, w' = w.drewN q := by
  go_enter Tryd.func27, Tryd.ntmps27
  go_wp2
  go_quiet (fail)
  go_wp2
  go_ret2
  exact ⟨ret_bit (by omega) (wrap_pow n), nq, rfl⟩
set_option maxHeartbeats 400000 in
theorem cmp_walk (a w0 w1 w2 w3 : Nat) (t : Nat) (w : World) (ha : a < 100000) (ht : t < 100000) :
    Calls Tryd.prog 37 #[.agg #[.int .i64 a, .int .u64 w0, .int .u64 w1, .int .u64 w2, .int .u64 w3], .int .i64 t] w fun e w' => e = .returned (.int .i64 ((a : Int) - t)) ∧ Turn [] w w' := by
  go_enter Tryd.func37, Tryd.ntmps37
  go_wp2
  go_ret
  exact ⟨rfl, Turn.below (by go_grown)⟩

set_option maxHeartbeats 1000000 in
theorem or_walk (g o b w0 w1 w2 w3 v0 v1 v2 v3 x0 x1 x2 x3 : Nat) (w : World)
    (h0 : bits BinOp.or IntKind.u64 (w0 : Int) (v0 : Int) = x0) (h1 : bits BinOp.or IntKind.u64 (w1 : Int) (v1 : Int) = x1)
    (h2 : bits BinOp.or IntKind.u64 (w2 : Int) (v2 : Int) = x2) (h3 : bits BinOp.or IntKind.u64 (w3 : Int) (v3 : Int) = x3)
    (hg : g < w.heap.size)
    (c0 : w.cell? ⟨g, o + 1, none⟩ = some (.int .u64 w0)) (c1 : w.cell? ⟨g, o + 2, none⟩ = some (.int .u64 w1)) (c2 : w.cell? ⟨g, o + 3, none⟩ = some (.int .u64 w2)) (c3 : w.cell? ⟨g, o + 4, none⟩ = some (.int .u64 w3))
    (f0 : w.frozen? ⟨g, o + 1, none⟩ = false) (f1 : w.frozen? ⟨g, o + 2, none⟩ = false) (f2 : w.frozen? ⟨g, o + 3, none⟩ = false) (f3 : w.frozen? ⟨g, o + 4, none⟩ = false) :
    Calls Tryd.prog 45 #[.pointer (some ⟨g, o, none⟩), .agg #[.int .i64 b, .int .u64 v0, .int .u64 v1, .int .u64 v2, .int .u64 v3]] w
      fun e w' => e = .returned (.tuple #[]) ∧ w' = (((((w.setCell ⟨g, o + 1, none⟩ (.int .u64 x0)).setCell ⟨g, o + 2, none⟩ (.int .u64 x1)).setCell ⟨g, o + 3, none⟩ (.int .u64 x2)).setCell ⟨g, o + 4, none⟩ (.int .u64 x3)).alloc (.cells #[.int .i64 b, .int .u64 v0, .int .u64 v1, .int .u64 v2, .int .u64 v3] 46)).drewN 4 := by
  go_enter Tryd.func45, Tryd.ntmps45
  go_wp2_with fail
  refine wp_loop_rounds 5 ?_
  rw [rounds_succ]
  go_wp2
  go_region
  go_wp2
  rw [rounds_succ]
  go_wp2
  go_region
  go_wp2
  rw [rounds_succ]
  go_wp2
  go_region
  go_wp2
  rw [rounds_succ]
  go_wp2
  go_region
  go_wp2
  rw [rounds_succ]
  go_wp2
  go_end0
  exact ⟨rfl, rfl⟩

/-- The slice v is of the program's own making (from block B on) and holds the rows rs. -/
def OwnR (w : World) (B : Nat) (v : Value) (rs : List Row) : Prop := w.ownsRow B 46 5 v rs.length (rs.flatMap Row.cells)
theorem OwnR.turn {F : List Nat} {w w' : World} {B : Nat} {v : Value} {rs : List Row} (h : OwnR w B v rs) (t : Turn F w w') (hn : ∀ g, v.ownBlock = some g → g ∉ F) : OwnR w' B v rs := Turn.owns t h hn
theorem OwnR.turn' {w w' : World} {B : Nat} {v : Value} {rs : List Row} (h : OwnR w B v rs) (t : Turn [] w w') : OwnR w' B v rs := Turn.owns t h (by simp)
theorem OwnR.lt {w : World} {B : Nat} {v : Value} {rs : List Row} (h : OwnR w B v rs) : ∀ k, v.ownBlock = some k → B ≤ k ∧ k < w.heap.size := World.ownsRow.lt h
theorem OwnR.mono {w : World} {B B' : Nat} {v : Value} {rs : List Row} (h : OwnR w B v rs) (hB : B' ≤ B) : OwnR w B' v rs := ownsRow_mono h hB
theorem flat_cons (r : Row) (rs : List Row) : (r :: rs).flatMap Row.cells = .int .i64 r.at_ :: .int .u64 r.w0 :: .int .u64 r.w1 :: .int .u64 r.w2 :: .int .u64 r.w3 :: rs.flatMap Row.cells := rfl
theorem flat_length (rs : List Row) : (rs.flatMap Row.cells).length = rs.length * 5 := by
  induction rs with
  | nil => rfl
  | cons r t ih => rw [flat_cons]; simp only [List.length_cons, ih]; omega
theorem flat_get {rs : List Row} {i : Nat} {r : Row} (h : rs[i]? = some r) (j : Nat) (hj : j < 5) : (rs.flatMap Row.cells)[i * 5 + j]? = r.cells[j]? := by
  induction rs generalizing i with
  | nil => simp at h
  | cons s t ih =>
    cases i with
    | zero =>
      simp at h
      subst h
      rw [flat_cons]
      match j, hj with
      | 0, _ => rfl
      | 1, _ => rfl
      | 2, _ => rfl
      | 3, _ => rfl
      | 4, _ => rfl
    | succ i =>
      rw [flat_cons, show (i + 1) * 5 + j = (i * 5 + j) + 5 by omega]
      simp only [List.getElem?_cons_succ]
      exact ih (by simpa using h)
theorem flat_set {rs : List Row} {i : Nat} {r : Row} (h : rs[i]? = some r) (x0 x1 x2 x3 : Nat) :
    (((((rs.flatMap Row.cells).set (i * 5 + 1) (.int .u64 x0)).set (i * 5 + 2) (.int .u64 x1)).set (i * 5 + 3) (.int .u64 x2)).set (i * 5 + 4) (.int .u64 x3)) = (rs.set i ⟨r.at_, x0, x1, x2, x3⟩).flatMap Row.cells := by
  induction rs generalizing i with
  | nil => simp at h
  | cons s t ih =>
    cases i with
    | zero =>
      simp at h
      subst h
      simp only [List.set_cons_zero, flat_cons]
      rfl
    | succ i =>
      rw [List.set_cons_succ, flat_cons, flat_cons, ← ih (by simpa using h)]
      rw [show (i + 1) * 5 + 1 = (i * 5 + 1) + 5 by omega, show (i + 1) * 5 + 2 = (i * 5 + 2) + 5 by omega, show (i + 1) * 5 + 3 = (i * 5 + 3) + 5 by omega, show (i + 1) * 5 + 4 = (i * 5 + 4) + 5 by omega]
      simp only [List.set_cons_succ]
/-- The cells of a row among the rows. -/
theorem OwnR.cells {w : World} {B g n cap : Nat} {rs : List Row} (h : OwnR w B (.slice (some ⟨g, 0, none⟩) n cap) rs) (hn : n = rs.length) {i : Nat} {r : Row} (hr : rs[i]? = some r) :
    w.cell? ⟨g, i * 5, none⟩ = some (.int .i64 r.at_) ∧ w.cell? ⟨g, i * 5 + 1, none⟩ = some (.int .u64 r.w0) ∧ w.cell? ⟨g, i * 5 + 2, none⟩ = some (.int .u64 r.w1) ∧ w.cell? ⟨g, i * 5 + 3, none⟩ = some (.int .u64 r.w2) ∧ w.cell? ⟨g, i * 5 + 4, none⟩ = some (.int .u64 r.w3) := by
  subst hn
  have hi : i < rs.length := (List.getElem?_eq_some_iff.1 hr).1
  have c := fun j (hj : j < 5) => (World.ownsRow.cellAt (cap := cap) h (i * 5 + j) (by omega)).trans (flat_get hr j hj)
  exact ⟨c 0 (by omega), c 1 (by omega), c 2 (by omega), c 3 (by omega), c 4 (by omega)⟩
theorem OwnR.frozen {w : World} {B g n cap : Nat} {rs : List Row} (h : OwnR w B (.slice (some ⟨g, 0, none⟩) n cap) rs) (hn : n = rs.length) (j : Nat) : w.frozen? ⟨g, j, none⟩ = false := by
  subst hn
  exact World.ownsRow.frozenAt (cap := cap) h j
def Row.or_ (r s : Row) : Row := ⟨r.at_, r.w0 ||| s.w0, r.w1 ||| s.w1, r.w2 ||| s.w2, r.w3 ||| s.w3⟩
theorem Turn.stored {F : List Nat} {w w' : World} {g : Nat} (h : w.grownBy w' (some g)) (hg : g ∈ F) : Turn F w w' := (Turn.refl F w).grown h (fun k hk => .inl (by injection hk with e; exact e ▸ hg))
theorem or_any (B g n cap i : Nat) (rs : List Row) (r s : Row) (w : World) (h : OwnR w B (.slice (some ⟨g, 0, none⟩) n cap) rs) (hn : n = rs.length) (hr : rs[i]? = some r) (fr : r.Fits) (fs : s.Fits) :
    Calls Tryd.prog 45 #[.pointer (some ⟨g, i * 5, none⟩), s.val] w fun e w' => e = .returned (.tuple #[]) ∧ OwnR w' B (.slice (some ⟨g, 0, none⟩) n cap) (rs.set i (r.or_ s)) ∧ Turn [g] w w' := by
  obtain ⟨_, c0, c1, c2, c3⟩ := h.cells hn hr
  have hg := (h.lt g rfl).2
  refine (or_walk g (i * 5) s.at_ r.w0 r.w1 r.w2 r.w3 s.w0 s.w1 s.w2 s.w3 _ _ _ _ w (u64_or_nat _ _ fr.b0 fs.b0) (u64_or_nat _ _ fr.b1 fs.b1) (u64_or_nat _ _ fr.b2 fs.b2) (u64_or_nat _ _ fr.b3 fs.b3) hg c0 c1 c2 c3
    (h.frozen hn _) (h.frozen hn _) (h.frozen hn _) (h.frozen hn _)).mono ?_
  rintro e w' ⟨rfl, rfl⟩
  subst hn
  obtain ⟨s1, t1⟩ := World.ownsRow.stored (cap := cap) h (i * 5 + 1) (.int .u64 ((r.w0 ||| s.w0 : Nat) : Int))
  obtain ⟨s2, t2⟩ := World.ownsRow.stored (cap := cap) s1 (i * 5 + 2) (.int .u64 ((r.w1 ||| s.w1 : Nat) : Int))
  obtain ⟨s3, t3⟩ := World.ownsRow.stored (cap := cap) s2 (i * 5 + 3) (.int .u64 ((r.w2 ||| s.w2 : Nat) : Int))
  obtain ⟨s4, t4⟩ := World.ownsRow.stored (cap := cap) s3 (i * 5 + 4) (.int .u64 ((r.w3 ||| s.w3 : Nat) : Int))
  rw [flat_set hr] at s4
  have tt : Turn [g] w _ := (((Turn.stored (F := [g]) t1 (by simp)).trans (Turn.stored (F := [g]) t2 (by simp)) (by simp)).trans (Turn.stored (F := [g]) t3 (by simp)) (by simp)).trans (Turn.stored (F := [g]) t4 (by simp)) (by simp)
  refine ⟨rfl, ?_, (tt.alloc _).drewN 4⟩
  refine OwnR.turn' (w := _) ?_ (((Turn.refl [] _).alloc _).drewN 4)
  unfold OwnR
  rw [List.length_set]
  exact s4
end Go.Proofs.YtclofjlonncnlaaDoor
