/- Tuples made and taken apart: tupleOf, thing, count, all. -/
import Derived.Test.YtepkpllfdfbmiaaTb
set_option linter.unusedSimpArgs false
set_option linter.unusedVariables false
namespace Go.Proofs.Ytepkpllfdfbmiaa
open Go.RowKit Go.Maps

theorem wpList_store61 {ops : Array Oper} {rest : List Oper} {o : Oper} {a : Act} {Q : Exit → Act → World → Prop} (w : World) (hg : o.guard = none) (p x : Operand) (hop : o.op = Op.store 61 p x) (g : Nat) (t u : List Int) (X : Value) (hp : a.eval p = .pointer (some ⟨g, 0, none⟩)) (hx : a.eval x = X) (hX : X = tV u)
    (hv : Vr w g t) (hu : u.length = 9) (hK : ∀ w', Vr w' g u → Turn [g] w w' → wpList Try.prog ops Q rest (a.put o.dst undef) w') : wpList Try.prog ops Q (o :: rest) a w := by
  refine wpList_plain hg fun K' hK' => ?_
  subst hX
  obtain ⟨h1, h2⟩ := hv.store hu
  unfold Oper.wp
  simp [execOp, hop, hp, hx, h1, Result.andThen]
  exact hK' _ _ (hK _ h2 ((Turn.refl [g] w).setRow (.inl (by simp)) _))

set_option maxHeartbeats 800000 in
theorem tupleOf_no (A : Option Addr) (n c : Nat) (w : World) (hn : 8 < n) :
    Calls Try.prog 28 #[.slice A n c] w fun e w' => e = .returned (.tuple #[tV zeroT, .bool false]) ∧ Turn [] w w' := by
  have d : decide ((8 : Int) < (n : Int)) = true := by simp; omega
  have d' : decide (8 < n) = true := by simp; omega
  go_enter Try.func28, Try.ntmps28
  go_wp2_with fail
  refine bodyPost_ret (v := .tuple #[tV zeroT, .bool false]) (by simp [results, Try.results28, go_sem, tV, tC, zeroT]) rfl ⟨rfl, ?_⟩
  exact (Turn.refl _ _).alloc _

theorem size3 : (Try.prog.info? 3).map (·.size) = some 1 := by kernel_rfl
/-- copy of some numbers into a tuple's own. -/
theorem copy_tup (W : World) (g : Nat) (ns : List Int) (A : Option Addr) (c : Nat) (ty : TypeId) (hn : ns.length ≤ 8) (hA : Ints W A ns) (hg : Vr W g [(ns.length : Int), 0, 0, 0, 0, 0, 0, 0, 0]) (hnil : A = none → ns.length = 0 ∧ c = 0) :
    ∃ W', (Builtin.copy_ #[23, 23] ty #[.slice (some ⟨g, 1, none⟩) 8 8, .slice A ns.length c]).run Try.prog W = .ok (goInt ns.length) W' ∧ Vr W' g (tup ns) ∧ Turn [g] W W' := by
  cases A with
  | none =>
    obtain ⟨h0, rfl⟩ := hnil rfl
    have e : ns = [] := List.eq_nil_of_length_eq_zero h0
    subst e
    exact ⟨W, run_copy_nil Try.prog W 23 23 ty 3 ⟨g, 1, none⟩ 8 8 Try.underlying23 (by rw [size3]; rfl), hg, Turn.refl _ _⟩
  | some ad =>
    have hsrc : ∀ (j : Nat) (v : Value), (ns.map (Value.int .i64))[j]? = some v → W.cell? (ad.add j) = some v := by
      intro j v hv
      rw [List.getElem?_map] at hv
      cases hy : ns[j]? with
      | none => rw [hy] at hv; cases hv
      | some y =>
        rw [hy] at hv
        injection hv with hv
        subst hv
        obtain ⟨b, off, e, _, hc⟩ := hA j y hy
        cases e
        rw [Addr.add_lit]
        exact hc
    have hr := run_copy_row Try.prog W 23 23 ty 3 g 1 8 8 ad ns.length c _ 61 (ns.map (Value.int .i64)) Try.underlying23 size3 hg.2 (by rw [List.length_map]; exact (Nat.min_eq_left hn).symm) hsrc (by rw [tC_size]; simp; omega) (fun v hv => by
      obtain ⟨y, _, rfl⟩ := List.mem_map.1 hv
      rfl)
    have e : (List.take 1 (tC [(ns.length : Int), 0, 0, 0, 0, 0, 0, 0, 0]).toList ++ ns.map (Value.int .i64) ++ List.drop (1 + (ns.map (Value.int .i64)).length) (tC [(ns.length : Int), 0, 0, 0, 0, 0, 0, 0, 0]).toList).toArray = tC (tup ns) := by
      have e0 : (tC [(ns.length : Int), 0, 0, 0, 0, 0, 0, 0, 0]).toList = Value.int .i64 (ns.length : Int) :: List.replicate 8 (Value.int .i64 0) := by simp [tC, List.replicate]
      rw [e0, List.length_map, Nat.add_comm 1, List.drop_succ_cons, List.drop_replicate]
      simp [tC, tup]
    rw [e, List.length_map] at hr
    exact ⟨_, hr, ⟨tup_length hn, setRow_heap W g _ _ 61 _ hg.2⟩, (Turn.refl _ _).setRow (.inl (by simp)) _⟩

set_option maxHeartbeats 1600000 in
theorem tupleOf_yes (A : Option Addr) (ns : List Int) (c : Nat) (w : World) (hA : Ints w A ns) (hn : ns.length ≤ 8) (hnil : A = none → ns.length = 0 ∧ c = 0) :
    Calls Try.prog 28 #[.slice A ns.length c] w fun e w' => e = .returned (.tuple #[tV (tup ns), .bool true]) ∧ Turn [] w w' := by
  have d : decide ((8 : Int) < (ns.length : Int)) = false := by simp; omega
  have d' : decide (8 < ns.length) = false := by simp; omega
  obtain ⟨W, hW⟩ : ∃ W, (w.alloc (.cells #[.int .i64 0, .int .i64 0, .int .i64 0, .int .i64 0, .int .i64 0, .int .i64 0, .int .i64 0, .int .i64 0, .int .i64 0] 61)).alloc (.cells #[.int .i64 (ns.length : Int), .int .i64 0, .int .i64 0, .int .i64 0, .int .i64 0, .int .i64 0, .int .i64 0, .int .i64 0, .int .i64 0] 61) = W := ⟨_, rfl⟩
  have t0 : Turn [] w W := by rw [← hW]; exact ((Turn.refl [] w).alloc _).alloc _
  have v0 : Vr W w.heap.size zeroT := by
    rw [← hW]
    exact (Vr.box w (t := zeroT) rfl).turn ((Turn.refl [] _).alloc _) (by simp)
  have v1 : Vr W (w.heap.size + 1) [(ns.length : Int), 0, 0, 0, 0, 0, 0, 0, 0] := by
    rw [← hW]
    have := Vr.box (w.alloc (.cells #[.int .i64 0, .int .i64 0, .int .i64 0, .int .i64 0, .int .i64 0, .int .i64 0, .int .i64 0, .int .i64 0, .int .i64 0] 61)) (t := [(ns.length : Int), 0, 0, 0, 0, 0, 0, 0, 0]) rfl
    rw [World.size_alloc] at this
    exact this
  obtain ⟨W3, hcp, v3, t3⟩ := copy_tup W (w.heap.size + 1) ns A c 3 hn (hA.below t0) v1 hnil
  have v4 : Vr W3 w.heap.size zeroT := v0.turn t3 (by simp)
  have T3 : Turn [] w W3 := t0.trans t3 (by simp)
  have h9 := tup_length hn
  obtain ⟨b0, b1, b2, b3, b4, b5, b6, b7, b8, hb⟩ := nine h9
  rw [hb] at v3
  obtain ⟨d0, d1, d2, d3, d4, d5, d6, d7, d8⟩ := v3.nine
  have HV4 := Lib.hid v4
  have HT3 := Lib.hid T3
  have HB := Lib.hid hb
  have HW := Lib.hid hW
  clear v0 v1 v3 t3 t0 h9 hnil hA hb v4 T3 hW
  go_enter Try.func28, Try.ntmps28
  go_upto_region 4 with (fail)
  rw [HW.out]
  go_wp2_with (refine wpList_store61 W3 rfl (.tmp 2) (.tmp 16) rfl w.heap.size zeroT [b0, b1, b2, b3, b4, b5, b6, b7, b8] _ rfl rfl rfl HV4.out rfl ?_; intro w5 hv5 ht5)
  have T5 := HT3.out.trans ht5 (by simp)
  obtain ⟨x0, x1, x2, x3, x4, x5, x6, x7, x8⟩ := hv5.nine
  refine bodyPost_ret (v := .tuple #[tV (tup ns), .bool true]) (by rw [HB.out]; simp [results, Try.results28, go_sem, tV, tC, x0, x1, x2, x3, x4, x5, x6, x7, x8]) rfl ⟨rfl, T5⟩
end Go.Proofs.Ytepkpllfdfbmiaa
