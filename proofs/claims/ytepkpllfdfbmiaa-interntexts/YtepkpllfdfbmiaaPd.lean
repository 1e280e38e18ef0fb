/- append of so many noughts; the document's example; InternPads walked. -/
import Derived.Test.YtepkpllfdfbmiaaMe
import Derived.Lib.AppendZerosOnto
import Derived.Lib.AppendZeros
set_option linter.unusedSimpArgs false
set_option linter.unusedVariables false
namespace Go.Proofs.Ytepkpllfdfbmiaa
open Go.RowKit Go.Maps

theorem zero_ints (k : Nat) : (Builtin.zeroCells (Value.int .i64 0).cells k).toList = (List.replicate k (0 : Int)).map (Value.int .i64) := by
  apply List.ext_getElem
  · simp [size_zeroCells, Value.cells]
  · intro j h1 h2
    simp [Builtin.zeroCells, Value.cells, Nat.mod_one]

/-- append of k noughts (k at least one) onto a slice of the program's own. -/
theorem append_zeros (W : World) (B : Nat) (ty : TypeId) (v : Value) (l : List Int) (k : Nat) (hk : 0 < k) (h : OwnI W B v l) (hl : l.length + k ≤ 100000) (hB : B ≤ W.heap.size) :
    ∃ v' w', (Builtin.append_ #[23, 3] ty #[v, .int .i64 k]).run Try.prog W = .ok v' w' ∧ OwnI w' B v' (l ++ List.replicate k 0) ∧ Turn v.ownBlock.toList W w' := by
  obtain ⟨i0, hi0, hz0, hz1, hz2⟩ := info_parts int_info
  have hw : IntKind.i64.wrap (k : Int) = k := by rw [IntKind.wrap_i64]; omega
  have hneg : ¬ ((k : Int) < 0) := by omega
  have hk0 : ¬ k = 0 := by omega
  have h48 : ¬ (281474976710656 < (k : Int) * ((i0.bytes : Nat) : Int)) := by rw [hz2]; omega
  have hmap : (l ++ List.replicate k 0).map (Value.int .i64) = l.map (Value.int .i64) ++ (List.replicate k (0 : Int)).map (Value.int .i64) := List.map_append
  have hlen : (l ++ List.replicate k 0).length = l.length + k := by simp
  rcases h.2 with ⟨rfl, hn⟩ | ⟨g, cap, cur, rfl, hBg, hg, hnc, hcm, hcs, htake⟩
  · have e : l = [] := List.eq_nil_of_length_eq_zero hn
    subst e
    have hr := Lib.run_append_nil_zeros (P := Try.prog) W 23 3 ty 3 i0 _ .i64 .i64 Try.underlying23 Try.underlying3 hi0 hz0 k (by omega) (by omega) (by omega) (by rw [hz2]; omega)
    refine ⟨_, _, hr, ?_, ((Turn.refl _ _).drew).alloc _⟩
    unfold OwnI
    rw [List.nil_append, List.length_replicate]
    refine ⟨by simp, .inr ⟨W.heap.size, _, _, rfl, hB, heap_alloc_new W.drew _, grownCap_ge _ _ _ _, grownCap_le_maxLen _ _ _ _ (by unfold maxLen; omega), ?_, ?_⟩⟩
    · have := grownCap_ge W k 0 3
      simp only [Array.size_append, size_zeroCells, Value.cells]
      simp
      omega
    · rw [Array.toList_append, zero_ints, List.take_append_of_le_length (by simp), List.take_of_length_le (by simp)]
  · by_cases hroom : l.length + k ≤ cap
    · have hst := run_storeCells_at Try.prog g l.length 3 ((List.replicate k (0 : Int)).map (Value.int .i64)) 0 cur W hg (by simp; omega) (fun v hv => by
        obtain ⟨y, _, rfl⟩ := List.mem_map.1 hv
        rfl)
      have hz := zero_ints k
      refine ⟨.slice (some ⟨g, 0, none⟩) (l.length + k) cap, W.setRow g (cur.toList.take l.length ++ (List.replicate k (0 : Int)).map (Value.int .i64) ++ cur.toList.drop (l.length + ((List.replicate k (0 : Int)).map (Value.int .i64)).length)).toArray, ?_, ?_, (Turn.refl _ _).setRow (.inl (by simp [Value.ownBlock])) _⟩
      · simp only [Nat.add_zero] at hst
        simp [Builtin.append_, run_underlying Try.underlying23, run_underlying Try.underlying3, sizeOf, typeInfo, zeroValue, hi0, hz0, hz1, asInt, asIntOf, hw, hneg, h48, hroom, hk0, Addr.add_lit, hz, hst, -List.map_replicate]
      · unfold OwnI
        rw [hlen, hmap]
        refine ⟨by simp, .inr ⟨g, cap, _, rfl, hBg, setRow_heap W g _ _ 3 _ hg, hroom, hcm, ?_, ?_⟩⟩
        · rw [List.size_toArray]
          simp only [List.length_append, List.length_take, List.length_drop, Array.length_toList, List.length_map, List.length_replicate]
          omega
        · rw [Nat.mul_one] at htake
          rw [List.toList_toArray, htake, Nat.mul_one, List.take_append_of_le_length (by simp), List.take_of_length_le (by simp)]
    · have hold : (Builtin.firstCells i0.size l.length (.slice (some ⟨g, 0, none⟩) l.length cap)).run Try.prog W.drew = .ok (l.map (Value.int .i64)).toArray W.drew := by
        rw [hz1]
        refine run_firstCells_some W.drew 1 l.length ⟨g, 0, none⟩ l.length cap _ (by simp) (fun j u hj => ?_)
        rw [Addr.add_lit, Nat.zero_add]
        have hj' : j < l.length * 1 := by
          have := (List.getElem?_eq_some_iff.1 hj).1
          simpa using this
        exact (World.ownsRow.cellAt (cap := cap) h j hj').trans hj
      have hr := Lib.run_append_grow_zeros W 23 3 ty 3 i0 _ .i64 .i64 Try.underlying23 Try.underlying3 hi0 hz0 (some ⟨g, 0, none⟩) l.length cap _ hold k (by omega) (by omega) (by omega) (by omega) (by rw [hz2]; omega) (by rw [hz2]; exact growslice_fits (by omega) (by omega))
      refine ⟨_, _, hr, ?_, ((Turn.refl _ _).drew).alloc _⟩
      unfold OwnI
      rw [hlen, hmap]
      refine ⟨by simp, .inr ⟨W.heap.size, _, _, rfl, hB, heap_alloc_new W.drew _, grownCap_ge _ _ _ _, grownCap_le_maxLen _ _ _ _ (by unfold maxLen; omega), ?_, ?_⟩⟩
      · have := grownCap_ge W (l.length + k) cap 3
        simp only [Array.size_append, size_zeroCells, Value.cells, List.size_toArray]
        simp
        omega
      · rw [Array.toList_append, Array.toList_append, zero_ints, List.toList_toArray, List.take_append_of_le_length (by simp), List.take_of_length_le (by simp)]

theorem wpList_appZ {ops : Array Oper} {rest : List Oper} {o : Oper} {a : Act} {Q : Exit → Act → World → Prop} (hgd : o.guard = none) (s x : Operand)
    (ho : o.op = .call { callee := .builtin .append, args := #[s, x], argTypes := #[23, 3] }) (W : World) (B : Nat) (v : Value) (l : List Int) (k : Nat) (hk : 0 < k)
    (hs : a.eval s = v) (hx : a.eval x = .int .i64 k) (hown : OwnI W B v l) (hl : l.length + k ≤ 100000) (hB : B ≤ W.heap.size)
    (h : ∀ v' w', OwnI w' B v' (l ++ List.replicate k 0) → Turn v.ownBlock.toList W w' → wpList Try.prog ops Q rest (a.put o.dst v') w') : wpList Try.prog ops Q (o :: rest) a W := by
  obtain ⟨v', w', hr, h2, h3⟩ := append_zeros W B o.type v l k hk hown hl hB
  exact Lib.wpList_append_run W hgd s x 23 3 ho v _ hs hx v' w' hr (h v' w' h2 h3)

theorem Ints.one (w : World) (x : Int) : Ints (w.alloc (.cells #[.int .i64 x] 3)) (some ⟨w.heap.size, 0, none⟩) [x] := fun k z hz => by
  match k, hz with
  | 0, hz => simp at hz; subst hz; exact ⟨_, _, rfl, by simp, by simp⟩
theorem Ints.two (w : World) (x y : Int) : Ints (w.alloc (.cells #[.int .i64 x, .int .i64 y] 3)) (some ⟨w.heap.size, 0, none⟩) [x, y] := fun k z hz => by
  match k, hz with
  | 0, hz => simp at hz; subst hz; exact ⟨_, _, rfl, by simp, by simp⟩
  | 1, hz => simp at hz; subst hz; exact ⟨_, _, rfl, by simp, by simp⟩
theorem id_two (b : Nat) (F : List Nat) (Ns : List (List Int)) (S : List ByteArray) (x y : Int) (w : World) (h : Tt w b F Ns S) (hx : Wf [x, y]) (hl : Ns.length ≤ 1000000) :
    Calls Try.prog 8 #[.pointer (some ⟨b, 0, none⟩), .slice (some ⟨w.heap.size, 0, none⟩) 2 2] (w.alloc (.cells #[.int .i64 x, .int .i64 y] 3)) fun e w' => e = .returned (.int .i64 (idN Ns [x, y])) ∧ ∃ F', Tt w' b F' (idL Ns [x, y]) S ∧ Foot w.heap.size F F' ∧ Turn F w w' := by
  have ta := (Turn.refl [] w).alloc (.cells #[.int .i64 x, .int .i64 y] 3)
  refine (id_any b F Ns S (some ⟨w.heap.size, 0, none⟩) [x, y] 2 _ (h.turn' ta) ⟨Ints.two w x y, hx, fun e => by cases e⟩ hl).mono ?_
  rintro e w' ⟨rfl, F', hq, hf, ht⟩
  exact ⟨rfl, F', hq, (Foot.refl _ _).trans hf ta.size, (ta.more (G := F) (by simp)).trans ht (fun g hg => .inl hg)⟩
theorem id_one (b : Nat) (F : List Nat) (Ns : List (List Int)) (S : List ByteArray) (x : Int) (w : World) (h : Tt w b F Ns S) (hx : Wf [x]) (hl : Ns.length ≤ 1000000) :
    Calls Try.prog 8 #[.pointer (some ⟨b, 0, none⟩), .slice (some ⟨w.heap.size, 0, none⟩) 1 1] (w.alloc (.cells #[.int .i64 x] 3)) fun e w' => e = .returned (.int .i64 (idN Ns [x])) ∧ ∃ F', Tt w' b F' (idL Ns [x]) S ∧ Foot w.heap.size F F' ∧ Turn F w w' := by
  have ta := (Turn.refl [] w).alloc (.cells #[.int .i64 x] 3)
  refine (id_any b F Ns S (some ⟨w.heap.size, 0, none⟩) [x] 1 _ (h.turn' ta) ⟨Ints.one w x, hx, fun e => by cases e⟩ hl).mono ?_
  rintro e w' ⟨rfl, F', hq, hf, ht⟩
  exact ⟨rfl, F', hq, (Foot.refl _ _).trans hf ta.size, (ta.more (G := F) (by simp)).trans ht (fun g hg => .inl hg)⟩

theorem wf_two (x y : Int) (hx : (Lit.int .i64 x).wf = true) (hy : (Lit.int .i64 y).wf = true) : Wf [x, y] := by
  intro z hz
  simp at hz
  rcases hz with rfl | rfl
  · exact hx
  · exact hy

set_option maxRecDepth 100000 in
set_option maxHeartbeats 1000000 in
theorem awake_any (w : World) : Calls Try.prog 6 #[] w fun e w' => e = .returned (.bool true) ∧ Turn [] w w' := by
  go_enter Try.func6, Try.ntmps6
  go_wp2_with fail
  refine (new_any _).mono ?_
  rintro e w1 ⟨b, rfl, hq1, hb, ht1⟩
  have HQ1 := Lib.hid hq1
  have HT1 := Lib.hid ht1
  have HF1 : Hid (Foot w.heap.size [] [b]) := Lib.hid (fun g hg => .inr (by simp at hg; omega))
  clear hq1 ht1
  go_wp2_with fail
  refine (id_two b [b] [] [] 1 2 _ HQ1.out (wf_two 1 2 (by decide) (by decide)) (by simp)).mono ?_
  rw [show idN [] [1, 2] = 0 by decide, show idL [] [1, 2] = [[1, 2]] by decide]
  rintro e w2 ⟨rfl, F2, hq2, hf2, ht2⟩
  have HQ2 := Lib.hid hq2
  have HF2 := Lib.hid (HF1.out.trans hf2 HT1.out.size)
  have HT2 := Lib.hid (HT1.out.trans ht2 HF1.out)
  clear hq2 hf2 ht2 HQ1 HT1 HF1
  go_wp2_with fail
  refine (id_any b F2 [[1, 2]] [] none [] 0 _ HQ2.out ⟨Ints.nil _ _, by intro y hy; simp at hy, fun _ => ⟨rfl, rfl⟩⟩ (by simp)).mono ?_
  rw [show idN [[1, 2]] [] = 1 by decide, show idL [[1, 2]] [] = [[1, 2], []] by decide]
  rintro e w3 ⟨rfl, F3, hq3, hf3, ht3⟩
  have HQ3 := Lib.hid hq3
  have HF3 := Lib.hid (HF2.out.trans hf3 HT2.out.size)
  have HT3 := Lib.hid (HT2.out.trans ht3 HF2.out)
  clear hq3 hf3 ht3 HQ2 HT2 HF2
  go_wp2_with fail
  refine (id_two b F3 [[1, 2], []] [] 1 2 _ HQ3.out (wf_two 1 2 (by decide) (by decide)) (by simp)).mono ?_
  rw [show idN [[1, 2], []] [1, 2] = 0 by decide, show idL [[1, 2], []] [1, 2] = [[1, 2], []] by decide]
  rintro e w4 ⟨rfl, F4, hq4, hf4, ht4⟩
  have HQ4 := Lib.hid hq4
  have HF4 := Lib.hid (HF3.out.trans hf4 HT3.out.size)
  have HT4 := Lib.hid (HT3.out.trans ht4 HF3.out)
  clear hq4 hf4 ht4 HQ3 HT3 HF3
  go_wp2_with fail
  refine (id_two b F4 [[1, 2], []] [] 2 1 _ HQ4.out (wf_two 2 1 (by decide) (by decide)) (by simp)).mono ?_
  rw [show idN [[1, 2], []] [2, 1] = 2 by decide]
  rintro e w5 ⟨rfl, F5, hq5, hf5, ht5⟩
  have HT5 := Lib.hid (HT4.out.trans ht5 HF4.out)
  clear hq5 hf5 ht5 HQ4 HT4
  go_wp2_with fail
  go_ret
  exact ⟨rfl, HT5.out⟩
end Go.Proofs.Ytepkpllfdfbmiaa
