/- The queue's methods: New, Has, Len, List, Next, Put. -/
import Derived.Test.YtchccoolnelohaaQu
set_option linter.unusedSimpArgs false
set_option linter.unusedVariables false
namespace Go.Proofs.Ytchccoolnelohaa
open Go.RowKit Go.Maps

/-- A line: each number once, and all may be in a queue. -/
def Ok (l : List Int) : Prop := l.Nodup ∧ ∀ x ∈ l, 0 ≤ x ∧ x < 1048576
/-- Block b is a queue whose line is l, all of it within the blocks F. -/
def Qu (w : World) (b : Nat) (F : List Nat) (l : List Int) : Prop := Q2 w b F l l ∧ Ok l

theorem Qu.turn {F G : List Nat} {w w' : World} {b : Nat} {l : List Int} (h : Qu w b F l) (t : Turn G w w') (hn : ∀ g ∈ F, g ∉ G) : Qu w' b F l := ⟨h.1.turn t hn, h.2⟩
theorem Qu.turn' {F : List Nat} {w w' : World} {b : Nat} {l : List Int} (h : Qu w b F l) (t : Turn [] w w') : Qu w' b F l := ⟨h.1.turn' t, h.2⟩
theorem Qu.fl {F : List Nat} {w : World} {b : Nat} {l : List Int} (h : Qu w b F l) : ∀ g ∈ F, g < w.heap.size := by
  obtain ⟨⟨M, V, h⟩, _⟩ := h
  exact h.fl

/-- One number put. -/
def put1 (l : List Int) (x : Int) : List Int := if okQ l x = true then l ++ [x] else l
/-- Numbers put, one behind the other. -/
def putL (l ns : List Int) : List Int := ns.foldl put1 l
def cnt (l ns : List Int) : Nat := (putL l ns).length - l.length
theorem inL_mem {l : List Int} {x : Int} : inL l x = true ↔ x ∈ l := by
  unfold inL
  rw [List.contains_eq_mem]
  simp
theorem inL_not {l : List Int} {x : Int} : inL l x = false ↔ x ∉ l := by
  unfold inL
  rw [List.contains_eq_mem]
  simp
theorem put1_yes {l : List Int} {x : Int} (h : okQ l x = true) : put1 l x = l ++ [x] := if_pos h
theorem put1_no {l : List Int} {x : Int} (h : okQ l x = false) : put1 l x = l := if_neg (by simp [h])
theorem okQ_parts {l : List Int} {x : Int} (h : okQ l x = true) : 0 ≤ x ∧ x < 1048576 ∧ x ∉ l := by
  unfold okQ at h
  simp at h
  exact ⟨h.1.1, h.1.2, inL_not.1 h.2⟩
theorem okQ_of {l : List Int} {x : Int} (h0 : 0 ≤ x) (h1 : x < 1048576) (h2 : x ∉ l) : okQ l x = true := by
  unfold okQ
  rw [inL_not.2 h2]
  simp [h0, h1]
theorem okQ_in {l : List Int} {x : Int} (h2 : x ∈ l) : okQ l x = false := by
  unfold okQ
  rw [inL_mem.2 h2]
  simp
theorem Ok.snoc {l : List Int} {x : Int} (h : Ok l) (hx : okQ l x = true) : Ok (l ++ [x]) := by
  obtain ⟨h0, h1, h2⟩ := okQ_parts hx
  refine ⟨?_, ?_⟩
  · rw [List.nodup_append]
    refine ⟨h.1, by simp, ?_⟩
    intro a ha b hb
    simp at hb
    subst hb
    exact fun e => h2 (e ▸ ha)
  · intro y hy
    rcases List.mem_append.1 hy with hy | hy
    · exact h.2 y hy
    · simp at hy
      subst hy
      exact ⟨h0, h1⟩
theorem Ok.put1 {l : List Int} {x : Int} (h : Ok l) : Ok (put1 l x) := by
  unfold Ytchccoolnelohaa.put1
  split
  · exact h.snoc (by assumption)
  · exact h
theorem Ok.tail {l : List Int} {x : Int} (h : Ok (x :: l)) : Ok l := ⟨(List.nodup_cons.1 h.1).2, fun y hy => h.2 y (List.mem_cons_of_mem _ hy)⟩
theorem Ok.nil : Ok [] := ⟨List.nodup_nil, by simp⟩
theorem put1_le (l : List Int) (x : Int) : l.length ≤ (put1 l x).length ∧ (put1 l x).length ≤ l.length + 1 := by
  unfold put1
  split <;> simp
theorem putL_le (ns : List Int) : ∀ l : List Int, l.length ≤ (putL l ns).length ∧ (putL l ns).length ≤ l.length + ns.length := by
  induction ns with
  | nil => intro l; simp [putL]
  | cons x ns ih =>
    intro l
    have h1 := ih (put1 l x)
    have h2 := put1_le l x
    have e : putL l (x :: ns) = putL (put1 l x) ns := rfl
    rw [e, List.length_cons]
    omega
theorem putL_snoc (l ns : List Int) (x : Int) : putL l (ns ++ [x]) = put1 (putL l ns) x := by
  unfold putL
  rw [List.foldl_append]
  rfl
theorem putL_take {l ns : List Int} {k : Nat} {x : Int} (h : ns[k]? = some x) : putL l (ns.take (k + 1)) = put1 (putL l (ns.take k)) x := by
  rw [take_snoc h, putL_snoc]

theorem Ints.off {w w' : World} {F : List Nat} {A : Option Addr} {l : List Int} (h : Ints w A l) (t : Turn F w w') (hn : ∀ a, A = some a → a.block ∉ F) : Ints w' A l := fun k y hy => by
  obtain ⟨g, off, e, hlt, hc⟩ := h k y hy
  exact ⟨g, off, e, Nat.lt_of_lt_of_le hlt t.size, (t.cell (p := ⟨g, off + k, none⟩) hlt (hn ⟨g, off, none⟩ e)).trans hc⟩

theorem new_any (w : World) : Calls Try.prog 8 #[] w fun e w' => ∃ b, e = .returned (.pointer (some ⟨b, 0, none⟩)) ∧ Qu w' b [b] [] ∧ w.heap.size ≤ b ∧ Turn [] w w' := by
  go_enter Try.func8, Try.ntmps8
  go_wp2_with fail
  go_ret
  refine ⟨w.heap.size, rfl, ⟨⟨.map none, .slice none 0 0, heap_alloc_new w _, by simp, by simp, .inl ⟨rfl, rfl⟩, .inl ⟨rfl, rfl⟩, by simp, by simp [Value.ownBlock]⟩, Ok.nil⟩, Nat.le_refl _, (Turn.refl _ _).alloc _⟩

theorem has_any (b : Nat) (F : List Nat) (l : List Int) (x : Int) (w : World) (h : Qu w b F l) (hx : (Lit.int .i64 x).wf = true) :
    Calls Try.prog 15 #[.pointer (some ⟨b, 0, none⟩), .int .i64 x] w fun e w' => e = .returned (.bool (inL l x)) ∧ Turn [] w w' := by
  have H := Lib.hid h
  have HX := Lib.hid hx
  clear h hx
  go_enter Try.func15, Try.ntmps15
  go_wp2_with fail
  refine (holds_any b F l l x _ H.out.1 HX.out).mono ?_
  rintro e w1 ⟨rfl, ht⟩
  have HT := Lib.hid ht
  clear ht
  go_wp2_with fail
  go_ret
  exact ⟨ret_bool (by simp), HT.out⟩

theorem len_any (b : Nat) (F : List Nat) (l : List Int) (w : World) (h : Qu w b F l) :
    Calls Try.prog 12 #[.pointer (some ⟨b, 0, none⟩)] w fun e w' => e = .returned (.int .i64 (l.length : Int)) ∧ w = w' := by
  have H := Lib.hid h
  clear h
  go_enter Try.func12, Try.ntmps12
  go_wp2_with fail
  refine (length_any b F l l _ H.out.1).mono ?_
  rintro e w1 ⟨rfl, rfl⟩
  go_wp2_with fail
  go_ret
  exact ⟨rfl, rfl⟩

theorem list_any (b : Nat) (F : List Nat) (l : List Int) (w : World) (h : Qu w b F l) (hl : l.length ≤ 1000000) :
    Calls Try.prog 14 #[.pointer (some ⟨b, 0, none⟩)] w fun e w' => ∃ v, e = .returned v ∧ OwnI w' w.heap.size v l ∧ Turn [] w w' := by
  have H := Lib.hid h
  clear h
  go_enter Try.func14, Try.ntmps14
  go_wp2_with fail
  refine (all_any b F l l _ H.out.1 hl).mono ?_
  rintro e w1 ⟨v, rfl, ho, ht⟩
  have HO := Lib.hid ho
  have HT := Lib.hid ht
  clear ho ht
  go_wp2_with fail
  go_ret
  exact ⟨_, rfl, HO.out, HT.out⟩

theorem next_none (b : Nat) (F : List Nat) (w : World) (h : Qu w b F []) :
    Calls Try.prog 9 #[.pointer (some ⟨b, 0, none⟩)] w fun e w' => e = .returned (.tuple #[.int .i64 0, .bool false]) ∧ w = w' := by
  have H := Lib.hid h
  clear h
  go_enter Try.func9, Try.ntmps9
  go_wp2_with fail
  refine (len_any b F [] _ H.out).mono ?_
  rintro e w1 ⟨rfl, rfl⟩
  go_wp2_with fail
  go_ret2
  exact ⟨rfl, rfl⟩

theorem next_some (b : Nat) (F : List Nat) (x : Int) (l : List Int) (w : World) (h : Qu w b F (x :: l)) (hl : l.length ≤ 1000000) :
    Calls Try.prog 9 #[.pointer (some ⟨b, 0, none⟩)] w fun e w' => e = .returned (.tuple #[.int .i64 x, .bool true]) ∧ Qu w' b F l ∧ Turn F w w' := by
  have H := Lib.hid h
  clear h
  have d : (((l.length + 1 : Nat) : Int) == 0) = false := by simp; omega
  have d' : ((l.length : Int) + 1 == 0) = false := by simp; omega
  go_enter Try.func9, Try.ntmps9
  go_wp2_with fail
  refine (len_any b F (x :: l) _ H.out).mono ?_
  rintro e w1 ⟨rfl, rfl⟩
  rw [List.length_cons]
  go_wp2_with fail
  refine (first_any b F (x :: l) l x _ H.out.1 (by omega)).mono ?_
  rintro e w1 ⟨rfl, hq1, ht1⟩
  have HQ1 := Lib.hid hq1
  have HT1 := Lib.hid ht1
  clear hq1 ht1
  go_wp2_with fail
  refine (leave_any b F l l x _ HQ1.out (inL_not.2 (List.nodup_cons.1 H.out.2.1).1) (wf_small (H.out.2.2 x (by simp)).1 (H.out.2.2 x (by simp)).2)).mono ?_
  rintro e w2 ⟨rfl, hq2, ht2⟩
  have HQ2 := Lib.hid hq2
  have HT2 := Lib.hid (HT1.out.trans ht2 (fun g hg => .inl hg))
  clear hq2 ht2
  go_wp2_with fail
  go_ret2
  exact ⟨rfl, ⟨HQ2.out, H.out.2.tail⟩, HT2.out⟩

set_option maxHeartbeats 1000000 in
theorem put_any (b : Nat) (F : List Nat) (l ns : List Int) (A : Option Addr) (c : Nat) (w : World) (h : Qu w b F l) (hA : Ints w A ns) (hd : ∀ a, A = some a → a.block ∉ F) (hl : l.length + ns.length ≤ 1000000) :
    Calls Try.prog 11 #[.pointer (some ⟨b, 0, none⟩), .slice A ns.length c] w fun e w' => e = .returned (.int .i64 (cnt l ns : Int)) ∧ ∃ F', Qu w' b F' (putL l ns) ∧ Foot w.heap.size F F' ∧ Turn F w w' := by
  have H := Lib.hid h
  have HA := Lib.hid hA
  have HD := Lib.hid hd
  clear h hA hd
  generalize hn : ns.length = n at *
  have HN := Lib.hid hn
  clear hn
  go_enter Try.func11, Try.ntmps11
  go_wp2_with fail
  go_loopw [5, 12] (fun t i wr => ∃ k q : Nat, k ≤ n ∧ q ≤ k ∧ t = .int .i64 (q : Int) ∧ i = .int .i64 (k : Int) ∧ Hid ((putL l (ns.take k)).length = l.length + q) ∧ Hid (∃ F', Qu wr b F' (putL l (ns.take k)) ∧ Foot w.heap.size F F') ∧ Hid (Turn F w wr)) (fun _ i _ => n - (intOf i).toNat)
  case atStart => exact ⟨0, 0, Nat.zero_le _, Nat.le_refl _, rfl, rfl, Lib.hid (by simp [putL]), Lib.hid ⟨F, by simpa [putL] using H.out, Foot.refl _ _⟩, Lib.hid (Turn.refl _ _)⟩
  case round =>
    obtain ⟨k, q, hk, hqk, rfl, rfl, HC, HE, HT⟩ := hrel
    by_cases hlt : k < n
    · obtain ⟨y, hy⟩ := at_lt (show k < ns.length by have := HN.out; omega)
      obtain ⟨g, off, rfl, hg, hcell⟩ := (HA.out.off HT.out HD.out) k y hy
      have HY := Lib.hid hy
      clear hy
      obtain ⟨F1, hq1, hf1⟩ := HE.out
      have HQ1 := Lib.hid hq1
      have HF1 := Lib.hid hf1
      have HL : Hid ((putL l (ns.take k)).length ≤ 1000000) := Lib.hid (by have := HC.out; omega)
      clear hq1 hf1
      cases hok : okQ (putL l (ns.take k)) y
      · have HK := Lib.hid hok
        clear hok
        go_wp2_with fail
        refine (enter_no b F1 _ _ y _ HQ1.out.1 HK.out).mono ?_
        rintro e w1 ⟨rfl, ht1⟩
        have HQ2 := Lib.hid (HQ1.out.turn' ht1)
        have HT2 := Lib.hid (HT.out.trans' ht1)
        clear ht1
        go_wp2_with fail
        go_roundw
        case rel => exact ⟨k + 1, q, by omega, by omega, rfl, by go_num, Lib.hid (by rw [putL_take HY.out, put1_no HK.out]; exact HC.out), Lib.hid ⟨F1, by rw [putL_take HY.out, put1_no HK.out]; exact HQ2.out, HF1.out⟩, HT2⟩
        case measure => simp [intOf]; omega
      · have HK := Lib.hid hok
        clear hok
        go_wp2_with fail
        refine (enter_yes b F1 _ _ y _ HQ1.out.1 HK.out (by have := HL.out; omega)).mono ?_
        rintro e w1 ⟨rfl, F2, hq2, hf2, ht2⟩
        have HQ2 := Lib.hid hq2
        have HF2 := Lib.hid (HF1.out.trans hf2 HT.out.size)
        have HT2 := Lib.hid (HT.out.trans ht2 HF1.out)
        clear hq2 hf2 ht2
        go_wp2_with fail
        refine (stand_any b F2 _ _ y _ HQ2.out (by have := HL.out; omega)).mono ?_
        rintro e w3 ⟨rfl, F3, hq3, hf3, ht3⟩
        have HQ3 := Lib.hid hq3
        have HF3 := Lib.hid (HF2.out.trans hf3 HT2.out.size)
        have HT3 := Lib.hid (HT2.out.trans ht3 HF2.out)
        clear hq3 hf3 ht3
        go_wp2_with fail
        go_roundw
        case rel => exact ⟨k + 1, q + 1, by omega, by omega, by go_num, by go_num, Lib.hid (by rw [putL_take HY.out, put1_yes HK.out, List.length_append, HC.out]; simp; omega), Lib.hid ⟨F3, by rw [putL_take HY.out, put1_yes HK.out]; exact ⟨HQ3.out, HQ1.out.2.snoc HK.out⟩, HF3.out⟩, HT3⟩
        case measure => simp [intOf]; omega
    · have HC2 : Hid ((putL l ns).length = l.length + q ∧ ∃ F', Qu wr b F' (putL l ns) ∧ Foot w.heap.size F F') := Lib.hid (by
        have h1 := HC.out
        have h2 := HE.out
        rw [List.take_of_length_le (by have := HN.out; omega)] at h1 h2
        exact ⟨h1, h2⟩)
      go_wp2_with fail
      go_ret
      refine ⟨ret_int ?_, HC2.out.2.elim (fun F' hh => ⟨F', hh.1, hh.2, HT.out⟩)⟩
      have := HC2.out.1
      unfold cnt
      omega
end Go.Proofs.Ytchccoolnelohaa
