import Derived.Test.YtbocejiclellfaaGreatDoorQ04Eof

/- faultAt. -/
set_option linter.unusedSimpArgs false
set_option linter.unusedVariables false
set_option maxRecDepth 100000
namespace Go.Proofs.YtbocejiclellfaaGreatDoor
open Go.RowKit

theorem results_cell1 {fn : Func} {p : Tmp} {ty : TypeId} (h : fn.results = #[.cell p ty]) (tmps : Array Value) (P : Program) (w : World) :
    (results fn tmps).run P w = ((asAddr (tmps.getD p undef)).run P w).andThen fun a w₁ => (loadVar ty a).run P w₁ := by
  simp only [results, h]
  simp [Sem.run_bind, Result.andThen]
/-- A fault: what it is, and where. -/
def ftC (e p q : Int) : Array Value := #[.int .i64 e, .int .i64 p, .int .i64 q]
theorem sizeOf_fault (w : World) : (sizeOf 58).run Tryz.prog w = .ok 3 w := by kernel_rfl
theorem isAgg_fault (w : World) : (isAgg 58).run Tryz.prog w = .ok true w := by kernel_rfl
theorem load_fault {w : World} {g : Nat} {e p q : Int} (h : w.heap[g]? = some (.cells (ftC e p q) 58 (0, 0))) :
    (loadVar 58 ⟨g, 0, none⟩).run Tryz.prog w = .ok (.agg (ftC e p q)) w := by
  have hl := run_loadCells_list (P := Tryz.prog) w ⟨g, 0, none⟩ [.int .i64 e, .int .i64 p, .int .i64 q] (fun j v hv => by
    rw [Addr.add_lit, cell_of_row w g _ _ _ _ h, Nat.zero_add]
    simpa [ftC] using hv)
  simp only [List.length_cons, List.length_nil, Nat.zero_add, Nat.reduceAdd] at hl
  simp [loadVar, isAgg_fault, sizeOf_fault, hl, Result.andThen, ftC]
theorem ret_fault {w : World} {g : Nat} {e p q : Int} {tmps : Array Value} (h : w.heap[g]? = some (.cells (ftC e p q) 58 (0, 0))) (h2 : tmps.getD 2 undef = .pointer (some ⟨g, 0, none⟩)) :
    (results Tryz.f36 tmps).run Tryz.prog w = .ok (.agg (ftC e p q)) w := by
  rw [results_cell1 (p := 2) (ty := 58) rfl, h2]
  simp [asAddr, load_fault h, Result.andThen]

set_option maxHeartbeats 3200000 in
theorem faultAt_any (c : K8) (A3 : Option Addr) (c3 : Nat) (A4 : Option Addr) (n4 c4 : Nat) (A5 : Option Addr) (n5 c5 : Nat) (A6 : Option Addr) (n6 c6 : Nat) (I : Option Addr) (w : World) :
    Calls Tryz.prog 36 #[.agg #[.string c.nm, .string c.sup, .bool c.face, .slice A3 c.fcs.length c3, .slice A4 n4 c4, .slice A5 n5 c5, .slice A6 n6 c6, .pointer I, .int .i64 c.p, .int .i64 c.q]] w fun e w' =>
      e = .returned (.agg (ftC 11 c.p c.q)) ∧ Turn [] w w' := by
  go_enter Tryz.func36, Tryz.ntmps36
  go_wp2_with fail
  refine bodyPost_ret (ret_fault (e := 11) (p := c.p) (q := c.q) (g := w.heap.size + 1) ?_ rfl) rfl ⟨rfl, ((Turn.refl [] w).alloc _).alloc _⟩
  have := heap_alloc_new (w.alloc (.cells #[.string c.nm, .string c.sup, .bool c.face, .slice A3 c.fcs.length c3, .slice A4 n4 c4, .slice A5 n5 c5, .slice A6 n6 c6, .pointer I, .int .i64 c.p, .int .i64 c.q] 53)) (.cells (ftC 11 c.p c.q) 58)
  rwa [World.size_alloc] at this
end Go.Proofs.YtbocejiclellfaaGreatDoor

/- Name, Face, Super. -/
set_option linter.unusedSimpArgs false
set_option linter.unusedVariables false
set_option maxRecDepth 100000
namespace Go.Proofs.YtbocejiclellfaaGreatDoor
open Go.RowKit
attribute [local go_sem] fldE0 fldE1 fldE2 fldE3
set_option maxHeartbeats 1600000 in
theorem name_any8 {A : Nat → Prop} {t : Nat} {M V : Value} {Es : List En} {w : World} (h : Tl w A t M V Es) (i : Int) :
    Calls Tryz.prog 40 #[.pointer (some ⟨t, 0, none⟩), .int .i64 i] w fun e w' => e = .returned (.string (enAt Es i).nm) ∧ Turn [] w w' := by
  have HE := Lib.hid (entry_any8 h i)
  obtain ⟨x, hx⟩ : ∃ x, enAt Es i = x := ⟨_, rfl⟩
  rw [hx] at HE ⊢
  obtain ⟨nm, face, sup, rt⟩ := x
  simp only at HE ⊢
  clear h hx
  go_enter Tryz.func40, Tryz.ntmps40
  go_wp2_with fail
  refine HE.out.mono ?_
  rintro e w1 ⟨U, rfl, hU, t1⟩
  obtain ⟨P, c, rfl, _, _⟩ := id hU
  have HT := Lib.hid t1
  clear hU t1
  go_wp2_with fail
  go_ret
  exact ⟨rfl, HT.out⟩
set_option maxHeartbeats 1600000 in
theorem face_any8 {A : Nat → Prop} {t : Nat} {M V : Value} {Es : List En} {w : World} (h : Tl w A t M V Es) (i : Int) :
    Calls Tryz.prog 44 #[.pointer (some ⟨t, 0, none⟩), .int .i64 i] w fun e w' => e = .returned (.bool (enAt Es i).face) ∧ Turn [] w w' := by
  have HE := Lib.hid (entry_any8 h i)
  obtain ⟨x, hx⟩ : ∃ x, enAt Es i = x := ⟨_, rfl⟩
  rw [hx] at HE ⊢
  obtain ⟨nm, face, sup, rt⟩ := x
  simp only at HE ⊢
  clear h hx
  go_enter Tryz.func44, Tryz.ntmps44
  go_wp2_with fail
  refine HE.out.mono ?_
  rintro e w1 ⟨U, rfl, hU, t1⟩
  obtain ⟨P, c, rfl, _, _⟩ := id hU
  have HT := Lib.hid t1
  clear hU t1
  go_wp2_with fail
  go_ret
  exact ⟨rfl, HT.out⟩
end Go.Proofs.YtbocejiclellfaaGreatDoor

/- Index; Right. -/
set_option linter.unusedSimpArgs false
set_option linter.unusedVariables false
set_option maxRecDepth 100000
namespace Go.Proofs.YtbocejiclellfaaGreatDoor
open Go.RowKit
attribute [local go_sem] fldE0 fldE1 fldE2 fldE3
set_option maxHeartbeats 1600000 in
theorem index_any8 {A : Nat → Prop} {t m s : Nat} {V : Value} {Es : List En} {f : ByteArray → Option Nat} {w : World} (h : Tl w A t (.map (some m)) V Es) (hm : MapS w m s f) (x : ByteArray) (hx : x.size ≤ 562949953421312) :
    Calls Tryz.prog 39 #[.pointer (some ⟨t, 0, none⟩), .string x] w fun e w' => e = .returned (.tuple #[.int .i64 (((f x).getD 0 : Nat) : Int), .bool (f x).isSome]) ∧ w = w' := by
  have hlook := run_lookS_ok hm x (by unfold maxLen; omega)
  have c1 : w.cell? ⟨t, 0, none⟩ = some (.map (some m)) := cell_of_row w t 0 _ _ _ h.blk
  obtain ⟨y, hy⟩ : ∃ y, (f x).getD 0 = y := ⟨_, rfl⟩
  obtain ⟨o, ho⟩ : ∃ o, (f x).isSome = o := ⟨_, rfl⟩
  rw [hy, ho] at hlook ⊢
  clear h hm hy ho
  go_enter Tryz.func39, Tryz.ntmps39
  go_wp2_with fail
  go_ret2
  exact ⟨rfl, rfl⟩
theorem eqI_nil (n c : Nat) (w : World) : (binOp .eql 63 (.slice none n c) (.slice none 0 0)).run Tryz.prog w = .ok (.bool true) w := by kernel_rfl
theorem eqI_some (a : Addr) (n c : Nat) (w : World) : (binOp .eql 63 (.slice (some a) n c) (.slice none 0 0)).run Tryz.prog w = .ok (.bool false) w := by kernel_rfl
attribute [local go_sem] eqI_nil eqI_some
/-- slices.Clone's append: onto a slice of no cells that lies in a block of its own, just ahead. -/
theorem wpList_clone {ops : Array Oper} {rest : List Oper} {o : Oper} {a : Act} {Q : Exit → Act → World → Prop} (hgd : o.guard = none) (s x : Operand)
    (ho : o.op = .call { callee := .builtin .append, args := #[s, x], argTypes := #[63, 63] })
    (W : World) (l : List Int) (A : Addr) (m c : Nat) (hs : a.eval s = .slice (some ⟨W.heap.size, 0, none⟩) 0 0) (hx : a.eval x = .slice (some A) m c) (hr : Ints W (some A) l) (hm : m = l.length)
    (hl : l.length ≤ 1000000)
    (h : ∀ v' w', OwnI w' W.heap.size v' l → Turn [] W w' → wpList Tryz.prog ops Q rest (a.put o.dst v') w') :
    wpList Tryz.prog ops Q (o :: rest) a (W.alloc (.cells #[] 3)) := by
  refine wpList_appAll hgd s x ho (W.alloc (.cells #[] 3)) W.heap.size (.slice (some ⟨W.heap.size, 0, none⟩) 0 0) [] l (some A) m c hs ?_ hx (hr.below ((Turn.refl [] W).alloc _)) hm (by simp) hl (by simp) ?_
  · exact World.ownsRow_made W #[] 0 (Nat.le_refl _) (by unfold maxLen; omega) rfl
  · intro v' w' ho2 ht2 _
    exact h v' w' (by simpa using ho2) (((Turn.refl [] W).alloc _).trans ht2 (by simp [Value.ownBlock]))
set_option maxHeartbeats 1600000 in
theorem clone_any8 (P : Option Addr) (m c : Nat) (l : List Int) (w : World) (h : Ints w P l) (hm : m = l.length) (hl : l.length ≤ 1000000) :
    Calls Tryz.prog 71 #[.slice P m c] w fun e w' => ∃ v', e = .returned v' ∧ OwnI w' w.heap.size v' l ∧ Turn [] w w' := by
  cases P with
  | none =>
    have h0 : l = [] := by
      cases l with
      | nil => rfl
      | cons x l =>
        obtain ⟨b, off, e, _⟩ := h 0 x rfl
        cases e
    subst h0
    clear h hm
    go_enter Tryz.func71, Tryz.ntmps71
    go_wp2_with fail
    go_ret
    exact ⟨_, rfl, OwnI.nil _ _, Turn.refl _ _⟩
  | some a =>
    have HI := Lib.hid h
    have HM := Lib.hid hm
    clear h hm
    go_enter Tryz.func71, Tryz.ntmps71
    go_wp2_with (at_builtin; refine wpList_clone rfl (.tmp 5) (.tmp 6) rfl w l a m c rfl rfl HI.out HM.out hl ?_; intro v' w2 ho2 ht2)
    go_ret
    exact ⟨_, rfl, ho2, ht2⟩
set_option maxHeartbeats 1600000 in
theorem right_any8 {A : Nat → Prop} {t : Nat} {M V : Value} {Es : List En} {w : World} (h : Tl w A t M V Es) (i : Int) (hrt : (enAt Es i).rt.length ≤ 1000000) :
    Calls Tryz.prog 48 #[.pointer (some ⟨t, 0, none⟩), .int .i64 i] w fun e w' => ∃ v', e = .returned v' ∧ OwnI w' w.heap.size v' (ofN (enAt Es i).rt) ∧ Turn [] w w' := by
  have HE := Lib.hid (entry_any8 h i)
  obtain ⟨x, hx⟩ : ∃ x, enAt Es i = x := ⟨_, rfl⟩
  rw [hx] at HE hrt ⊢
  obtain ⟨nm, face, sup, rt⟩ := x
  simp only at HE hrt ⊢
  have HRT := Lib.hid hrt
  clear h hx hrt
  go_enter Tryz.func48, Tryz.ntmps48
  go_wp2_with fail
  refine HE.out.mono ?_
  rintro e w1 ⟨U, rfl, hU, t1⟩
  obtain ⟨P, c, rfl, _, _⟩ := id hU
  obtain ⟨_, hUi, _⟩ := rdn_ints hU
  have HC := Lib.hid (clone_any8 P rt.length c (ofN rt) w1 hUi (by simp [ofN]) (by simpa [ofN] using HRT.out))
  have HT := Lib.hid t1
  clear hU t1 hUi
  go_wp2_with fail
  refine HC.out.mono ?_
  rintro e w2 ⟨v', rfl, ho, t2⟩
  have HO := Lib.hid (And.intro ho t2)
  clear ho t2
  go_wp2_with fail
  go_ret
  exact ⟨_, rfl, HO.out.1.mono HT.out.size, HT.out.trans' HO.out.2⟩
end Go.Proofs.YtbocejiclellfaaGreatDoor

/- The reference's Small. -/
set_option linter.unusedSimpArgs false
set_option linter.unusedVariables false
set_option maxRecDepth 100000
namespace Go.Proofs.YtbocejiclellfaaGreatDoor
open Go.RowKit

def smallB (l : List K8) : Bool := decide (l.length ≤ 20) && l.all (fun k => decide (k.fcs.length ≤ 10))
set_option maxHeartbeats 3200000 in
theorem small_any8 (A : Option Addr) (c B : Nat) (l : List K8) (m0 m1 m2 m3 m4 m5 m6 m7 m8 : Value) (w : World) (hr : RdKs B w A l) :
    Calls Tryz.prog 21 #[.agg #[.slice A l.length c, m0, m1, m2, m3, m4, m5, m6, m7, m8]] w fun e w' => e = .returned (.bool (smallB l)) ∧ Turn [] w w' := by
  obtain ⟨n, hn⟩ : ∃ n, l.length = n := ⟨_, rfl⟩
  obtain ⟨r, hrr⟩ : ∃ r, w.heap.size = r := ⟨_, rfl⟩
  obtain ⟨W0, hW0⟩ : ∃ W, w.alloc (.cells #[.slice A n c, m0, m1, m2, m3, m4, m5, m6, m7, m8] 30) = W := ⟨_, rfl⟩
  have t0 : Turn [] w W0 := by rw [← hW0]; exact (Turn.refl [] w).alloc _
  have b0 : W0.heap[r]? = some (.cells #[.slice A n c, m0, m1, m2, m3, m4, m5, m6, m7, m8] 30 (0, 0)) := by rw [← hW0, ← hrr]; exact heap_alloc_new w _
  have c0 : W0.cell? ⟨r, 0, none⟩ = some (.slice A n c) := cell_of_row W0 r 0 _ _ _ b0
  have HR := Lib.hid (hr.turn t0 (by simp))
  have HN := Lib.hid hn
  have HT := Lib.hid t0
  have HW := Lib.hid hW0
  have HRR := Lib.hid hrr
  have HB : Hid (smallB l = (decide (n ≤ 20) && l.all (fun k => decide (k.fcs.length ≤ 10)))) := Lib.hid (by rw [← hn]; rfl)
  rw [hn]
  obtain ⟨S, hS⟩ : ∃ S, smallB l = S := ⟨_, rfl⟩
  rw [hS] at HB ⊢
  clear hr hn t0 hW0 hrr b0 hS
  by_cases h20 : n ≤ 20
  · have d0 : decide ((20 : Int) < (n : Int)) = false := by simp; omega
    have d0' : ¬ (20 : Int) < (n : Int) := by omega
    go_enter Tryz.func21, Tryz.ntmps21
    go_upto_region 1 with fail
    rw [HRR.out, HW.out]
    go_wp2_with fail
    go_loop [3] (fun v3 => ∃ k : Nat, k ≤ n ∧ v3 = .int .i64 (k : Int) ∧ Hid (∀ x ∈ l.take k, x.fcs.length ≤ 10)) (fun v3 => n - (intOf v3).toNat)
    case atStart => exact ⟨0, Nat.zero_le _, rfl, Lib.hid (by simp)⟩
    case round =>
      obtain ⟨k, hk, rfl, HK⟩ := hrel
      by_cases hlt : k < n
      · obtain ⟨x, hx⟩ := at_lt (show k < l.length by have := HN.out; omega)
        obtain ⟨b, off, cs, rfl, hb, hbl, hcell, A3, c3, A4, n4, c4, A5, n5, c5, A6, n6, c6, I, rfl, hst⟩ := HR.out k x hx
        have e3 : W0.cell? ⟨b, off + k * 10 + 3, none⟩ = some (.slice A3 x.fcs.length c3) := hcell 3 _ rfl
        have d1 : decide ((k : Int) < (n : Int)) = true := by simp; omega
        have d2 : (k : Int) < (n : Int) := by omega
        have HX := Lib.hid hx
        obtain ⟨q, hq⟩ : ∃ q, x.fcs.length = q := ⟨_, rfl⟩
        rw [hq] at e3
        have HQ := Lib.hid hq
        clear hx hcell hst hq
        by_cases h10 : q ≤ 10
        · have d3 : decide ((10 : Int) < (q : Int)) = false := by simp; omega
          have d4 : ¬ (10 : Int) < (q : Int) := by omega
          have HN1 : Hid (∀ y ∈ l.take (k + 1), y.fcs.length ≤ 10) := Lib.hid (by
            rw [take_snoc HX.out]
            intro y hy
            rcases List.mem_append.1 hy with hy | hy
            · exact HK.out y hy
            · simp at hy
              rw [hy, HQ.out]
              exact h10)
          go_wp2_with fail
          go_round
          case rel => exact ⟨k + 1, by omega, by go_num, HN1⟩
          case measure => simp [intOf]; omega
        · have d3 : decide ((10 : Int) < (q : Int)) = true := by simp; omega
          have d4 : (10 : Int) < (q : Int) := by omega
          have HS : Hid (S = false) := Lib.hid (by
            rw [HB.out]
            simp
            intro _
            exact ⟨x, List.mem_of_getElem? HX.out, by rw [HQ.out]; omega⟩)
          go_wp2_with fail
          go_ret
          exact ⟨ret_bool HS.out.symm, HT.out⟩
      · obtain rfl : k = n := by omega
        have d1 : decide ((k : Int) < (k : Int)) = false := by simp
        have HS : Hid (S = true) := Lib.hid (by
          rw [HB.out]
          have h2 := HK.out
          rw [List.take_of_length_le (by rw [HN.out]; exact Nat.le_refl _)] at h2
          simp [h20]
          exact h2)
        go_wp2_with fail
        go_ret
        exact ⟨ret_bool HS.out.symm, HT.out⟩
  · have d0 : decide ((20 : Int) < (n : Int)) = true := by simp; omega
    have d0' : (20 : Int) < (n : Int) := by omega
    have HS : Hid (S = false) := Lib.hid (by rw [HB.out]; simp [h20])
    go_enter Tryz.func21, Tryz.ntmps21
    go_upto_region 1 with fail
    rw [HRR.out, HW.out]
    go_wp2_with fail
    go_ret
    exact ⟨ret_bool HS.out.symm, HT.out⟩
end Go.Proofs.YtbocejiclellfaaGreatDoor
