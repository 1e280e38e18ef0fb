/- The reference's Id: a tuple laid behind the others. -/
import Derived.Test.YtepkpllfdfbmiaaRef
set_option linter.unusedSimpArgs false
set_option linter.unusedVariables false
namespace Go.Proofs.Ytepkpllfdfbmiaa
open Go.RowKit Go.Maps

theorem row_info : (Try.prog.info? 23).map (fun i => (i.zero, i.size, i.bytes)) = some (some (.slice none 0 0), 1, 24) := by kernel_rfl

/-- append of a slice of ints onto nil. -/
theorem run_appI (W : World) (ty : TypeId) (l : List Int) (A : Option Addr) (n c : Nat) (hr : Ints W A l) (hn : n = l.length) (hl : l.length ≤ 100000) :
    ∃ v' w', (Builtin.append_ #[23, 23] ty #[.slice none 0 0, .slice A n c]).run Try.prog W = .ok v' w' ∧ OwnI w' W.heap.size v' l ∧ Turn [] W w' := by
  subst hn
  obtain ⟨i0, hi0, hz0, hz1, hz2⟩ := info_parts int_info
  cases A with
  | none =>
    have e : l = [] := by
      rcases l with _ | ⟨y, l⟩
      · rfl
      · obtain ⟨b, off, e, _⟩ := hr 0 y rfl
        cases e
    subst e
    exact ⟨_, W, run_append_off_nil (P := Try.prog) W W.heap.size 23 ty 3 i0 1 Try.underlying23 hi0 (.slice none 0 0) 0 [] (World.ownsRow_nil _ _ _ _) c, OwnI.nil _ _, Turn.refl _ _⟩
  | some ad =>
    have hcell : ∀ (j : Nat) (u : Value), (l.map (Value.int .i64))[j]? = some u → W.cell? (ad.add j) = some u := by
      intro j u hj
      rw [List.getElem?_map] at hj
      cases hy : l[j]? with
      | none => rw [hy] at hj; cases hj
      | some y =>
        rw [hy] at hj
        injection hj with hj
        subst hj
        obtain ⟨b, off, e, _, hc⟩ := hr j y hy
        cases e
        rw [Addr.add_lit]
        exact hc
    obtain ⟨v', w', hrun, h2, h3, _, _⟩ := run_append_own_at (P := Try.prog) W W.heap.size 23 ty 3 i0 _ 1 8 Try.underlying23 hi0 hz0 hz1 hz2 rfl (by omega) (.slice none 0 0) 0 [] (World.ownsRow_nil _ _ _ _) ad l.length c (l.map (Value.int .i64)) (by simp) hcell (fun u hu => by
      obtain ⟨y, _, rfl⟩ := List.mem_map.1 hu
      rfl) (by simp only [maxLen]; omega) (by omega) (Nat.le_refl _)
    refine ⟨v', w', hrun, ?_, (Turn.refl [] W).grown h3 (fun k hk => by cases hk)⟩
    unfold OwnI
    simpa using h2
/-- The same at a step of a region that draws. -/
theorem step_appI {ops : Array Oper} {o : Oper} {a : Act} {K : Act → World → Prop} {Q : Exit → Act → World → Prop} {E : Prop} (hgd : o.guard = none) (s x : Operand)
    (ho : o.op = .call { callee := .builtin .append, args := #[s, x], argTypes := #[23, 23] }) (W : World) (l : List Int) (A : Option Addr) (n c : Nat)
    (hs : a.eval s = .slice none 0 0) (hx : a.eval x = .slice A n c) (hr : Ints W A l) (hn : n = l.length) (hl : l.length ≤ 100000)
    (h : ∀ v' w', OwnI w' W.heap.size v' l → Turn [] W w' → K (a.put o.dst v') w') :
    if Region.wanted o (yielded ops a.tmps) = true then Oper.wp Try.prog o a W K Q else E := by
  have hw : Region.wanted o (yielded ops a.tmps) = true := by simp [Region.wanted, hgd]
  rw [if_pos hw]
  obtain ⟨v', w', hrun, h1, h2⟩ := run_appI W o.type l A n c hr hn hl
  unfold Oper.wp execOp
  simp only [ho, resolve, invoke, builtin, Sem.run_bind, Sem.run_pure, Result.andThen_ok, List.map_toArray, List.map_cons, List.map_nil, hs, hx, hrun]
  exact h v' w' h1 h2
/-- append of one slice, laid in a block of its own, onto a slice of slices of the program's own, at such a step. -/
theorem step_appL {ops : Array Oper} {o : Oper} {a : Act} {K : Act → World → Prop} {Q : Exit → Act → World → Prop} {E : Prop} (hgd : o.guard = none) (s x : Operand)
    (ho : o.op = .call { callee := .builtin .append, args := #[s, x], argTypes := #[22, 22] }) (W : World) (v : Value) (xs : List Value) (u : Value) (vb c : Nat)
    (hs : a.eval s = v) (hx : a.eval x = .slice (some ⟨vb, 0, none⟩) 1 c) (hown : W.ownsRow 0 23 1 v xs.length xs) (hu : u.oneCell' = true) (hb : W.heap[vb]? = some (.cells #[u] 23 (0, 0))) (hl : xs.length ≤ 100000)
    (h : ∀ v' w', w'.ownsRow 0 23 1 v' (xs.length + 1) (xs ++ [u]) → Turn v.ownBlock.toList W w' → (v'.ownBlock = v.ownBlock ∨ ∃ g, v'.ownBlock = some g ∧ W.heap.size ≤ g) → K (a.put o.dst v') w') :
    if Region.wanted o (yielded ops a.tmps) = true then Oper.wp Try.prog o a W K Q else E := by
  have hw : Region.wanted o (yielded ops a.tmps) = true := by simp [Region.wanted, hgd]
  rw [if_pos hw]
  obtain ⟨i0, hi0, hz0, hz1, hz2⟩ := info_parts row_info
  obtain ⟨v', w', hr, h2, h3, _, h5⟩ := run_append_own_at (P := Try.prog) W 0 22 o.type 23 i0 _ 1 24 Try.underlying22 hi0 hz0 hz1 hz2 rfl (by omega) v xs.length xs hown ⟨vb, 0, none⟩ 1 c [u] rfl (fun j y hj => by
      rw [Addr.add_lit, cell_of_row _ vb _ _ _ _ hb, Nat.zero_add]
      simpa using hj) (by simp [hu]) (by simp only [maxLen]; omega) (by omega) (Nat.zero_le _)
  unfold Oper.wp execOp
  simp only [ho, resolve, invoke, builtin, Sem.run_bind, Sem.run_pure, Result.andThen_ok, List.map_toArray, List.map_cons, List.map_nil, hs, hx, hr]
  refine h v' w' h2 ((Turn.refl _ _).grown h3 (fun k hk => .inl (by simp [hk]))) ?_
  rcases h5 with h5 | h5
  · exact .inl h5
  · exact .inr ⟨_, h5, Nat.le_refl _⟩

theorem heap2_0 {w : World} {b : Nat} {M V u : Value} (h : w.heap[b]? = some (.cells #[M, V] 30 (0, 0))) : (w.setCell ⟨b, 0, none⟩ u).heap[b]? = some (.cells #[u, V] 30 (0, 0)) := by
  simp only [World.setCell, Array.getElem?_modify, h]
  rfl
theorem heap2_1 {w : World} {b : Nat} {M V u : Value} (h : w.heap[b]? = some (.cells #[M, V] 30 (0, 0))) : (w.setCell ⟨b, 1, none⟩ u).heap[b]? = some (.cells #[M, u] 30 (0, 0)) := by
  simp only [World.setCell, Array.getElem?_modify, h]
  rfl

theorem RP.nVb {w : World} {b : Nat} {F : List Nat} {VL VT : Value} {Ns : List (List Int)} {S : List ByteArray} {xs : List Value} (h : RP w b F VL VT Ns S xs) : VL.ownBlock ≠ some b := fun e => by
  obtain ⟨cs, hc⟩ := ownsRow_blk h.row e
  rw [h.blk] at hc
  cases hc
/-- The slice of the new tuple laid behind the others, and the table's own cell stored anew. -/
theorem RP.done {w w1 w3 : World} {b : Nat} {F : List Nat} {VL VT u v : Value} {Ns : List (List Int)} {S : List ByteArray} {xs : List Value} {ns : List Int} {o : Obj} (h : RP w b F VL VT Ns S xs) (t1 : Turn [] w w1) (hu : OwnI w1 w.heap.size u ns)
    (hr : w3.ownsRow 0 23 1 v (xs.length + 1) (xs ++ [u])) (t3 : Turn VL.ownBlock.toList (w1.alloc o) w3) (hv : v.ownBlock = VL.ownBlock ∨ ∃ g, v.ownBlock = some g ∧ (w1.alloc o).heap.size ≤ g) :
    ∃ F', Rt (w3.setCell ⟨b, 0, none⟩ v) b F' (Ns ++ [ns]) S ∧ Foot w.heap.size F F' ∧ Turn F w (w3.setCell ⟨b, 0, none⟩ v) := by
  have t2 : Turn [] w (w1.alloc o) := t1.alloc o
  have hs2 := t2.size
  have hs3 := t3.size
  have hbl : b < w.heap.size := h.fl b h.fb
  -- which block is of which kind
  have kV : ∀ g, VL.ownBlock = some g → ∃ cs, w.heap[g]? = some (.cells cs 23 (0, 0)) := fun g e => ownsRow_blk h.row e
  have kE : ∀ x ∈ xs, ∀ g, x.ownBlock = some g → ∃ cs, w.heap[g]? = some (.cells cs 3 (0, 0)) := fun x hx g e => by
    obtain ⟨k, hk⟩ := List.getElem?_of_mem hx
    have hkl : k < Ns.length := by have := (List.getElem?_eq_some_iff.1 hk).1; have := h.len; omega
    exact ownsRow_blk (h.each k x _ hk (List.getElem?_eq_getElem hkl)) e
  have nVb : ∀ g, VL.ownBlock = some g → g ≠ b := fun g e e2 => by
    obtain ⟨cs, hc⟩ := kV g e
    rw [e2, h.blk] at hc
    cases hc
  have nVE : ∀ x ∈ xs, ∀ g, x.ownBlock = some g → VL.ownBlock ≠ some g := fun x hx g e e2 => by
    obtain ⟨cs, hc⟩ := kV g e2
    obtain ⟨cs2, hc2⟩ := kE x hx g e
    rw [hc] at hc2
    cases hc2
  have nEb : ∀ x ∈ xs, ∀ g, x.ownBlock = some g → g ≠ b := fun x hx g e e2 => by
    obtain ⟨cs, hc⟩ := kE x hx g e
    rw [e2, h.blk] at hc
    cases hc
  have nTb : ∀ g, VT.ownBlock = some g → g ≠ b ∧ VL.ownBlock ≠ some g := fun g e => by
    obtain ⟨cs, hc⟩ := ownsRow_blk h.row2 e
    refine ⟨fun e2 => ?_, fun e2 => ?_⟩
    · rw [e2, h.blk] at hc
      cases hc
    · obtain ⟨cs2, hc2⟩ := kV g e2
      rw [hc] at hc2
      cases hc2
  have nvb : ∀ g, v.ownBlock = some g → g ≠ b := fun g e => by
    rcases hv with e2 | ⟨g', e2, h1⟩
    · exact nVb g (by rw [← e2]; exact e)
    · rw [e] at e2
      cases e2
      omega
  have hub : ∀ g, u.ownBlock = some g → w.heap.size ≤ g ∧ g < w1.heap.size := fun g e => OwnI.lt hu g e
  have tS : Turn [b] w3 (w3.setCell ⟨b, 0, none⟩ v) := (Turn.refl [b] w3).setCell (.inl (by simp)) _
  have tV : Turn VL.ownBlock.toList w w3 := (t2.more (G := VL.ownBlock.toList) (by simp)).trans t3 (fun g hg => .inl hg)
  have tF : Turn F w w3 := tV.more (fun g hg => .inl (h.fv g (by simpa using hg)))
  have hb3 : w3.heap[b]? = some (.cells #[VL, VT] 30 (0, 0)) := tV.heap h.blk (fun hg => nVb b (by simpa using hg) rfl)
  refine ⟨v.ownBlock.toList ++ (u.ownBlock.toList ++ F), ⟨v, VT, xs ++ [u], heap2_0 hb3, List.mem_append_right _ (List.mem_append_right _ h.fb), ?_, ?_, by simp [h.len], ?_, ?_, ?_, ?_, ?_⟩, ?_, tF.trans tS (by simpa using .inl h.fb)⟩
  · intro g hg
    rcases List.mem_append.1 hg with hg | hg
    · exact Nat.lt_of_lt_of_le (World.ownsRow.lt hr g (by simpa using hg)).2 tS.size
    · rcases List.mem_append.1 hg with hg | hg
      · have h1 := (hub g (by simpa using hg)).2
        have h2 := tS.size
        have h3 : w1.heap.size ≤ (w1.alloc o).heap.size := by simp
        omega
      · exact Nat.lt_of_lt_of_le (h.fl g hg) (Nat.le_trans tF.size tS.size)
  · rw [List.length_append]
    exact Turn.owns tS hr (fun g e => by simpa using nvb g e)
  · intro k x l hx hl
    by_cases hk : k < xs.length
    · rw [List.getElem?_append_left hk] at hx
      rw [List.getElem?_append_left (by have := h.len; omega)] at hl
      have hm := List.mem_of_getElem? hx
      exact ((h.each k x l hx hl).turn tV (fun g e hg => nVE x hm g e (by simpa using hg))).turn tS (fun g e => by simpa using nEb x hm g e)
    · have hkx := (List.getElem?_eq_some_iff.1 hx).1
      have e : k = xs.length := by simp at hkx; omega
      subst e
      rw [List.getElem?_append_right (Nat.le_refl _)] at hx
      rw [h.len, List.getElem?_append_right (Nat.le_refl _)] at hl
      simp at hx hl
      subst hx
      subst hl
      refine (((hu.mono (Nat.zero_le _)).turn' ((Turn.refl [] w1).alloc o)).turn t3 (fun g e hg => ?_)).turn tS (fun g e => ?_)
      · have h1 := (hub g e).1
        have h2 := h.fl g (h.fv g (by simpa using hg))
        omega
      · have h1 := (hub g e).1
        simp
        omega
  · exact Turn.owns tS (Turn.owns tV h.row2 (fun g e hg => (nTb g e).2 (by simpa using hg))) (fun g e => by simpa using (nTb g e).1)
  · exact fun g e => List.mem_append_left _ (by simp [e])
  · exact fun g e => List.mem_append_right _ (List.mem_append_right _ (h.fv2 g e))
  · intro x hx g e
    rcases List.mem_append.1 hx with hx | hx
    · exact List.mem_append_right _ (List.mem_append_right _ (h.fe x hx g e))
    · simp at hx
      subst hx
      exact List.mem_append_right _ (List.mem_append_left _ (by simp [e]))
  · intro g hg
    rcases List.mem_append.1 hg with hg | hg
    · rcases hv with e | ⟨g', e, h1⟩
      · rw [e] at hg
        exact .inl (h.fv g (by simpa using hg))
      · rw [e] at hg
        simp at hg
        exact .inr (by omega)
    · rcases List.mem_append.1 hg with hg | hg
      · exact .inr (hub g (by simpa using hg)).1
      · exact .inl hg

set_option maxHeartbeats 2000000 in
theorem refId_any (b : Nat) (F : List Nat) (Ns : List (List Int)) (S : List ByteArray) (A : Option Addr) (ns : List Int) (c : Nat) (w : World) (h : Rt w b F Ns S) (hA : Ints w A ns) (hl : Ns.length ≤ 10000) (hl8 : ∀ l ∈ Ns, l.length ≤ 8) (hn : ns.length ≤ 1000) :
    Calls Try.prog 9 #[.pointer (some ⟨b, 0, none⟩), .slice A ns.length c] w fun e w' => e = .returned (.int .i64 (idN Ns ns)) ∧ ∃ F', Rt w' b F' (idL Ns ns) S ∧ Foot w.heap.size F F' ∧ Turn F w w' := by
  have H := Lib.hid h
  have HA := Lib.hid hA
  have HL := Lib.hid hl8
  clear h hA hl8
  by_cases h8 : 8 < ns.length
  · have d : decide ((8 : Int) < (ns.length : Int)) = true := by simp; omega
    have d' : decide (8 < ns.length) = true := by simp; omega
    rw [idN_long _ h8, idL_long _ h8]
    go_enter Try.func9, Try.ntmps9
    go_wp2_with fail
    go_ret
    exact ⟨rfl, F, H.out, Foot.refl _ _, Turn.refl _ _⟩
  · have d : decide ((8 : Int) < (ns.length : Int)) = false := by simp; omega
    have d' : decide (8 < ns.length) = false := by simp; omega
    have hF := refFind_any b F Ns S A ns c w H.out HA.out (by omega) HL.out (by omega)
    by_cases hin : ns ∈ Ns
    · rw [show idN Ns ns = (fnd Ns ns : Int) by unfold idN; rw [if_neg h8, if_pos hin], show idL Ns ns = Ns by unfold idL; rw [if_neg h8, if_pos hin]]
      rw [rfN_in hin] at hF
      have HF := Lib.hid hF
      obtain ⟨k, hk⟩ : ∃ k : Nat, fnd Ns ns = k := ⟨_, rfl⟩
      rw [hk] at HF ⊢
      have dk : decide ((k : Int) < 0) = false := by simp
      clear hF hin hk
      go_enter Try.func9, Try.ntmps9
      go_wp2_with fail
      (with_reducible refine HF.out.mono ?_)
      rintro e w1 ⟨rfl, q, rfl⟩
      have HT := Lib.hid ((Turn.refl [] w).drewN q)
      go_wp2_with fail
      go_ret
      exact ⟨rfl, F, H.out.turn' HT.out, Foot.refl _ _, HT.out.more (by simp)⟩
    · rw [idN_new (by omega) hin, idL_new (by omega) hin]
      rw [rfN_out hin] at hF
      have HF := Lib.hid hF
      clear hF hin
      obtain ⟨VL, VT, xs, hq⟩ := H.out
      obtain ⟨AL, cL, rfl, hcL, -⟩ := hq.form
      have HQ := Lib.hid hq
      have hxl : xs.length = Ns.length := hq.len
      have HXL := Lib.hid hxl
      clear hq hxl
      go_enter Try.func9, Try.ntmps9
      go_wp2_with fail
      (with_reducible refine HF.out.mono ?_)
      rintro e w1 ⟨rfl, q, rfl⟩
      obtain ⟨W, hW⟩ : ∃ W, w.drewN q = W := ⟨_, rfl⟩
      have HT : Hid (Turn [] w W) := Lib.hid (by rw [← hW]; exact (Turn.refl [] w).drewN q)
      have hsz : W.heap.size = w.heap.size := by rw [← hW]; rfl
      have HSZ := Lib.hid hsz
      rw [hW]
      clear hW hsz
      have HQ1 := Lib.hid (HQ.out.turn HT.out (by simp))
      have c0 : W.cell? ⟨b, 0, none⟩ = some (.slice AL Ns.length cL) := cell_of_row W b 0 _ 30 (0, 0) HQ1.out.blk
      have hbW : b < W.heap.size := HQ1.out.fl b HQ1.out.fb
      go_wp2_with fail
      go_region_law (first
        | (refine step_appI rfl (.tmp 25) (.tmp 26) rfl _ ns A ns.length c (by simp [Act.eval, Act.put]) (by simp [Act.eval, Act.put]) (by exact HA.out.below (HT.out.drew)) rfl (by omega) ?_
           intro u2 w2 ho2 ht2
           obtain ⟨Au, cu, hu2, _, _⟩ := ho2.form
           subst hu2
           have tw2 : Turn [] W w2 := (Turn.refl [] W).drew.trans' ht2
           have hb2 := (HQ1.out.turn tw2 (by simp)).blk
           have k0 : w2.cell? ⟨b, 0, none⟩ = some (.slice AL Ns.length cL) := cell_of_row w2 b 0 _ 30 (0, 0) hb2
           have hlt2 : b < w2.heap.size := (Array.getElem?_eq_some_iff.1 hb2).1
           have hne2 := World.new_ne w2 ⟨b, 0, none⟩ k0
           have HO2 := Lib.hid ho2
           have HT2 := Lib.hid tw2
           clear ho2 ht2 tw2 hb2)
        | (refine step_appL rfl (.tmp 24) (.tmp 28) rfl _ (.slice AL Ns.length cL) xs (.slice Au ns.length cu) w2.heap.size 1 (by simp [Act.eval, Act.put]) (by simp [Act.eval, Act.put]) (by exact (HQ1.out.turn (HT2.out.alloc _) (by simp)).row) rfl (by exact heap_alloc_new w2 _) (by have := HXL.out; omega) ?_
           intro v5 w5 ho5 ht5 hm5
           obtain ⟨g5, c5, hv5, _⟩ := World.ownsRow.form ho5 (by omega)
           subst hv5
           have hb5 := ht5.heap ((HQ1.out.turn (HT2.out.alloc _) (by simp)).blk) (fun hg => HQ1.out.nVb (by simpa using hg))
           have n0 : w5.cell? ⟨b, 0, none⟩ = some (.slice AL Ns.length cL) := cell_of_row w5 b 0 _ 30 (0, 0) hb5
           have f0 : w5.frozen? ⟨b, 0, none⟩ = false := frozen_of_row w5 b 0 _ 30 hb5
           have HO5 := Lib.hid ho5
           have HT5 := Lib.hid ht5
           have HM5 := Lib.hid hm5
           clear ho5 ht5 hm5 hb5))
      all_goals
        go_wp2_with fail
        go_ret
        have hd := RP.done HQ1.out HT2.out HO2.out HO5.out HT5.out HM5.out
        obtain ⟨F', h1, h2, h3⟩ := hd
        exact ⟨rfl, F', h1, by rw [← HSZ.out]; exact h2, (HT.out.more (G := F) (by simp)).trans h3 (fun g hg => .inl hg)⟩
end Go.Proofs.Ytepkpllfdfbmiaa
