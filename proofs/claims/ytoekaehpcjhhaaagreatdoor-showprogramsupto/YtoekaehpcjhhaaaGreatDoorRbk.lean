/- The reference's block. -/
import Derived.Test.YtoekaehpcjhhaaaGreatDoorPmt
import Derived.Test.YtoekaehpcjhhaaaGreatDoorRsd
set_option linter.unusedSimpArgs false
set_option linter.unusedVariables false
namespace Go.Proofs.YtoekaehpcjhhaaaGreatDoor
open Go.RowKit

/-- append onto a list that grows, inside a region that draws its order. -/
theorem step_bld {ops : Array Oper} {o : Oper} {a : Act} {K : Act → World → Prop} {Q : Exit → Act → World → Prop} {E : Prop} (hgd : o.guard = none) (s x : Operand)
    (ho : o.op = .call { callee := .builtin .append, args := #[s, x], argTypes := #[36, 36] }) (w0 w : World) (v : Value) (l m : List ByteArray) (A : Option Addr) (n c : Nat)
    (hs : a.eval s = v) (hx : a.eval x = .slice A n c) (hB : Bld w0 w v l) (hm : Sts w A m) (hn : n = m.length) (hl : l.length + m.length ≤ 1000000000)
    (h : ∀ v' w', Bld w0 w' v' (l ++ m) → K (a.put o.dst v') w') :
    if Region.wanted o (yielded ops a.tmps) = true then Oper.wp Tryz.prog o a w K Q else E := by
  subst hn
  refine step_appR hgd s x 36 ho w 9 _ 1 16 Tryz.underlying36 str_info rfl (by omega) v l.length _ hs hB.1 A m.length c _ hx hm ?_ (by simp only [maxLen]; omega) (by omega) ?_
  · intro u hu
    obtain ⟨b, _, rfl⟩ := List.mem_map.1 hu
    rfl
  · intro v' w' h1 h2 h3
    refine h v' w' ⟨?_, ?_, hB.2.2.trans h2 (fun g hg => .inr (hB.2.1 g (by simpa using hg)))⟩
    · unfold OwnS
      rw [List.length_append, List.map_append]
      exact h1
    · intro g hg
      rcases h3 with h3 | h3
      · rw [h3] at hg; exact hB.2.1 g hg
      · rw [h3] at hg; injection hg with hg; rw [← hg]; exact hB.2.2.size

theorem fur_map (R : List Row) : (R.map ln).map fur = (R.map fun r => ((r.1 + 1, r.2) : Row)).map ln := by
  rw [List.map_map, List.map_map]
  apply List.map_congr_left
  intro r _
  obtain ⟨k, t⟩ := r
  exact fur_ln k t
theorem varR_deep (D : Nat) (k : ByteArray) (l : List Vr) : (varR D k l).map (fun r => ((r.1 + 1, r.2) : Row)) = varR (D + 1) k l := by
  unfold varR
  rw [List.map_map]
  rfl
theorem inR_deep (D : Nat) (m : Mt) : (inR D m).map (fun r => ((r.1 + 1, r.2) : Row)) = inR (D + 1) m := by
  unfold inR
  rw [List.map_append, varR_deep, rwL_deep]
theorem blkR_deep (D : Nat) (h : ByteArray) (m : Mt) : (blkR D h m).map (fun r => ((r.1 + 1, r.2) : Row)) = blkR (D + 1) h m := by
  unfold blkR
  rw [List.map_append, List.map_append, inR_deep]
  rfl
theorem ln_size2 (j : Nat) (X : ByteArray) : (ln (j, X)).size = 2 * j + X.size := by
  unfold ln
  rw [size_bs, bs_mk, List.length_append, List.length_replicate, ← size_bs]
/-- A variable's line. -/
theorem var_ln (k t x : ByteArray) : ln (0, cat [k, sp, t, sp, x, ⟨#[59]⟩]) = k ++ sp ++ t ++ sp ++ x ++ ⟨#[59]⟩ := by
  rw [ln_zero]
  apply bs_inj
  simp only [bs_cat, List.flatMap_cons, List.flatMap_nil, bs_append, List.append_assoc, List.append_nil]
theorem varL_take {k : ByteArray} {l : List Vr} {j : Nat} {v : Vr} (h : l[j]? = some v) : (varR 0 k (l.take (j + 1))).map ln = (varR 0 k (l.take j)).map ln ++ [k ++ sp ++ v.1 ++ sp ++ v.2 ++ ⟨#[59]⟩] := by
  rw [varR_take h, List.map_append, List.map_cons, List.map_nil, var_ln]
/-- Rows that a block's lines come from are short. -/
theorem varR_ok (D : Nat) {k : ByteArray} (hk : k.size ≤ 100) {l : List Vr} (h : FtV l) : ∀ r ∈ varR D k l, r.2.size ≤ 3000000 ∧ r.1 ≤ D := by
  intro r hr
  obtain ⟨v, hv, rfl⟩ := List.mem_map.1 hr
  have := h.2 v hv
  refine ⟨?_, Nat.le_refl _⟩
  rw [size_cat]
  simp [sz_lit, sp]
  omega
theorem inR_ok (D : Nat) (hD : D ≤ 10) {m : Mt} (h : FtM m) : ∀ r ∈ inR D m, r.2.size ≤ 3000000 ∧ r.1 ≤ 1700020 := by
  intro r hr
  rcases List.mem_append.1 hr with hr | hr
  · have := varR_ok D (k := varK) (by decide) h.2.2.2.1 r hr
    exact ⟨this.1, by omega⟩
  · have h1 := rwL_ok D m.bd h.2.2.2.2.1 r hr
    have h2 := h.2.2.2.2.2.2.2 D
    exact ⟨by omega, by omega⟩

set_option maxHeartbeats 8000000 in
set_option maxRecDepth 100000 in
theorem rblock_any (h : ByteArray) (B : Nat) (cs : List Value) (m : Mt) (w : World) (hr : RdM B w cs m) (hB : B ≤ w.heap.size) (hm : FtM m) (hS : RSaidL m.bd) (hh : h.size ≤ 100000000) :
    Calls Tryz.prog 12 #[.string h, .agg cs.toArray] w fun e w' => ∃ A' c', e = .returned (.slice A' (blkR 0 (h ++ openT) m).length c') ∧ Bld w w' (.slice A' (blkR 0 (h ++ openT) m).length c') ((blkR 0 (h ++ openT) m).map ln) := by
  obtain ⟨A1, c1, A2, c2, A3, c3, p, q, rfl, r1, r2, r3⟩ := hr
  have tA := bx w #[.string m.ret, .string m.name, .bool m.stat, .bool m.bare, .slice A1 m.ps.length c1, .slice A2 m.ls.length c2, .slice A3 m.bd.length c3, .int .i64 p, .int .i64 q] 28
  obtain ⟨W, hW⟩ : ∃ W, w.alloc (.cells #[.string m.ret, .string m.name, .bool m.stat, .bool m.bare, .slice A1 m.ps.length c1, .slice A2 m.ls.length c2, .slice A3 m.bd.length c3, .int .i64 p, .int .i64 q] 28) = W := ⟨_, rfl⟩
  have hg : W.heap[w.heap.size]? = some (.cells #[.string m.ret, .string m.name, .bool m.stat, .bool m.bare, .slice A1 m.ps.length c1, .slice A2 m.ls.length c2, .slice A3 m.bd.length c3, .int .i64 p, .int .i64 q] 28 (0, 0)) := by rw [← hW]; exact heap_alloc_new w _
  rw [hW] at tA
  have hWl : w.heap.size < W.heap.size := (Array.getElem?_eq_some_iff.1 hg).1
  have hce : ∀ w', Turn [] W w' → w'.cell? ⟨w.heap.size, 5, none⟩ = some (.slice A2 m.ls.length c2) ∧ w'.cell? ⟨w.heap.size, 6, none⟩ = some (.slice A3 m.bd.length c3) := fun w' ht => ⟨cell_of_row w' _ 5 _ _ _ (ht.heap hg (by simp)), cell_of_row w' _ 6 _ _ _ (ht.heap hg (by simp))⟩
  have HR2 := Lib.hid (fun w' (ht : Turn [] W w') => (r2.turn tA (by simp)).turn ht (by simp))
  have HAll := Lib.hid (fun w' (ht : Turn [] W w') => hS A3 c3 B w' ((r3.turn tA (by simp) _).turn ht (by simp) _) (Nat.le_trans hB (tA.trans' ht).size) (by have := hm.2.2.2.2.2.2.2 0; omega) (by have := hm.2.2.2.2.2.2.1; omega))
  have HIn : Hid (∀ A c W', Sts W' A ((inR 0 m).map ln) → Calls Tryz.prog 22 #[.slice A ((inR 0 m).map ln).length c] W' fun e w' => ∃ A' c', e = .returned (.slice A' ((inR 0 m).map ln).length c') ∧ Bld W' w' (.slice A' ((inR 0 m).map ln).length c') ((inR 1 m).map ln)) := Lib.hid (fun A c W' hst => by
    have hok := inR_ok 0 (by omega) hm
    have := further_any A c ((inR 0 m).map ln) W' hst (by rw [List.length_map]; have := inR_len 0 hm; omega) (by
      intro x hx
      obtain ⟨r, hr', rfl⟩ := List.mem_map.1 hx
      have := hok r hr'
      obtain ⟨k, t⟩ := r
      rw [ln_size2]
      simp only at this
      omega)
    rw [fur_map, inR_deep] at this
    exact this)
  have HVl := Lib.hid hm.2.2.2.1.2
  have HSh : Hid ([h ++ ⟨#[32, 123]⟩] ++ (inR 1 m).map ln ++ [⟨#[125]⟩] = (blkR 0 (h ++ openT) m).map ln) := Lib.hid (by
    unfold blkR
    rw [List.map_append, List.map_append, List.map_cons, List.map_nil, List.map_cons, List.map_nil, ln_zero, ln_zero, shutT_eq]
    rfl)
  have HLen : Hid ((inR 0 m).length ≤ 1700008) := Lib.hid (inR_len 0 hm)
  have HInE : Hid ((varR 0 varK m.ls).map ln ++ (rwL 0 m.bd).map ln = (inR 0 m).map ln) := Lib.hid (by unfold inR; rw [List.map_append])
  have HRL : Hid ((rwL 0 m.bd).length ≤ 1700000) := Lib.hid (hm.2.2.2.2.2.2.2 0)
  obtain ⟨nl, hnl⟩ : ∃ z, m.ls.length = z := ⟨_, rfl⟩
  have HNL := Lib.hid hnl
  have hnl8 : nl ≤ 8 := by rw [← hnl]; exact hm.2.2.2.1.1
  obtain ⟨nb, hnb⟩ : ∃ z, m.bd.length = z := ⟨_, rfl⟩
  rw [hnl] at hce
  rw [hnb] at hce HAll
  have HCe := Lib.hid hce
  have HT := Lib.hid tA
  have HW := Lib.hid hW
  have dh := add_run h ⟨#[32, 123]⟩ (by simp only [sz_lit, List.size_toArray, List.length_cons, List.length_nil]; omega)
  obtain ⟨m5, m6⟩ := hce W (Turn.refl _ _)
  clear r1 r2 r3 tA hW hg hB hm hS hce hnl
  rw [hnb] at HW ⊢
  clear hnb
  rw [HNL.out] at HW ⊢
  go_enter Tryz.func12, Tryz.ntmps12
  go_wp2_with fail
  rw [HW.out]
  go_loopw [5, 6] (fun v i wr => ∃ j : Nat, j ≤ nl ∧ i = .int .i64 (j : Int) ∧ Hid (Bld W wr v ((varR 0 varK (m.ls.take j)).map ln))) (fun _ i _ => nl - (intOf i).toNat)
  case atStart => exact ⟨0, Nat.zero_le _, rfl, Lib.hid (by simpa [varR] using Bld.nil W)⟩
  case round =>
    obtain ⟨j, hj, rfl, HB⟩ := hrel
    obtain ⟨k5, k6⟩ := HCe.out wr HB.out.2.2
    by_cases hlt : j < nl
    · obtain ⟨v, hv⟩ := at_lt (l := m.ls) (k := j) (by rw [HNL.out]; exact hlt)
      obtain ⟨g, off, pp, qq, hA2, hgB, hgl, e0, e1, e2, e3⟩ := HR2.out wr HB.out.2.2 j v hv
      subst hA2
      have hvs := HVl.out v (List.mem_of_getElem? hv)
      have HX := Lib.hid (varL_take (k := varK) hv)
      have HE2 : Hid (∀ w', Turn [] W w' → w'.cell? ⟨g, off + j * 4, none⟩ = some (.string v.1) ∧ w'.cell? ⟨g, off + j * 4 + 1, none⟩ = some (.string v.2)) := Lib.hid (fun w' ht => by
        obtain ⟨g', off', _, _, e, _, _, a0, a1, _, _⟩ := HR2.out w' ht j v hv
        injection e with e
        injection e with e1 e2
        subst e1 e2
        exact ⟨a0, a1⟩)
      obtain ⟨t, x⟩ := v
      simp only at e0 e1 hvs
      have hlk : ((varR 0 varK (m.ls.take j)).map ln).length = j := by rw [List.length_map, varR_len, List.length_take, HNL.out]; omega
      have HLK := Lib.hid hlk
      have d1 := add_run ⟨#[118, 97, 114, 32]⟩ t (by simp only [sz_lit, List.size_toArray, List.length_cons, List.length_nil]; omega)
      have d2 := add_run (⟨#[118, 97, 114, 32]⟩ ++ t) ⟨#[32]⟩ (by simp only [size_app, sz_lit, List.size_toArray, List.length_cons, List.length_nil]; omega)
      have d3 := add_run (⟨#[118, 97, 114, 32]⟩ ++ t ++ ⟨#[32]⟩) x (by simp only [size_app, sz_lit, List.size_toArray, List.length_cons, List.length_nil]; omega)
      have d4 := add_run (⟨#[118, 97, 114, 32]⟩ ++ t ++ ⟨#[32]⟩ ++ x) ⟨#[59]⟩ (by simp only [size_app, sz_lit, List.size_toArray, List.length_cons, List.length_nil]; omega)
      obtain ⟨X, hX⟩ : ∃ X, ⟨#[118, 97, 114, 32]⟩ ++ t ++ ⟨#[32]⟩ ++ x ++ ⟨#[59]⟩ = X := ⟨_, rfl⟩
      have HXX : Hid (varK ++ sp ++ t ++ sp ++ x ++ ⟨#[59]⟩ = X) := Lib.hid (by rw [← hX]; rfl)
      rw [hX] at d4
      clear hv hlk hvs hX e2 e3
      go_upto_region 5 with fail
      go_region_held3 (fun w' => w'.cell? ⟨w.heap.size, 5, none⟩ = some (.slice (some ⟨g, off, none⟩) nl c2) ∧ w'.cell? ⟨g, off + j * 4, none⟩ = some (.string t) ∧ w'.cell? ⟨g, off + j * 4 + 1, none⟩ = some (.string x))
        (first | exact ⟨k5, e0, e1⟩ | exact ⟨p5, f0, f1⟩ | go_keep)
        (first
          | (refine step_bld rfl (.tmp 14) (.tmp 31) rfl W _ u5 ((varR 0 varK (m.ls.take j)).map ln) [X] (some ⟨wr.heap.size, 0, none⟩) 1 1 (by simp [Act.eval, Act.put]) (by simp [Act.eval, Act.put]) (HB.out.turn' (by first | exact bx wr _ _ | exact (bx wr _ _).drew)) (by first | exact sts_new wr _ _ rfl | exact (sts_new wr _ _ rfl).turn' ((Turn.refl [] _).drew)) rfl (by rw [HLK.out]; simp; omega) ?_
             intro v6 w6 hb6
             have HB6 := Lib.hid hb6
             obtain ⟨p5, _⟩ := HCe.out w6 hb6.2.2
             obtain ⟨f0, f1⟩ := HE2.out w6 hb6.2.2
             clear hb6)
          | fail)
      go_wp2_with fail
      go_roundw
      case rel => exact ⟨j + 1, by omega, by go_num, Lib.hid (by rw [HX.out, HXX.out]; exact HB6.out)⟩
      case measure => simp [intOf]; omega
    · have hjn : j = nl := by omega
      subst hjn
      have hb := HB.out
      rw [List.take_of_length_le (by rw [HNL.out]; exact Nat.le_refl _)] at hb
      obtain ⟨A5, n5, c5, rfl⟩ := hb.form
      have HB5 := Lib.hid hb
      have HC := Lib.hid (HAll.out wr hb.2.2)
      clear hb HB
      go_wp2_with fail
      refine HC.out.mono ?_
      rintro e w7 ⟨A7, c7, rfl, hb7⟩
      have hvl : ((varR 0 varK m.ls).map ln).length = j := by rw [List.length_map, varR_len, HNL.out]
      have HB7 := Lib.hid (And.intro (HB5.out.turn' hb7.2.2) (OwnS.sts hb7.1))
      have HVL := Lib.hid hvl
      obtain ⟨nr, hnr⟩ : ∃ z, (rwL 0 m.bd).length = z := ⟨_, rfl⟩
      rw [hnr] at HB7 ⊢
      have HNR := Lib.hid hnr
      clear hb7 hvl hnr HC
      have ht7 := HB7.out.1.2.2
      go_upto_region 7 with (first
        | (at_builtin; refine wpList_bld rfl (.tmp 33) (.tmp 36) rfl W w7 (.slice A5 n5 c5) ((varR 0 varK m.ls).map ln) ((rwL 0 m.bd).map ln) A7 nr c7 rfl rfl HB7.out.1 HB7.out.2.2.2 (by rw [List.length_map]; exact HNR.out.symm) (by rw [HVL.out, List.length_map, HNR.out]; have := HRL.out; rw [HNR.out] at this; omega) ?_
           intro v8 w8 hb8
           rw [HInE.out] at hb8
           obtain ⟨A8, n8, c8, rfl⟩ := hb8.form
           have HB8 := Lib.hid hb8
           clear hb8)
        | fail)
      clear ht7
      have hn8e := (OwnS.sts HB8.out.1).1
      have HN8 := Lib.hid hn8e
      have tB := bx w8 #[.string (h ++ ⟨#[32, 123]⟩)] 9
      have HC := Lib.hid (HIn.out A8 c8 _ ((OwnS.sts HB8.out.1).2.2.turn' tB))
      rw [← hn8e] at HC
      have HTB := Lib.hid tB
      clear hn8e tB
      go_wp2_with fail
      refine HC.out.mono ?_
      rintro e w9 ⟨A9, c9, rfl, hb9⟩
      have HB9 := Lib.hid hb9
      have hI1 : ((inR 1 m).map ln).length = n8 := by have := (OwnS.sts hb9.1).1; exact this.symm
      have HI1 := Lib.hid hI1
      have HSt9 := Lib.hid (OwnS.sts hb9.1).2.2
      have HOne : Hid (Bld w8 w9 (.slice (some ⟨w8.heap.size, 0, none⟩) 1 1) [h ++ ⟨#[32, 123]⟩]) := Lib.hid ((Bld.one w8 _).turn' hb9.2.2)
      have hn8l : n8 ≤ 1700008 := by rw [HN8.out, List.length_map]; exact HLen.out
      clear hb9 hI1 HC
      go_wp2_with (first
        | (at_builtin; refine wpList_bld rfl (.tmp 40) (.tmp 42) rfl w8 w9 (.slice (some ⟨w8.heap.size, 0, none⟩) 1 1) [h ++ ⟨#[32, 123]⟩] ((inR 1 m).map ln) A9 n8 c9 rfl rfl HOne.out HSt9.out HI1.out.symm (by rw [HI1.out]; simp; omega) ?_
           intro v10 w10 hb10
           obtain ⟨A10, n10, c10, rfl⟩ := hb10.form
           have HB10 := Lib.hid hb10
           clear hb10)
        | (at_builtin; refine wpList_bld rfl (.tmp 43) (.tmp 44) rfl w8 _ (.slice A10 n10 c10) ([h ++ ⟨#[32, 123]⟩] ++ (inR 1 m).map ln) [⟨#[125]⟩] (some ⟨w10.heap.size, 0, none⟩) 1 1 rfl rfl (HB10.out.turn' (bx w10 _ _)) (sts_new w10 _ _ rfl) rfl (by rw [List.length_append, HI1.out]; simp; omega) ?_
           intro v11 w11 hb11
           obtain ⟨A11, n11, c11, rfl⟩ := hb11.form
           have HB11 := Lib.hid hb11
           clear hb11)
        | fail)
      go_ret
      have hb := HB11.out
      rw [HSh.out] at hb
      have hn := (OwnS.sts hb.1).1
      rw [List.length_map] at hn
      subst hn
      exact ⟨A11, c11, rfl, hb.before ((HT.out.trans' HB8.out.2.2))⟩
end Go.Proofs.YtoekaehpcjhhaaaGreatDoor
