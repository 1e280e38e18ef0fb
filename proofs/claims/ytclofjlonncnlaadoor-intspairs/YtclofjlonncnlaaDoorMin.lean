/- Sets: Minus. -/
import Derived.Test.YtclofjlonncnlaaDoorOf
import Derived.Deep.RegionLaw
import Derived.Deep.RegionWith
import Derived.Deep.DeepCutAuto
set_option linter.unusedSimpArgs false
set_option linter.unusedVariables false
namespace Go.Proofs.YtclofjlonncnlaaDoor
open Go.RowKit

def andN (a b : Nat) : Nat := a &&& (18446744073709551615 - b)
def Row.without (r s : Row) : Row := ⟨r.at_, andN r.w0 s.w0, andN r.w1 s.w1, andN r.w2 s.w2, andN r.w3 s.w3⟩
theorem without_any (r s : Row) (hr : r.Fits) (hs : s.Fits) (w : World) : Calls Tryd.prog 33 #[r.val, s.val] w fun e w' => e = .returned (r.without s).val ∧ Turn [] w w' :=
  without_walk r.at_ r.w0 r.w1 r.w2 r.w3 s.at_ s.w0 s.w1 s.w2 s.w3 _ _ _ _ w (u64_andNot_nat _ _ hr.b0 hs.b0) (u64_andNot_nat _ _ hr.b1 hs.b1) (u64_andNot_nat _ _ hr.b2 hs.b2) (u64_andNot_nat _ _ hr.b3 hs.b3)
theorem fits_without {r s : Row} (hr : r.Fits) : (r.without s).Fits :=
  ⟨hr.a, Nat.lt_of_le_of_lt Nat.and_le_left hr.b0, Nat.lt_of_le_of_lt Nat.and_le_left hr.b1, Nat.lt_of_le_of_lt Nat.and_le_left hr.b2, Nat.lt_of_le_of_lt Nat.and_le_left hr.b3⟩
/-- The rows less another set's bits; those that come to nothing are gone. -/
def minusR (rs ss : List Row) : List Row := (rs.map (fun r => r.without (rowOf ss r.at_))).filter (fun r => decide (0 < r.count))
theorem minusR_snoc {rs ss : List Row} {k : Nat} {r : Row} (h : rs[k]? = some r) : minusR (rs.take (k + 1)) ss = minusR (rs.take k) ss ++ if 0 < (r.without (rowOf ss r.at_)).count then [r.without (rowOf ss r.at_)] else [] := by
  generalize hq : r.without (rowOf ss r.at_) = q
  have e : ([r].map (fun r => r.without (rowOf ss r.at_))).filter (fun r => decide (0 < r.count)) = if 0 < q.count then [q] else [] := by
    rw [List.map_cons, List.map_nil, hq]
    by_cases hc : 0 < q.count
    · simp [hc]
    · simp [hc]
  rw [take_snoc h, ← e]
  unfold minusR
  rw [List.map_append, List.filter_append]
theorem minusR_ok {rs ss : List Row} (h : Ok rs) : Ok (minusR rs ss) := by
  refine ⟨?_, fun s hs => ?_, fun s hs => ?_⟩
  · unfold minusR Asc
    refine List.Pairwise.filter _ ?_
    rw [List.pairwise_map]
    exact h.asc
  · obtain ⟨h1, _⟩ := List.mem_filter.1 hs
    obtain ⟨r, hr, rfl⟩ := List.mem_map.1 h1
    exact fits_without (h.fits r hr)
  · simpa using (List.mem_filter.1 hs).2
theorem ok_take {rs : List Row} (h : Ok rs) (k : Nat) : Ok (rs.take k) :=
  ⟨List.Pairwise.sublist (List.take_sublist k rs) h.asc, fun r hr => h.fits r (List.mem_of_mem_take hr), fun r hr => h.some_ r (List.mem_of_mem_take hr)⟩
theorem rowAt_box (p v : Value) (rs : List Row) (t : Nat) (b : Nat) (cs : Array Value) (w : World) (h : SetV w p v rs) (ht : t < 100000) (hb : w.heap[b]? = some (.cells cs 46 (0, 0))) :
    Calls Tryd.prog 28 #[p, .int .i64 t] w fun e w' => e = .returned (rowOf rs t).val ∧ w'.heap[b]? = some (.cells cs 46 (0, 0)) ∧ Turn [] w w' :=
  (rowAt_any p v rs t w h ht).mono fun e w' ⟨h1, h2⟩ => ⟨h1, h2.heap hb (by simp), h2⟩
theorem without_box (r s : Row) (b : Nat) (cs : Array Value) (hr : r.Fits) (hs : s.Fits) (w : World) (hb : w.heap[b]? = some (.cells cs 46 (0, 0))) : Calls Tryd.prog 33 #[r.val, s.val] w fun e w' => e = .returned (r.without s).val ∧ w'.heap[b]? = some (.cells cs 46 (0, 0)) ∧ Turn [] w w' :=
  (without_any r s hr hs w).mono fun e w' ⟨h1, h2⟩ => ⟨h1, h2.heap hb (by simp), h2⟩
/-- Five cells of a block of their own, all stored anew. -/
theorem box_set {w : World} {b : Nat} {x0 x1 x2 x3 x4 : Value} (h : w.heap[b]? = some (.cells #[x0, x1, x2, x3, x4] 46 (0, 0))) (y0 y1 y2 y3 y4 : Value) :
    (((((w.setCell ⟨b, 0, none⟩ y0).setCell ⟨b, 1, none⟩ y1).setCell ⟨b, 2, none⟩ y2).setCell ⟨b, 3, none⟩ y3).setCell ⟨b, 4, none⟩ y4).heap[b]? = some (.cells #[y0, y1, y2, y3, y4] 46 (0, 0)) ∧
    Turn [b] w (((((w.setCell ⟨b, 0, none⟩ y0).setCell ⟨b, 1, none⟩ y1).setCell ⟨b, 2, none⟩ y2).setCell ⟨b, 3, none⟩ y3).setCell ⟨b, 4, none⟩ y4) := by
  have h0 := heap_setCell_same w b 0 _ 46 y0 h
  have h1 := heap_setCell_same _ b 1 _ 46 y1 h0
  have h2 := heap_setCell_same _ b 2 _ 46 y2 h1
  have h3 := heap_setCell_same _ b 3 _ 46 y3 h2
  have h4 := heap_setCell_same _ b 4 _ 46 y4 h3
  refine ⟨h4, ?_⟩
  exact ((((((Turn.refl [b] w).setCell (.inl (by simp)) _).setCell (.inl (by simp)) _).setCell (.inl (by simp)) _).setCell (.inl (by simp)) _).setCell (.inl (by simp)) _)
/-- append of one row, which lies in a block of its own, onto a slice of the program's own: a step of a region that draws. -/
theorem step_app1R {ops : Array Oper} {o : Oper} {a : Act} {K : Act → World → Prop} {Q : Exit → Act → World → Prop} {E : Prop} (hgd : o.guard = none) (s x : Operand)
    (ho : o.op = .call { callee := .builtin .append, args := #[s, x], argTypes := #[37, 37] }) (W : World) (v : Value) (rs : List Row) (r : Row) (vb c : Nat)
    (hs : a.eval s = v) (hx : a.eval x = .slice (some ⟨vb, 0, none⟩) 1 c) (hown : OwnR W 0 v rs) (hb : W.heap[vb]? = some (.cells r.cells.toArray 46 (0, 0))) (hl : rs.length ≤ 100000)
    (h : ∀ v' w', OwnR w' 0 v' (rs ++ [r]) → Turn v.ownBlock.toList W w' → Moved W v v' → K (a.put o.dst v') w') :
    if Region.wanted o (yielded ops a.tmps) = true then Oper.wp Tryd.prog o a W K Q else E := by
  have hw : Region.wanted o (yielded ops a.tmps) = true := by simp [Region.wanted, hgd]
  rw [if_pos hw]
  obtain ⟨i0, hi0, hz0, hz1, hz2⟩ := info_parts row_info
  obtain ⟨v', w', hr, h2, h3, _, h5⟩ := run_append_own_at (P := Tryd.prog) W 0 37 o.type 46 i0 _ 5 40 Tryd.underlying37 hi0 hz0 hz1 hz2 rfl (by omega) v rs.length (rs.flatMap Row.cells) hown ⟨vb, 0, none⟩ 1 c r.cells rfl (block_cells hb) r.cells_one (by simp only [maxLen]; omega) (by omega) (Nat.zero_le _)
  unfold Oper.wp execOp
  simp only [ho, resolve, invoke, builtin, Sem.run_bind, Sem.run_pure, Result.andThen_ok, List.map_toArray, List.map_cons, List.map_nil, hs, hx, hr]
  refine h v' w' ?_ ((Turn.refl _ _).grown h3 (fun k hk => .inl (by simp [hk]))) ?_
  · unfold OwnR
    rw [List.length_append, flat_append]
    simpa [List.flatMap_cons] using h2
  · rcases h5 with h5 | h5
    · exact .inl h5
    · exact .inr ⟨_, h5, Nat.le_refl _⟩
theorem OwnR.ne39 {w : World} {B b : Nat} {v : Value} {rs : List Row} {cs : Array Value} {f : Nat × Nat} (h : OwnR w B v rs) (hb : w.heap[b]? = some (.cells cs 39 f)) : v.ownBlock ≠ some b := by
  intro e
  rcases h.2 with ⟨rfl, _⟩ | ⟨g, cap, cur, rfl, _, hg, _⟩
  · simp [Value.ownBlock] at e
  · simp [Value.ownBlock] at e
    subst e
    rw [hb] at hg
    injection hg with hg
    injection hg with _ e _
    exact absurd e (by decide)
/-- The set's slice and its count stored anew. -/
theorem set_store {w : World} {b : Nat} {v v' : Value} {c : Value} {rs : List Row} {T : Int} (hb : w.heap[b]? = some (.cells #[v, c] 39 (0, 0))) (ho : OwnR w 0 v' rs) (hk : Ok rs) (hT : T = (total rs : Int)) :
    SetAt ((w.setCell ⟨b, 0, none⟩ v').setCell ⟨b, 1, none⟩ (.int .i64 T)) b v' rs ∧ Turn [b] w ((w.setCell ⟨b, 0, none⟩ v').setCell ⟨b, 1, none⟩ (.int .i64 T)) := by
  subst hT
  have h0 := heap_setCell_same w b 0 _ 39 v' hb
  have h1 := heap_setCell_same _ b 1 _ 39 (.int .i64 (total rs)) h0
  have ht : Turn [b] w ((w.setCell ⟨b, 0, none⟩ v').setCell ⟨b, 1, none⟩ (.int .i64 (total rs))) := ((Turn.refl [b] w).setCell (.inl (by simp)) _).setCell (.inl (by simp)) _
  exact ⟨⟨h1, ho.turn ht (fun g hg => by
    have := ho.ne39 hb
    rintro hm
    exact this (by rw [hg]; simpa using hm)), hk⟩, ht⟩
theorem total_snoc (rs : List Row) (r : Row) : total (rs ++ [r]) = total rs + r.count := by simp [total]
def MinusPost (w : World) (rs ss : List Row) (e : Ending) (w' : World) : Prop :=
  ∃ b v, e = .returned (.pointer (some ⟨b, 0, none⟩)) ∧ SetAt w' b v (minusR rs ss) ∧ w.heap.size ≤ b ∧ (∀ g, v.ownBlock = some g → w.heap.size ≤ g) ∧ Turn [] w w'
/-- Of nothing: an empty set. -/
theorem of_none (w : World) : Calls Tryd.prog 9 #[.slice none 0 0] w fun e w' => e = .returned (.pointer (some ⟨w.heap.size, 0, none⟩)) ∧ w' = w.alloc (.cells #[.slice none 0 0, .int .i64 0] 39) := by
  go_enter Tryd.func9, Tryd.ntmps9
  go_wp2
  refine wp_loop_rounds 1 ?_
  rw [rounds_succ]
  go_wp2
  go_ret
  exact ⟨rfl, rfl⟩
set_option maxHeartbeats 2000000 in
theorem minus_any (p v : Value) (rs : List Row) (q u : Value) (ss : List Row) (w : World) (h : SetV w p v rs) (h' : SetV w q u ss) : Calls Tryd.prog 20 #[p, q] w (MinusPost w rs ss) := by
  obtain ⟨A, c, rfl, hrow, hc⟩ := h.form
  have hlen := h.ok.len
  have H := Lib.hid h
  have H' := Lib.hid h'
  have HR := Lib.hid hrow
  have HO := Lib.hid h.ok
  have HO' := Lib.hid h'.ok
  clear h h' hrow
  generalize hn : rs.length = n at *
  have HN := Lib.hid hn
  clear hn
  go_enter Tryd.func20, Tryd.ntmps20
  go_wp2_with (first
    | (go_at_call 9; refine (of_none _).mono ?_; rintro e w' ⟨rfl, rfl⟩)
    | (go_at_call 29; refine (all_any p _ rs _ (H.out.turn' ((Turn.refl _ _).alloc _))).mono ?_; rintro e w' ⟨rfl, rfl⟩))
  go_loopw [13] (fun i wr => ∃ (k : Nat) (vl : Value), k ≤ n ∧ i = .int .i64 k ∧ SetAt wr w.heap.size vl (minusR (rs.take k) ss) ∧ (∀ g, vl.ownBlock = some g → w.heap.size ≤ g) ∧ Turn [] w wr) (fun i _ => n - (intOf i).toNat)
  case atStart => exact ⟨0, .slice none 0 0, Nat.zero_le _, rfl, ⟨heap_alloc_new w _, World.ownsRow_nil _ _ _ _, Ok.nil⟩, by simp [Value.ownBlock], (Turn.refl _ _).alloc _⟩
  case round =>
    obtain ⟨k, vl, hk, rfl, hs, hv, ht⟩ := hrel
    have HS := Lib.hid hs
    have HV := Lib.hid hv
    have HT := Lib.hid ht
    clear hs hv ht
    by_cases hlt : k < n
    · obtain ⟨r, hr⟩ := at_lt (show k < rs.length by have := HN.out; omega)
      obtain ⟨g, rfl, hg, c0, c1, c2, c3, c4⟩ := (HR.out.turn' HT.out) k r hr
      have hfit := HO.out.fits r (List.mem_of_getElem? hr)
      have hra := hfit.a
      have hsf := rowOf_fits HO'.out.fits hfit.a
      have hsn := minusR_snoc (ss := ss) hr
      have HRk := Lib.hid hr
      have HF := Lib.hid hfit
      have HF' := Lib.hid hsf
      generalize hs : rowOf ss r.at_ = s at *
      have HSr := Lib.hid hs
      have HSn := Lib.hid hsn
      clear hr hfit hsf hs hsn
      go_upto_region 5 with fail
      go_cut [22] (fun x w' => Hid (w'.heap[wr.heap.size]? = some (.cells #[.int .i64 (r.without s).at_, .int .u64 (r.without s).w0, .int .u64 (r.without s).w1, .int .u64 (r.without s).w2, .int .u64 (r.without s).w3] 46 (0, 0))) ∧ Turn [] wr w')
      case first =>
        go_region_law (first
          | (go_simp; go_at_call 28; refine (rowAt_box q u ss r.at_ wr.heap.size _ _ (H'.out.turn' ((HT.out.alloc _).drew)) (by omega) (heap_alloc_new wr _)).mono ?_; rw [HSr.out]; rintro e w1 ⟨rfl, hbx1, ht1⟩; obtain ⟨⟨k0, k1, k2, k3, k4⟩, _⟩ := five hbx1; have HBx1 := Lib.hid hbx1; have HT1 := Lib.hid ht1; clear hbx1 ht1)
          | (go_simp; go_at_call 33; refine (without_box r s wr.heap.size _ HF.out HF'.out _ HBx1.out).mono ?_; rintro e w2 ⟨rfl, hbx2, ht2⟩; simp only [Row.val]; obtain ⟨⟨l0, l1, l2, l3, l4⟩, ⟨f0, f1, f2, f3, f4⟩⟩ := five hbx2; have HBx2 := Lib.hid hbx2; have HT2 := Lib.hid ht2; clear hbx2 ht2))
        all_goals
          go_wp2_with fail
          go_meet
          case rel =>
            obtain ⟨hbx3, hT3⟩ := box_set HBx2.out (.int .i64 (r.without s).at_) (.int .u64 (r.without s).w0) (.int .u64 (r.without s).w1) (.int .u64 (r.without s).w2) (.int .u64 (r.without s).w3)
            exact ⟨hbx3, ((((Turn.refl [] wr).alloc _).drew.trans' HT1.out).trans' HT2.out).trans hT3 (fun g hg => .inr (by simp at hg; omega))⟩
      case rest =>
        obtain ⟨hbx3, hTw⟩ := hcut
        have hset3 := HS.out.turn' hTw
        have hwl : w.heap.size < wr.heap.size := HS.out.lt
        have hqf := fits_without (s := s) HF.out
        have hsn := HSn.out
        generalize r.without s = q' at *
        have HTw := Lib.hid hTw
        have HQf := Lib.hid hqf
        have HSn' := Lib.hid hsn
        obtain ⟨⟨k0, k1, k2, k3, k4⟩, _⟩ := five hbx3.out
        have HSet3 := Lib.hid hset3
        clear hTw hset3 hqf hsn HSn c0 c1 c2 c3 c4
        have hca := count_any q' HQf.out
        have hcle := q'.count_le
        generalize hct : q'.count = ct at *
        have HCa := Lib.hid hca
        have HCt := Lib.hid hct
        clear hca hct
        go_wp2_with fail
        refine (HCa.out _).mono ?_
        rintro e w4 ⟨rfl, ht4⟩
        have HT4 := Lib.hid ht4
        clear ht4 k0 k1 k2 k3 k4
        by_cases hpos : 0 < ct
        · have hd : decide (0 < (ct : Int)) = true := by simp; omega
          have hset4 := HSet3.out.turn' HT4.out
          have hbx4 := HT4.out.heap hbx3.out (by simp)
          have hsn := HSn'.out
          rw [if_pos hpos] at hsn
          have hMl : (minusR (rs.take k) ss).length ≤ 4096 := HSet3.out.ok.len
          have hMt := HSet3.out.ok.total
          have hMo : Ok (minusR (rs.take (k + 1)) ss) := minusR_ok (ok_take HO.out _)
          generalize hM : minusR (rs.take k) ss = M at *
          obtain ⟨Al, cl, hvl, _, _⟩ := hset4.rows.form
          subst hvl
          have e0 : w4.cell? ⟨w.heap.size, 0, none⟩ = some (.slice Al M.length cl) := cell_of_row w4 w.heap.size 0 _ 39 (0, 0) hset4.blk
          have e1 : w4.cell? ⟨w.heap.size, 1, none⟩ = some (.int .i64 (total M)) := cell_of_row w4 w.heap.size 1 _ 39 (0, 0) hset4.blk
          obtain ⟨⟨x0, x1, x2, x3, x4⟩, _⟩ := five hbx4
          have hlt4 : w.heap.size < w4.heap.size := hset4.lt
          have hne4 := World.new_ne w4 ⟨w.heap.size, 0, none⟩ e0
          have hne5 := World.new_ne w4 ⟨wr.heap.size, 0, none⟩ x0
          have HSet4 := Lib.hid hset4
          have HSn4 := Lib.hid hsn
          have HMo := Lib.hid hMo
          have HMM := Lib.hid hM
          clear hset4 hbx4 hsn hMo hM
          go_wp2_with fail
          go_region_law (refine step_app1R rfl (.tmp 31) (.tmp 33) rfl _ (.slice Al M.length cl) M q' w4.heap.size 1 (by simp [Act.eval, Act.put]) (by simp [Act.eval, Act.put]) (by exact HSet4.out.rows.turn' (((Turn.refl [] w4).alloc _).drew)) (by exact heap_alloc_new w4 _) (by omega) ?_
                         intro v5 w5 ho5 ht5 hm5
                         obtain ⟨A5, c5, hv5, _, _⟩ := ho5.form
                         subst hv5
                         have hb5 := ht5.heap ((((Turn.refl [] w4).alloc _).drew).heap HSet4.out.blk (by simp)) (fun hg => HSet4.out.ne (by simpa using hg))
                         have n0 : w5.cell? ⟨w.heap.size, 0, none⟩ = some (.slice Al M.length cl) := cell_of_row w5 w.heap.size 0 _ 39 (0, 0) hb5
                         have n1 : w5.cell? ⟨w.heap.size, 1, none⟩ = some (.int .i64 (total M)) := cell_of_row w5 w.heap.size 1 _ 39 (0, 0) hb5
                         have f0 : w5.frozen? ⟨w.heap.size, 0, none⟩ = false := frozen_of_row w5 w.heap.size 0 _ 39 hb5
                         have f1 : w5.frozen? ⟨w.heap.size, 1, none⟩ = false := frozen_of_row w5 w.heap.size 1 _ 39 hb5
                         have HO5 := Lib.hid ho5
                         have HT5 := Lib.hid ht5
                         have HM5 := Lib.hid hm5
                         have HB5 := Lib.hid hb5
                         clear ho5 ht5 hm5 hb5)
          all_goals
            generalize htt : total M = tt at *
            have HTt := Lib.hid htt
            clear htt
            go_wp2_with fail
            go_roundw
            case rel =>
              have hMo := HMo.out
              rw [HSn4.out] at hMo
              have hle : (M ++ [q']).length = M.length + 1 := by simp
              have ho5 := HO5.out
              have hm5 := HM5.out
              have hg5 := ho5.lt
              rw [hle] at ho5 hm5
              obtain ⟨hs6, ht6⟩ := set_store HB5.out ho5 hMo (T := (tt : Int) + (ct : Int)) (by rw [total_snoc, HTt.out, HCt.out]; omega)
              refine ⟨k + 1, .slice A5 (M.length + 1) c5, by omega, by go_num, ?_, ?_, ?_⟩
              · rw [HSn4.out]
                exact hs6
              · intro g hg
                rcases hm5 with e | ⟨g', e, hge⟩
                · exact HV.out g (by rw [← e]; exact hg)
                · rw [e] at hg
                  injection hg with hg
                  subst hg
                  have h1 := HT.out.size
                  have h2 := HTw.out.size
                  have h3 := HT4.out.size
                  simp at hge
                  omega
              · have ht7 : Turn (w.heap.size :: (Value.slice Al M.length cl).ownBlock.toList) w4 ((w5.setCell ⟨w.heap.size, 0, none⟩ (.slice A5 (M.length + 1) c5)).setCell ⟨w.heap.size, 1, none⟩ (.int .i64 ((tt : Int) + (ct : Int)))) :=
                  (((((Turn.refl (w.heap.size :: (Value.slice Al M.length cl).ownBlock.toList) w4).alloc _).drew).trans HT5.out (fun g hg => .inl (List.mem_cons_of_mem _ hg))).trans ht6 (fun g hg => .inl (by simp at hg; simp [hg])))
                refine (HT.out.trans' (HTw.out.trans' HT4.out)).trans ht7 (fun g hg => ?_)
                rcases List.mem_cons.1 hg with e | e
                · exact .inr (by omega)
                · exact .inr (HV.out g (by simpa using e))
            case measure => simp [intOf]; omega
        · have hd : decide (0 < (ct : Int)) = false := by simp; omega
          go_wp2_with fail
          go_roundw
          case rel =>
            refine ⟨k + 1, vl, by omega, by go_num, ?_, HV.out, HT.out.trans' (HTw.out.trans' HT4.out)⟩
            rw [HSn'.out, if_neg hpos, List.append_nil]
            exact HSet3.out.turn' HT4.out
          case measure => simp [intOf]; omega
    · go_wp2
      go_ret
      refine ⟨w.heap.size, vl, rfl, ?_, Nat.le_refl _, HV.out, HT.out⟩
      have := HS.out
      rw [List.take_of_length_le (by have := HN.out; omega)] at this
      exact this
end Go.Proofs.YtclofjlonncnlaaDoor
