/- Sets: join. -/
import Derived.Test.YtclofjlonncnlaaDoorZer
set_option linter.unusedSimpArgs false
set_option linter.unusedVariables false
namespace Go.Proofs.YtclofjlonncnlaaDoor
open Go.RowKit

def JoinPost (b : Nat) (v : Value) (rs ms : List Row) (w : World) (e : Ending) (w' : World) : Prop :=
  e = .returned (.tuple #[]) ∧ ∃ v', w'.heap[b]? = some (.cells #[v', .int .i64 (total rs)] 39 (0, 0)) ∧ OwnR w' 0 v' (mergeR rs ms) ∧ Turn (b :: v.ownBlock.toList) w w' ∧ Moved w v v'
/-- The set with room for the rows to come. -/
def Grew (b : Nat) (v : Value) (rs : List Row) (k : Nat) (w w2 : World) : Prop :=
  ∃ v2, w2.heap[b]? = some (.cells #[v2, .int .i64 (total rs)] 39 (0, 0)) ∧ OwnR w2 0 v2 (rs ++ List.replicate k zRow) ∧ Turn (b :: v.ownBlock.toList) w w2 ∧ Moved w v v2
theorem grew_of {b : Nat} {v v2 : Value} {rs : List Row} {k : Nat} {w w2 : World} (hb : w2.heap[b]? = some (.cells #[v, .int .i64 (total rs)] 39 (0, 0))) (ho : OwnR w2 0 v2 (rs ++ List.replicate k zRow)) (ht : Turn v.ownBlock.toList w w2) (hm : Moved w v v2) : Grew b v rs k w (w2.setCell ⟨b, 0, none⟩ v2) := by
  have hT : Turn [b] w2 (w2.setCell ⟨b, 0, none⟩ v2) := (Turn.refl [b] w2).setCell (.inl (by simp)) _
  refine ⟨v2, heap_setCell_same w2 b 0 _ 39 v2 hb, ho.turn hT (fun g hg hm => ho.ne39 hb (by rw [hg]; simpa using hm)), ?_, hm⟩
  exact (ht.more (G := b :: v.ownBlock.toList) (fun g hg => .inl (List.mem_cons_of_mem _ hg))).trans hT (fun g hg => .inl (by
    have : g = b := by simpa using hg
    simp [this]))
theorem lacks_keep (b : Nat) (v : Value) (rs ms : List Row) (A : Option Addr) (m c k : Nat) (w : World) (h : SetAt w b v rs) (hm : RowsAt w A ms) (hn : m = ms.length) (hl : m ≤ 100000) (hf : ∀ r ∈ ms, r.Fits) (hk : lackN rs ms = k) :
    Calls Tryd.prog 44 #[.pointer (some ⟨b, 0, none⟩), .slice A m c] w fun e w' => e = .returned (.int .i64 k) ∧ SetAt w' b v rs ∧ Turn [] w w' := by
  subst hk
  exact (lacks_any _ v rs ms A m c w (.inr ⟨b, rfl, h⟩) hm hn hl hf).mono fun e w' ⟨h1, h2⟩ => ⟨h1, h.turn' h2, h2⟩
theorem set_drop {X : List Row} {t : Nat} (h : t < X.length) (s : Row) : (X.set t s).drop t = s :: X.drop (t + 1) := by
  rw [List.set_eq_take_append_cons_drop, if_pos h]
  have hl : (X.take t).length = t := by rw [List.length_take]; omega
  rw [List.drop_append_of_le_length (by omega), List.drop_of_length_le (by omega)]
  rfl
theorem set_take {X : List Row} {t i : Nat} (h : i ≤ t) (s : Row) : (X.set t s).take i = X.take i := by
  rw [List.take_set]
  apply List.set_eq_of_length_le
  rw [List.length_take]; omega
/-- How far the laying of rows has come: i and j rows are left; what is behind them lies. -/
structure JInv (rs ms : List Row) (L i j : Nat) (X : List Row) : Prop where
  il : i ≤ rs.length
  jl : j ≤ ms.length
  len : X.length = L
  tot : (mergeR rs ms).length = L
  own : X.take i = rs.take i
  fin : mergeR (rs.take i) (ms.take j) ++ X.drop (mergeR (rs.take i) (ms.take j)).length = mergeR rs ms
theorem merge_ge {rs ms : List Row} (ha : Asc rs) (hb : Asc ms) (i j : Nat) (hi : i ≤ rs.length) : i ≤ (mergeR (rs.take i) (ms.take j)).length := by
  have h := (merged _ (rs.take i) (ms.take j) (Nat.le_refl _) (List.Pairwise.sublist (List.take_sublist i rs) ha) (List.Pairwise.sublist (List.take_sublist j ms) hb)).len
  rw [h, List.length_take]
  omega
theorem JInv.step {rs ms : List Row} {L i j i' j' t : Nat} {X : List Row} {q : Row} (h : JInv rs ms L i j X) (ha : Asc rs) (hb : Asc ms) (hi : i' ≤ i) (hj : j' ≤ j)
    (he : mergeR (rs.take i) (ms.take j) = mergeR (rs.take i') (ms.take j') ++ [q]) (ht : (mergeR (rs.take i') (ms.take j')).length = t) : JInv rs ms L i' j' (X.set t q) ∧ t < L ∧ i' ≤ t := by
  have hil := h.il
  have hit : i' ≤ t := by rw [← ht]; exact merge_ge ha hb i' j' (by omega)
  have hfin := h.fin
  have hlt : t < X.length := by
    have h2 := congrArg List.length hfin
    rw [he, List.length_append, List.length_drop, List.length_append, ht, h.tot, ← h.len] at h2
    simp only [List.length_cons, List.length_nil] at h2
    omega
  refine ⟨⟨by omega, by have := h.jl; omega, by rw [List.length_set]; exact h.len, h.tot, ?_, ?_⟩, by rw [← h.len]; exact hlt, hit⟩
  · rw [set_take hit]
    have := congrArg (List.take i') h.own
    rwa [List.take_take, List.take_take, Nat.min_eq_left hi] at this
  · rw [ht, set_drop hlt, ← hfin, he, List.length_append, ht]
    simp
/-- What the statement s.rows[to].or(more[next]) reads. -/
def SQ (w : World) (b gm o : Nat) (v : Value) (q : Row) : Prop := w.cell? ⟨b, 0, none⟩ = some v ∧ w.cell? ⟨gm, o, none⟩ = some (.int .i64 q.at_) ∧ w.cell? ⟨gm, o + 1, none⟩ = some (.int .u64 q.w0) ∧ w.cell? ⟨gm, o + 2, none⟩ = some (.int .u64 q.w1) ∧ w.cell? ⟨gm, o + 3, none⟩ = some (.int .u64 q.w2) ∧ w.cell? ⟨gm, o + 4, none⟩ = some (.int .u64 q.w3)
theorem SQ.turn {F : List Nat} {w w' : World} {b gm o : Nat} {v : Value} {q : Row} (h : SQ w b gm o v q) (t : Turn F w w') (hb : b ∉ F) (hg : gm ∉ F) : SQ w' b gm o v q := by
  have lb := World.block_lt_of_cell? w ⟨b, 0, none⟩ h.1
  have lg := World.block_lt_of_cell? w ⟨gm, o, none⟩ h.2.1
  have k := fun x => t.cell (p := ⟨gm, x, none⟩) lg hg
  exact ⟨(t.cell (p := ⟨b, 0, none⟩) lb hb).trans h.1, (k _).trans h.2.1, (k _).trans h.2.2.1, (k _).trans h.2.2.2.1, (k _).trans h.2.2.2.2.1, (k _).trans h.2.2.2.2.2⟩
set_option maxRecDepth 100000 in
set_option maxHeartbeats 4000000 in
theorem join_any (b : Nat) (v : Value) (rs ms : List Row) (A : Option Addr) (m c : Nat) (w : World) (h : SetAt w b v rs) (hm : RowsAt w A ms) (hn : m = ms.length) (hms : Ok ms) (hA : ∀ g, A = some ⟨g, 0, none⟩ → g ≠ b ∧ v.ownBlock ≠ some g) :
    Calls Tryd.prog 41 #[.pointer (some ⟨b, 0, none⟩), .slice A m c] w (JoinPost b v rs ms w) := by
  obtain ⟨Av, cv, hv, _, _⟩ := h.rows.form
  subst hv
  have hrl := h.ok.len
  have hml := hms.len
  generalize hk : lackN rs ms = k at *
  have hkm : k ≤ m := by rw [← hk, hn]; exact lackN_le rs ms
  have HK := Lib.hid hk
  have H := Lib.hid h
  have HM := Lib.hid hm
  have HN := Lib.hid hn
  have HMs := Lib.hid hms
  have HA := Lib.hid hA
  generalize hrn : rs.length = n at *
  have HRn := Lib.hid hrn
  have hc0 : w.cell? ⟨b, 0, none⟩ = some (.slice Av n cv) := cell_of_row w b 0 _ 39 (0, 0) h.blk
  have hml' : m ≤ 4096 := by omega
  clear h hm hn hms hA hk hrn
  go_enter Tryd.func41, Tryd.ntmps41
  go_upto_region 1 with fail
  go_cut [] (fun w2 => Hid (Grew b (.slice Av n cv) rs k w w2))
  case first =>
    go_region_law (first
      | (refine step_appz rfl (.tmp 20) (.tmp 23) rfl _ (.slice Av n cv) rs k (by simp [Act.eval, Act.put]) (by simp [Act.eval, Act.put]) (by exact HS1.out.rows) (by have := HRn.out; omega) ?_
         intro v2 w2 ho2 ht2 hm2
         obtain ⟨A2, c2, hv2, _, _⟩ := ho2.form
         have hb2 := ht2.heap HS1.out.blk (fun hg => HS1.out.ne (by simpa using hg))
         subst hv2
         have n0 : w2.cell? ⟨b, 0, none⟩ = some (.slice Av n cv) := cell_of_row w2 b 0 _ 39 (0, 0) hb2
         have f0 : w2.frozen? ⟨b, 0, none⟩ = false := frozen_of_row w2 b 0 _ 39 hb2
         have HO2 := Lib.hid ho2
         have HT2 := Lib.hid ht2
         have HM2 := Lib.hid hm2
         have HB2 := Lib.hid hb2
         clear ho2 ht2 hm2 hb2)
      | (go_simp; go_at_call 44; refine (lacks_keep b (.slice Av n cv) rs ms A m c k _ (by exact H.out.turn' ((Turn.refl [] w).drew)) (by exact HM.out.turn' ((Turn.refl [] w).drew)) HN.out (by omega) HMs.out.fits HK.out).mono ?_; rintro e w1 ⟨rfl, hs1, ht1⟩; have n1 : w1.cell? ⟨b, 0, none⟩ = some (.slice Av n cv) := cell_of_row w1 b 0 _ 39 (0, 0) hs1.blk; have HS1 := Lib.hid hs1; have HT1 := Lib.hid ht1; clear hs1 ht1))
    all_goals
      go_wp2_with fail
      go_meet
      case rel =>
        have e : (rs ++ List.replicate k zRow).length = rs.length + k := by simp
        have ho2 := HO2.out
        have hm2 := HM2.out
        rw [e] at ho2 hm2
        refine grew_of HB2.out ho2 ((((Turn.refl _ w).drew).trans HT1.out (by simp)).trans HT2.out (fun g hg => .inl hg)) ?_
        rcases hm2 with h1 | ⟨g, h1, h2⟩
        · exact .inl h1
        · exact .inr ⟨g, h1, Nat.le_trans HT1.out.size h2⟩
  case rest =>
    obtain ⟨v2, hb2, ho2, ht2, hm2⟩ := hcut.out
    obtain ⟨A2, c2, hv2, _, _⟩ := ho2.form
    have hL : (rs ++ List.replicate k zRow).length = n + k := by have := HRn.out; simp; omega
    rw [hL] at hv2
    subst hv2
    have hmr := merged (rs.length + ms.length) rs ms (Nat.le_refl _) H.out.ok.asc HMs.out.asc
    have hFl : (mergeR rs ms).length = n + k := by rw [hmr.len, HRn.out, HK.out]
    have d0 : wc.cell? ⟨b, 0, none⟩ = some (.slice A2 (n + k) c2) := cell_of_row wc b 0 _ 39 (0, 0) hb2
    have HB2 := Lib.hid hb2
    have HO2 := Lib.hid ho2
    have HT2 := Lib.hid ht2
    have HM2 := Lib.hid hm2
    have HFl := Lib.hid hFl
    clear hb2 ho2 ht2 hm2 hL hFl hcut
    go_wp2_with fail
    by_cases hm0 : m = 0
    · subst hm0
      have hms0 : ms = [] := List.eq_nil_of_length_eq_zero HN.out.symm
      have hk0 : k = 0 := by omega
      subst hk0
      refine wp_loop_rounds 1 ?_
      rw [rounds_succ]
      go_wp2
      go_end0
      refine ⟨rfl, _, HB2.out, ?_, HT2.out, HM2.out⟩
      have := HO2.out
      rw [hms0, mergeR_nil]
      simpa using this
    · have hL0 : 0 < n + k := by
        rcases Nat.eq_zero_or_pos (n + k) with h0 | h0
        · have e1 : rs = [] := List.eq_nil_of_length_eq_zero (by have := HRn.out; omega)
          have e2 := HK.out
          have : ms.filter (fun r => !hasRow [] r.at_) = ms := List.filter_eq_self.2 (fun q _ => by simp [hasRow])
          rw [e1, lackN, this] at e2
          have := HN.out
          omega
        · exact h0
      obtain ⟨g2, hg2⟩ : ∃ g2, A2 = some ⟨g2, 0, none⟩ := by
        rcases HO2.out.2 with ⟨h1, h2⟩ | ⟨g, cap, cur, h1, _⟩
        · rw [List.length_append, List.length_replicate] at h2
          have := HRn.out
          omega
        · injection h1 with h1
          exact ⟨g, h1⟩
      subst hg2
      generalize hL : n + k = L at *
      have hLle : L ≤ 8192 := by omega
      have hLi : ((n : Int) + (k : Int)) = (L : Int) := by omega
      rw [hLi]
      have HL := Lib.hid hL
      have hgb : g2 ≠ b := fun e => HO2.out.ne39 HB2.out (by rw [e]; rfl)
      have hAg : ∀ g, A = some ⟨g, 0, none⟩ → g ≠ g2 := by
        intro g hg e
        subst e
        rcases HM2.out with h1 | ⟨g', h1, h2⟩
        · exact (HA.out g hg).2 (by rw [← h1]; rfl)
        · simp [Value.ownBlock] at h1
          subst h1
          obtain ⟨r0, hr0⟩ := at_lt (show 0 < ms.length by have := HN.out; omega)
          obtain ⟨g'', e2, hlt2, _⟩ := HM.out 0 r0 hr0
          rw [hg] at e2
          injection e2 with e2
          injection e2 with e2
          omega
      have HAg := Lib.hid hAg
      have hRc : RowsAt wc A ms := HM.out.turn HT2.out (fun g hg hmem => by
        rcases List.mem_cons.1 hmem with e | e
        · exact (HA.out g hg).1 e
        · exact (HA.out g hg).2 (by simpa using e))
      have HRc := Lib.hid hRc
      clear hL hLi hAg hRc
      go_loopw [4, 5, 6] (fun o x t wr => ∃ (i j : Nat) (X : List Row) (oi xi ti : Int), o = .int .i64 oi ∧ x = .int .i64 xi ∧ t = .int .i64 ti ∧ oi = (i : Int) - 1 ∧ xi = (j : Int) - 1 ∧ ti = ((mergeR (rs.take i) (ms.take j)).length : Int) - 1 ∧
        JInv rs ms L i j X ∧ OwnR wr 0 (.slice (some ⟨g2, 0, none⟩) L c2) X ∧ Turn [g2] wc wr) (fun o x _ _ => ((intOf o + 1).toNat + (intOf x + 1).toNat))
      case atStart =>
        have e1 : rs.take n = rs := List.take_of_length_le (by have := HRn.out; omega)
        have e2 : ms.take m = ms := List.take_of_length_le (by have := HN.out; omega)
        have e3 : (rs ++ List.replicate k zRow).length = L := by have := HRn.out; have := HL.out; simp; omega
        refine ⟨n, m, rs ++ List.replicate k zRow, _, _, _, rfl, rfl, rfl, rfl, rfl, ?_, ⟨?_, ?_, e3, HFl.out, ?_, ?_⟩, HO2.out, Turn.refl _ _⟩
        · rw [e1, e2, HFl.out]
        · have := HRn.out; omega
        · have := HN.out; omega
        · rw [List.take_append_of_le_length (by have := HRn.out; omega)]
        · rw [e1, e2, HFl.out, List.drop_of_length_le (by omega), List.append_nil]
      case round =>
        obtain ⟨i, j, X, oi, xi, ti, rfl, rfl, rfl, hoi, hxi, hti, hj, hown, ht⟩ := hrel
        have HJ := Lib.hid hj
        have HO := Lib.hid hown
        have HT := Lib.hid ht
        have hil : i ≤ 4096 := by have := hj.il; have := HRn.out; omega
        have hjl : j ≤ 4096 := by have := hj.jl; have := HN.out; omega
        clear hj hown ht
        rcases Nat.eq_zero_or_pos j with hj0 | hj0
        · subst hj0
          obtain rfl : xi = -1 := by omega
          have HTi := Lib.hid hti
          have HOi := Lib.hid hoi
          clear hti hoi hxi
          go_wp2_with fail
          go_end0
          have hX : X = mergeR rs ms := by
            have h1 := HJ.out.fin
            have h2 := HJ.out.own
            have h3 := HJ.out.il
            rw [List.take_zero, mergeR_nil, List.length_take, Nat.min_eq_left h3, ← h2, List.take_append_drop] at h1
            exact h1
          refine ⟨rfl, .slice (some ⟨g2, 0, none⟩) L c2, HT.out.heap HB2.out (by simpa using hgb.symm), by rw [← hX]; exact HO.out, HT2.out.trans HT.out (fun g hg => ?_), HM2.out⟩
          have e : g = g2 := by simpa using hg
          subst e
          rcases HM2.out with h1 | ⟨g', h1, h2⟩
          · exact .inl (List.mem_cons_of_mem _ (by rw [← h1]; simp [Value.ownBlock]))
          · simp [Value.ownBlock] at h1
            subst h1
            exact .inr h2
        · obtain ⟨j', rfl⟩ : ∃ j', j = j' + 1 := ⟨j - 1, by omega⟩
          obtain rfl : xi = (j' : Int) := by omega
          obtain ⟨q, hq⟩ := at_lt (show j' < ms.length by have := HJ.out.jl; omega)
          obtain ⟨gm, hgm, hgl, c0, c1, c3, c4, c5⟩ := (HRc.out.turn HT.out (fun g hg hmem => HAg.out g hg (by simpa using hmem))) j' q hq
          subst hgm
          have hgne : gm ≠ g2 := HAg.out gm rfl
          have hqf := HMs.out.fits q (List.mem_of_getElem? hq)
          have hqa := hqf.a
          have htk := take_snoc hq
          have hj'm : j' < m := by have := HJ.out.jl; have := HN.out; omega
          have b0 : wr.cell? ⟨b, 0, none⟩ = some (.slice (some ⟨g2, 0, none⟩) L c2) := cell_of_row wr b 0 _ 39 (0, 0) (HT.out.heap HB2.out (by simpa using hgb.symm))
          have HTk := Lib.hid htk
          have HQ := Lib.hid hq
          have HQf := Lib.hid hqf
          clear htk hq hqf hj0 hxi
          rcases Nat.eq_zero_or_pos i with hi0 | hi0
          · subst hi0
            obtain rfl : oi = -1 := by omega
            have he : mergeR (rs.take 0) (ms.take (j' + 1)) = mergeR (rs.take 0) (ms.take j') ++ [q] := by
              rw [List.take_zero, mergeR_nil', mergeR_nil', HTk.out]
            generalize htt : (mergeR (rs.take 0) (ms.take j')).length = t at *
            obtain ⟨hJ', htL, hit⟩ := HJ.out.step H.out.ok.asc HMs.out.asc (Nat.le_refl 0) (by omega) he htt
            obtain rfl : ti = (t : Int) := by rw [he, List.length_append, htt] at hti; simp at hti; omega
            obtain ⟨x, hx⟩ := at_lt (show t < X.length by rw [HJ.out.len]; exact htL)
            obtain ⟨x0, x1, x2, x3, x4⟩ := HO.out.cells HJ.out.len.symm hx
            have f0 := HO.out.frozen HJ.out.len.symm (t * 5)
            have f1 := HO.out.frozen HJ.out.len.symm (t * 5 + 1)
            have f2 := HO.out.frozen HJ.out.len.symm (t * 5 + 2)
            have f3 := HO.out.frozen HJ.out.len.symm (t * 5 + 3)
            have f4 := HO.out.frozen HJ.out.len.symm (t * 5 + 4)
            have HJ' := Lib.hid hJ'
            have HTt := Lib.hid htt
            have HX := Lib.hid hx
            have tL : (t : Int) < (L : Int) := by omega
            have jM : (j' : Int) < (m : Int) := by omega
            clear hJ' htt hti hx he hoi
            have hdm : decide ((-1 : Int) < 0) = true := by decide
            go_wp2_with fail
            go_quiet (fail)
            go_wp2_with fail
            go_region
            go_wp2_with fail
            go_roundw
            case rel =>
              obtain ⟨p1, p2⟩ := OwnR.put5 (w := wr.drewN (nq + 1)) HO.out HJ.out.len.symm htL q
              exact ⟨0, j', X.set t q, _, _, _, rfl, rfl, rfl, by omega, by omega, by rw [HTt.out], HJ'.out, p1, (HT.out.drewN _).trans p2 (by simp)⟩
            case measure => simp [intOf]
          · obtain ⟨i', rfl⟩ : ∃ i', i = i' + 1 := ⟨i - 1, by omega⟩
            obtain rfl : oi = (i' : Int) := by omega
            obtain ⟨r, hr⟩ := at_lt (show i' < rs.length by have := HJ.out.il; omega)
            have htr := take_snoc hr
            have hXr : X[i']? = some r := by
              have h1 := congrArg (fun l => l[i']?) HJ.out.own
              simp only [List.getElem?_take] at h1
              rw [if_pos (by omega), if_pos (by omega)] at h1
              rw [h1]; exact hr
            obtain ⟨r0, r1, r2, r3, r4⟩ := HO.out.cells HJ.out.len.symm hXr
            have hrf := H.out.ok.fits r (List.mem_of_getElem? hr)
            have hra := hrf.a
            have hiL : i' < L := by have := (List.getElem?_eq_some_iff.1 hXr).1; have := HJ.out.len; omega
            have iL : (i' : Int) < (L : Int) := by omega
            have jM : (j' : Int) < (m : Int) := by omega
            have hd0 : decide ((i' : Int) < 0) = false := by simp
            have HTr := Lib.hid htr
            have HXr := Lib.hid hXr
            have HRf := Lib.hid hrf
            have HRr := Lib.hid hr
            clear htr hXr hrf hr hi0 hoi
            rcases Nat.lt_trichotomy r.at_ q.at_ with hc | hc | hc
            · have he : mergeR (rs.take (i' + 1)) (ms.take (j' + 1)) = mergeR (rs.take (i' + 1)) (ms.take j') ++ [q] := by
                rw [HTr.out, HTk.out]; exact mergeR_lt _ _ _ _ hc
              generalize htt : (mergeR (rs.take (i' + 1)) (ms.take j')).length = t at *
              obtain ⟨hJ', htL, hit⟩ := HJ.out.step H.out.ok.asc HMs.out.asc (Nat.le_refl (i' + 1)) (by omega) he htt
              obtain rfl : ti = (t : Int) := by rw [he, List.length_append, htt] at hti; simp at hti; omega
              obtain ⟨x, hx⟩ := at_lt (show t < X.length by rw [HJ.out.len]; exact htL)
              obtain ⟨x0, x1, x2, x3, x4⟩ := HO.out.cells HJ.out.len.symm hx
              have f0 := HO.out.frozen HJ.out.len.symm (t * 5)
              have f1 := HO.out.frozen HJ.out.len.symm (t * 5 + 1)
              have f2 := HO.out.frozen HJ.out.len.symm (t * 5 + 2)
              have f3 := HO.out.frozen HJ.out.len.symm (t * 5 + 3)
              have f4 := HO.out.frozen HJ.out.len.symm (t * 5 + 4)
              have HJ' := Lib.hid hJ'
              have HTt := Lib.hid htt
              have HX := Lib.hid hx
              have tL : (t : Int) < (L : Int) := by omega
              have hd1 : decide (r.at_ < q.at_) = true := by simpa using hc
              clear hJ' htt hti hx he
              go_wp2_with fail
              go_quiet (fail)
              go_wp2_with fail
              go_region
              go_wp2_with fail
              go_roundw
              case rel =>
                obtain ⟨p1, p2⟩ := OwnR.put5 (w := wr.drewN (nq + 1)) HO.out HJ.out.len.symm htL q
                exact ⟨i' + 1, j', X.set t q, _, _, _, rfl, rfl, rfl, by omega, by omega, by rw [HTt.out], HJ'.out, p1, (HT.out.drewN _).trans p2 (by simp)⟩
              case measure => simp [intOf]
            · have he : mergeR (rs.take (i' + 1)) (ms.take (j' + 1)) = mergeR (rs.take i') (ms.take j') ++ [r.or_ q] := by
                rw [HTr.out, HTk.out]; exact mergeR_eq _ _ _ _ hc
              generalize htt : (mergeR (rs.take i') (ms.take j')).length = t at *
              obtain ⟨hJ', htL, hit⟩ := HJ.out.step H.out.ok.asc HMs.out.asc (show i' ≤ i' + 1 by omega) (show j' ≤ j' + 1 by omega) he htt
              obtain rfl : ti = (t : Int) := by rw [he, List.length_append, htt] at hti; simp at hti; omega
              obtain ⟨x, hx⟩ := at_lt (show t < X.length by rw [HJ.out.len]; exact htL)
              obtain ⟨x0, x1, x2, x3, x4⟩ := HO.out.cells HJ.out.len.symm hx
              have f0 := HO.out.frozen HJ.out.len.symm (t * 5)
              have f1 := HO.out.frozen HJ.out.len.symm (t * 5 + 1)
              have f2 := HO.out.frozen HJ.out.len.symm (t * 5 + 2)
              have f3 := HO.out.frozen HJ.out.len.symm (t * 5 + 3)
              have f4 := HO.out.frozen HJ.out.len.symm (t * 5 + 4)
              have HJ' := Lib.hid hJ'
              have HTt := Lib.hid htt
              have HX := Lib.hid hx
              have tL : (t : Int) < (L : Int) := by omega
              have hd1 : decide (r.at_ < q.at_) = false := by simp; omega
              have hd2 : decide (q.at_ < r.at_) = false := by simp; omega
              have HC := Lib.hid hc
              clear hJ' htt hti hx he hc
              go_wp2_with fail
              go_quiet (fail)
              go_wp2_with fail
              go_quiet (fail)
              go_upto_region 5 with fail
              go_cut [] (fun w1 => Hid (OwnR w1 0 (.slice (some ⟨g2, 0, none⟩) L c2) (X.set t r)) ∧ Hid (Turn [g2] wr w1))
              case first =>
                go_region
                all_goals
                  go_wp2_with fail
                  go_meet
                  case rel =>
                    have pp := fun k => OwnR.put5 (w := wr.drewN k) HO.out HJ.out.len.symm htL r
                    exact ⟨(pp _).1, ((Turn.refl _ wr).drewN _).trans (pp _).2 (by simp)⟩
              case rest =>
                obtain ⟨HO1, HT1⟩ := hcut
                have hsq : SQ wr b gm (j' * 5) (.slice (some ⟨g2, 0, none⟩) L c2) q := ⟨b0, c0, c1, c3, c4, c5⟩
                have hsq1 := hsq.turn HT1.out (by simpa using hgb.symm) (by simpa using hgne)
                obtain ⟨y0, y1, y2, y3, y4, y5⟩ := hsq1
                have hsq1 : Hid (SQ wc b gm (j' * 5) (.slice (some ⟨g2, 0, none⟩) L c2) q) := ⟨y0, y1, y2, y3, y4, y5⟩
                have hlen1 : L = (X.set t r).length := by rw [List.length_set]; exact HJ.out.len.symm
                have hget1 : (X.set t r)[t]? = some r := by rw [List.getElem?_set_self (by rw [HJ.out.len]; exact htL)]
                have HLen1 := Lib.hid hlen1
                have HGet1 := Lib.hid hget1
                clear hsq hlen1 hget1 x0 x1 x2 x3 x4 f0 f1 f2 f3 f4 r0 r1 r2 r3 r4 b0 c0 c1 c3 c4 c5
                go_wp2_with fail
                go_region_held3 (fun w' => w'.cell? ⟨b, 0, none⟩ = some (.slice (some ⟨g2, 0, none⟩) L c2) ∧ w'.cell? ⟨gm, j' * 5, none⟩ = some (.int .i64 q.at_) ∧ w'.cell? ⟨gm, j' * 5 + 1, none⟩ = some (.int .u64 q.w0) ∧ w'.cell? ⟨gm, j' * 5 + 2, none⟩ = some (.int .u64 q.w1) ∧ w'.cell? ⟨gm, j' * 5 + 3, none⟩ = some (.int .u64 q.w2) ∧ w'.cell? ⟨gm, j' * 5 + 4, none⟩ = some (.int .u64 q.w3))
                  (first | exact SQ.turn hsq1.out (((Turn.refl [g2] _).drew).trans ht5 (by simp)) (by simpa using hgb.symm) (by simpa using hgne) | go_keep)
                  (first
                    | (go_at_call 45; refine (or_any 0 g2 L c2 t (X.set t r) r q _ (by exact HO1.out.turn' ((Turn.refl [] _).drew)) HLen1.out HGet1.out HRf.out HQf.out).mono ?_; rintro e w5 ⟨rfl, ho5, ht5⟩))
                have HO5 := Lib.hid ho5
                have HT5 := Lib.hid ht5
                clear ho5 ht5
                go_wp2_with fail
                go_roundw
                case rel =>
                  have ho5 := HO5.out
                  rw [List.set_set] at ho5
                  exact ⟨i', j', X.set t (r.or_ q), _, _, _, rfl, rfl, rfl, by omega, by omega, by rw [HTt.out], HJ'.out, ho5, (HT.out.trans HT1.out (by simp)).trans (((Turn.refl [g2] _).drew).trans HT5.out (by simp)) (by simp)⟩
                case measure => simp [intOf]; omega
            · have he : mergeR (rs.take (i' + 1)) (ms.take (j' + 1)) = mergeR (rs.take i') (ms.take (j' + 1)) ++ [r] := by
                rw [HTr.out, HTk.out]; exact mergeR_gt _ _ _ _ hc
              generalize htt : (mergeR (rs.take i') (ms.take (j' + 1))).length = t at *
              obtain ⟨hJ', htL, hit⟩ := HJ.out.step H.out.ok.asc HMs.out.asc (show i' ≤ i' + 1 by omega) (Nat.le_refl _) he htt
              obtain rfl : ti = (t : Int) := by rw [he, List.length_append, htt] at hti; simp at hti; omega
              obtain ⟨x, hx⟩ := at_lt (show t < X.length by rw [HJ.out.len]; exact htL)
              obtain ⟨x0, x1, x2, x3, x4⟩ := HO.out.cells HJ.out.len.symm hx
              have f0 := HO.out.frozen HJ.out.len.symm (t * 5)
              have f1 := HO.out.frozen HJ.out.len.symm (t * 5 + 1)
              have f2 := HO.out.frozen HJ.out.len.symm (t * 5 + 2)
              have f3 := HO.out.frozen HJ.out.len.symm (t * 5 + 3)
              have f4 := HO.out.frozen HJ.out.len.symm (t * 5 + 4)
              have HJ' := Lib.hid hJ'
              have HTt := Lib.hid htt
              have HX := Lib.hid hx
              have tL : (t : Int) < (L : Int) := by omega
              have hd1 : decide (r.at_ < q.at_) = false := by simp; omega
              have hd2 : decide (q.at_ < r.at_) = true := by simpa using hc
              clear hJ' htt hti hx he
              go_wp2_with fail
              go_quiet (fail)
              go_wp2_with fail
              go_quiet (fail)
              go_wp2_with fail
              go_region
              go_wp2_with fail
              go_roundw
              case rel =>
                have pp := fun k => OwnR.put5 (w := wr.drewN k) HO.out HJ.out.len.symm htL r
                exact ⟨i', j' + 1, X.set t r, _, _, _, rfl, rfl, rfl, by omega, by omega, by rw [HTt.out], HJ'.out, (pp _).1, (HT.out.drewN _).trans (pp _).2 (by simp)⟩
              case measure => simp [intOf]
end Go.Proofs.YtclofjlonncnlaaDoor
