/- HierOrder. -/
import Derived.Test.YtjnphoeifonenaaDoorQ10LBo
import Derived.Test.YtjnphoeifonenaaDoorQ13Kos

set_option linter.unusedSimpArgs false
set_option linter.unusedVariables false
set_option maxRecDepth 100000
namespace Go.Proofs.YtjnphoeifonenaaDoor
open Go.RowKit

set_option maxHeartbeats 25600000 in
theorem order_law (A : Option Addr) (c B : Nat) (l : List K8) (m0 m1 m2 m3 m4 m5 m6 m7 m8 : Value) (w : World) (hr : RdKs B w A l) (hB : B ≤ w.heap.size) (hnm : NmOk l) (hT : Tab w) :
    Calls Tryd.prog 5 #[.agg #[.slice A l.length c, m0, m1, m2, m3, m4, m5, m6, m7, m8]] w fun e w' => e = .returned (.bool true) ∧ Turn [] w w' := by
  obtain ⟨n, hn⟩ : ∃ n, l.length = n := ⟨_, rfl⟩
  obtain ⟨r, hrr⟩ : ∃ r, w.heap.size = r := ⟨_, rfl⟩
  obtain ⟨W0, hW0⟩ : ∃ W, w.alloc (.cells #[.slice A n c, m0, m1, m2, m3, m4, m5, m6, m7, m8] 30) = W := ⟨_, rfl⟩
  have t0 : Turn [] w W0 := by rw [← hW0]; exact (Turn.refl [] w).alloc _
  have b0 : W0.heap[r]? = some (.cells #[.slice A n c, m0, m1, m2, m3, m4, m5, m6, m7, m8] 30 (0, 0)) := by rw [← hW0, ← hrr]; exact heap_alloc_new w _
  have HAw : Hid (∀ W, Turn [] W0 W → Calls Tryd.prog 8 #[] W fun e w' => e = .returned (.bool true) ∧ Turn [] W w') := Lib.hid fun W t => awake_any W ((hT.turn' t0).turn' t)
  have HSm : Hid (∀ W, Turn [] W0 W → Calls Tryd.prog 9 #[.agg #[.slice A n c, m0, m1, m2, m3, m4, m5, m6, m7, m8]] W fun e w' => e = .returned (.bool (smallB l)) ∧ Turn [] W w') := Lib.hid fun W t => by
    rw [← hn]
    exact small_any8 A c B l m0 m1 m2 m3 m4 m5 m6 m7 m8 W ((hr.turn t0 (by simp)).turn t (by simp))
  have HNw : Hid (smallB l = true → ∀ W, Turn [] W0 W → Calls Tryd.prog 10 #[.agg #[.slice A n c, m0, m1, m2, m3, m4, m5, m6, m7, m8]] W fun e w' => NwR l W.heap.size e w' ∧ Turn [] W w') := Lib.hid fun hs W t => by
    rw [← hn]
    exact new_any A c B l m0 m1 m2 m3 m4 m5 m6 m7 m8 W ((hr.turn t0 (by simp)).turn t (by simp)) (by have := t0.size; have := t.size; omega) (small_ok hs hnm).1
  have hcl : ∀ W, Turn [] W0 W → ∀ (i : Nat) (v : Value), (#[Value.slice A n c, m0, m1, m2, m3, m4, m5, m6, m7, m8] : Array Value)[i]? = some v → W.cell? ⟨r, i, none⟩ = some v := fun W t i v hv => (cell_of_row W r i _ _ _ (t.heap b0 (by simp))).trans hv
  have HCL := Lib.hid hcl
  have HT0 := Lib.hid t0
  have HW0 := Lib.hid hW0
  have HRR := Lib.hid hrr
  have HN := Lib.hid hn
  have HNM := Lib.hid hnm
  have HTb := Lib.hid (hT.turn' t0)
  have HA0 := Lib.hid (HAw.out W0 (Turn.refl _ _))
  rw [hn]
  clear hr hB hnm hT hn hrr hW0 t0 b0 hcl
  go_enter Tryd.func5, Tryd.ntmps5
  go_wp2_with fail
  rw [HRR.out, HW0.out]
  refine HA0.out.mono ?_
  rintro e w1 ⟨rfl, t1⟩
  have HT1 := Lib.hid t1
  have HS1 := Lib.hid (HSm.out w1 t1)
  have g0 := HCL.out w1 t1 0 _ rfl
  have g1 := HCL.out w1 t1 1 _ rfl
  have g2 := HCL.out w1 t1 2 _ rfl
  have g3 := HCL.out w1 t1 3 _ rfl
  have g4 := HCL.out w1 t1 4 _ rfl
  have g5 := HCL.out w1 t1 5 _ rfl
  have g6 := HCL.out w1 t1 6 _ rfl
  have g7 := HCL.out w1 t1 7 _ rfl
  have g8 := HCL.out w1 t1 8 _ rfl
  have g9 := HCL.out w1 t1 9 _ rfl
  clear t1 HA0
  go_wp2_with fail
  refine HS1.out.mono ?_
  rintro e w2 ⟨rfl, t2⟩
  have HT2 := Lib.hid (HT1.out.trans' t2)
  clear t2 HS1 g0 g1 g2 g3 g4 g5 g6 g7 g8 g9
  obtain ⟨sm, hsm⟩ : ∃ sm, smallB l = sm := ⟨_, rfl⟩
  rw [hsm]
  have HSB := Lib.hid hsm
  clear hsm
  cases sm with
  | false =>
    have HA2 := Lib.hid (HAw.out w2 HT2.out)
    go_wp2_with fail
    refine HA2.out.mono ?_
    rintro e w3 ⟨rfl, t3⟩
    have HT3 := Lib.hid t3
    clear t3
    go_wp2_with fail
    go_ret
    exact ⟨rfl, (HT0.out.trans' HT2.out).trans' HT3.out⟩
  | true =>
    have HNw2 := Lib.hid (HNw.out HSB.out w2 HT2.out)
    have g0 := HCL.out w2 HT2.out 0 _ rfl
    have g1 := HCL.out w2 HT2.out 1 _ rfl
    have g2 := HCL.out w2 HT2.out 2 _ rfl
    have g3 := HCL.out w2 HT2.out 3 _ rfl
    have g4 := HCL.out w2 HT2.out 4 _ rfl
    have g5 := HCL.out w2 HT2.out 5 _ rfl
    have g6 := HCL.out w2 HT2.out 6 _ rfl
    have g7 := HCL.out w2 HT2.out 7 _ rfl
    have g8 := HCL.out w2 HT2.out 8 _ rfl
    have g9 := HCL.out w2 HT2.out 9 _ rfl
    go_wp2_with fail
    refine HNw2.out.mono ?_
    rintro e w3 ⟨hN, t3⟩
    have HT3 := Lib.hid (HT2.out.trans' t3)
    clear t3 HNw2 g0 g1 g2 g3 g4 g5 g6 g7 g8 g9
    cases hN with
    | bad k x hk hx he =>
      subst he
      unfold ftC
      go_wp2_with fail
      go_ret
      exact ⟨rfl, (HT0.out.trans' HT3.out).alloc _⟩
    | rnd s a x hf hs ha hx he =>
      subst he
      unfold ftC
      go_wp2_with fail
      go_ret
      exact ⟨rfl, (HT0.out.trans' HT3.out).alloc _⟩
    | ok s t tm sz V hf hs ha he hrt hTl hM =>
      subst he
      obtain ⟨W4, hW4⟩ : ∃ W, w3.alloc (.cells #[.int .i64 0, .int .i64 0, .int .i64 0] 36) = W := ⟨_, rfl⟩
      have t4 : Turn [] w3 W4 := by rw [← hW4]; exact (Turn.refl [] w3).alloc _
      have hk := small_ok HSB.out HNM.out
      have hok : EsOk (esL l) := esL_ok hk.1.len (fun c hc => (hk.1.nm c hc).2.2.2)
      have hel : (esL l).length = n := by rw [esL_len]; exact HN.out
      have hn20 : n ≤ 20 := by have := hk.2; have := HN.out; omega
      have hac : ∀ i, ¬ Cyc (esL l) i := fun i hi => by
        rw [← esL_len l] at hs
        have := ((round_says hok hs).1 i hi).1
        rw [ha] at this
        omega
      have hos := ord_says hok
      obtain ⟨o, ho⟩ : ∃ o, ordL (esL l) = o := ⟨_, rfl⟩
      rw [ho, hel] at hos
      have g0 := HCL.out W4 (HT3.out.trans' t4) 0 _ rfl
      obtain ⟨gd, hgd⟩ : ∃ g, W4.heap.size = g := ⟨_, rfl⟩
      obtain ⟨W5, hW5⟩ : ∃ W, W4.alloc (.cells (madeCells #[.bool false] n) 4) = W := ⟨_, rfl⟩
      have t5 : Turn [] W4 W5 := by rw [← hW5]; exact (Turn.refl [] W4).alloc _
      have hd5 : OwnB W5 0 (.slice (some ⟨gd, 0, none⟩) n n) (List.replicate n false) := by
        have := OwnB.falses W4 0 n (Nat.zero_le _) (by omega)
        rw [Nat.mul_one, hgd, hW5] at this
        exact this
      have s5 : W5.heap.size = gd + 1 := by rw [← hW5, ← hgd]; simp
      have hmk := fun W : World => make_bools n (by omega) W
      simp only [Nat.mul_one] at hmk
      have HO := Lib.hid (order_any (hTl.turn' (t4.trans' t5)) hok)
      have HTl := Lib.hid ((Tl.below (hTl.turn' t4) hgd).turn' t5)
      have htg : t < gd := by rw [← hgd]; exact (Array.getElem?_eq_some_iff.1 (hTl.turn' t4).blk).1
      have HOK := Lib.hid hok
      have HEL := Lib.hid hel
      have HT4 := Lib.hid (HT3.out.trans' t4)
      have HW4 := Lib.hid hW4
      have HGD := Lib.hid hgd
      have HW5 := Lib.hid hW5
      have HD5 := Lib.hid (And.intro hd5 (And.intro t5 s5))
      have HOS := Lib.hid (And.intro hos.1 (And.intro hos.2.1 (And.intro hos.2.2.1 (hos.2.2.2 hac))))
      have HOO := Lib.hid ho
      clear hTl hM t4 hW4 hk hok hel hf hs ha hrt hac hos ho hgd hW5 t5 hd5 s5
      unfold ftC
      go_upto_region 8 with fail
      rw [HW4.out]
      go_wp2_with fail
      rw [HGD.out, HW5.out]
      refine HO.out.mono ?_
      rintro e w6 ⟨U6, rfl, hU6, t6⟩
      rw [HOO.out] at hU6
      obtain ⟨A6, c6, hv6, _, hc6⟩ := hU6.form
      obtain ⟨N, hNN⟩ : ∃ N, o.length = N := ⟨_, rfl⟩
      rw [hNN] at hv6 hc6
      subst hv6
      have hNn : N = n := by have := HOS.out.2.2.2.2; omega
      have hst : Hid (∃ ds, OwnB w6 0 (.slice (some ⟨gd, 0, none⟩) n n) ds ∧ ds.length = n ∧ (∀ u : Nat, u < n → ds[u]? = some (decide ((u : Int) ∈ o.take 0))) ∧ Turn [gd] w6 w6) :=
        Lib.hid ⟨_, HD5.out.1.turn' t6, by simp, fun u hu => by simp [hu], Turn.refl _ _⟩
      have HU6 := Lib.hid (And.intro hU6 (And.intro hNN t6))
      clear hU6 hNN t6 HO
      go_wp2_with fail
      go_loopw [7] (fun v7 wr => ∃ i : Nat, i ≤ N ∧ v7 = .int .i64 (i : Int) ∧ Hid (∃ ds, OwnB wr 0 (.slice (some ⟨gd, 0, none⟩) n n) ds ∧ ds.length = n ∧ (∀ u : Nat, u < n → ds[u]? = some (decide ((u : Int) ∈ o.take i))) ∧ Turn [gd] w6 wr)) (fun v7 _ => N - (intOf v7).toNat)
      case atStart => exact ⟨0, Nat.zero_le _, rfl, hst⟩
      case round =>
        obtain ⟨i, hi, rfl, HK⟩ := hrel
        obtain ⟨ds, hds, hdl, hda, hT⟩ := HK.out
        by_cases hiN : i < N
        · obtain ⟨y, hy⟩ := at_lt (show i < o.length by have := HU6.out.2.1; omega)
          have hyr := HOS.out.2.1 y (List.mem_of_getElem? hy)
          obtain ⟨yn, rfl⟩ := Int.eq_ofNat_of_zero_le hyr.1
          have hyn : yn < n := by omega
          have hs6 := HU6.out.2.2.size
          have hown : ∀ g, (Value.slice A6 N c6).ownBlock = some g → g ∉ [gd] := fun g hg hh => by
            have := (HU6.out.1.lt g hg).1
            have := HD5.out.2.2
            simp at hh
            omega
          obtain ⟨A7, c7, e7, hI6, _⟩ := (HU6.out.1.turn hT hown).form
          rw [HU6.out.2.1] at e7
          injection e7 with e7 _ e7c
          subst e7 e7c
          have hsp : o = o.take i ++ (yn : Int) :: o.drop (i + 1) := by
            obtain ⟨hh, he⟩ := List.getElem?_eq_some_iff.1 hy
            rw [← he, ← List.drop_eq_getElem_cons hh, List.take_append_drop]
          have hni : (yn : Int) ∉ o.take i := fun hm => by
            have hnd := HOS.out.1
            rw [hsp, List.nodup_append] at hnd
            exact hnd.2.2 _ hm _ (by simp) rfl
          obtain ⟨b, off, rfl, hb, cy⟩ := hI6 i _ hy
          have hda0 := hda yn hyn
          rw [decide_eq_false hni] at hda0
          have hat := hds.at
          have cd := hat.1 yn _ hda0
          have d1 : decide ((i : Int) < (N : Int)) = true := by simp; omega
          have d2 : (i : Int) < (N : Int) := by omega
          have d3 : decide ((yn : Int) < 0) = false := by simp <;> omega
          have d4 : decide ((n : Int) ≤ (yn : Int)) = false := by simp; omega
          have d5 : decide ((yn : Int) ≥ (n : Int)) = false := by simp; omega
          have d6 : (yn : Int) < (n : Int) := by omega
          have hgd0 : 0 < gd ∧ W0.heap.size ≤ gd := by have := HGD.out; have := HT4.out.size; have := HT0.out.size; exact ⟨by omega, by omega⟩
          have hTw : Turn [] W0 wr := ((HT4.out.trans' HD5.out.2.1).trans' HU6.out.2.2).trans hT (fun g hg => .inr (by simp at hg; omega))
          have tB := (Turn.refl [] wr).alloc (.cells #[.int .i64 (yn : Int)] 3)
          have hTlw := (((HTl.out.turn' HU6.out.2.2).turn hT (by simp; omega) (fun g hg hh => by simp at hg; have := hh.2; omega)).turn' tB)
          have HA := Lib.hid (above_any hTlw (fun i => by have := HOK.out.few i; omega) (HTb.out.turn' (hTw.trans' tB)) (some ⟨wr.heap.size, 0, none⟩) 1 1 [(yn : Int)] (ints_one wr 3 (yn : Int)) rfl (by omega))
          have HX := Lib.hid (And.intro hds (And.intro hdl (And.intro hda (And.intro hT (And.intro hI6 (And.intro hy (And.intro hsp tB)))))))
          obtain ⟨Wr, hWr⟩ : ∃ q, q = wr := ⟨_, rfl⟩
          subst hWr
          clear hds hdl hda hT hI6 hy hsp tB HK hst hat hda0 hown hni hyr hb hTw hTlw hgd0
          go_wp2_with fail
          refine HA.out.mono ?_
          rintro e w8 ⟨U8, rfl, hU8, t8⟩
          have hg8 := gd_abv (Es := esL l) (by have := HEL.out; omega) [(yn : Int)]
          have hm8 := fun z => abv_mem (Es := esL l) (by have := HEL.out; omega) [(yn : Int)] z
          obtain ⟨L, hL⟩ : ∃ L, abvL (esL l) [(yn : Int)] = L := ⟨_, rfl⟩
          rw [hL] at hU8 hg8
          rw [hL] at hm8
          obtain ⟨A8, c8, hv8, hi8, hc8⟩ := hU8.form
          obtain ⟨M, hM⟩ : ∃ M, L.length = M := ⟨_, rfl⟩
          rw [hM] at hv8 hc8
          subst hv8
          have hM20 : M ≤ 20 := by have := hg8.len; have := HEL.out; omega
          have HL8 := Lib.hid (And.intro hi8 (And.intro hg8 (And.intro hm8 hM)))
          have HT8 := Lib.hid (HX.out.2.2.2.2.2.2.2.trans' t8)
          clear hU8 hi8 t8 hg8 hm8 hL hM HA cy cd
          go_wp2_with fail
          go_loopw [9] (fun v9 wr => ∃ q : Nat, q ≤ M ∧ v9 = .int .i64 (q : Int) ∧ Hid (Turn [] w8 wr)) (fun v9 _ => M - (intOf v9).toNat)
          case atStart => exact ⟨0, Nat.zero_le _, rfl, Lib.hid (Turn.refl _ _)⟩
          case round =>
            obtain ⟨q, hq, rfl, HQ⟩ := hrel
            by_cases hqm : q < M
            · obtain ⟨z, hz⟩ := at_lt (show q < L.length by have := HL8.out.2.2.2; omega)
              have hzr := HL8.out.2.1.lo z (List.mem_of_getElem? hz)
              rw [HEL.out] at hzr
              obtain ⟨zn, rfl⟩ := Int.eq_ofNat_of_zero_le hzr.1
              have hzn : zn < n := by omega
              have hzn2 : (zn : Int) < (n : Int) := by omega
              obtain ⟨b8, off8, rfl, hb8, cz0⟩ := HL8.out.1 q _ hz
              have cz : wr.cell? ⟨b8, off8 + q, none⟩ = some (.int .i64 (zn : Int)) := (HQ.out.cell (p := ⟨b8, off8 + q, none⟩) hb8 (by simp)).trans cz0
              obtain ⟨b9, off9, e9, hb9, cy9⟩ := HX.out.2.2.2.2.1 i _ HX.out.2.2.2.2.2.1
              injection e9 with e9
              injection e9 with e9a e9b
              subst e9a e9b
              have cy : wr.cell? ⟨b, off + i, none⟩ = some (.int .i64 (yn : Int)) := ((HT8.out.trans' HQ.out).cell (p := ⟨b, off + i, none⟩) hb9 (by simp)).trans cy9
              have d1' : decide ((q : Int) < (M : Int)) = true := by simp; omega
              have d2' : (q : Int) < (M : Int) := by omega
              have hup : zn = yn ∨ (zn : Int) ∈ o.take i := by
                obtain ⟨a', b', k1, k2, k3⟩ := (HL8.out.2.2.1 _).1 (List.mem_of_getElem? hz)
                have e1 : a' = yn := by simp at k1; omega
                have e2 : b' = zn := by omega
                subst e1 e2
                exact HOS.out.2.2.1 _ a' _ HX.out.2.2.2.2.2.2.1 b' k3
              have hdz := (HX.out.1.turn' (HT8.out.trans' HQ.out)).at.1 zn _ (HX.out.2.2.1 zn hzn)
              clear cz0 cy9 hb8 hb9 hz hzr
              by_cases hzy : zn = yn
              · have n1 : decide ((zn : Int) = (yn : Int)) = true := by simp; omega
                have n2 : ((zn : Int) == (yn : Int)) = true := by simp; omega
                have n3 : ((zn : Int) != (yn : Int)) = false := by simp; omega
                subst hzy
                clear hup hdz
                go_wp2_with fail
                go_quiet (fail)
                go_wp2_with fail
                go_roundw
                case rel => exact ⟨q + 1, by omega, by go_num, Lib.hid (HQ.out.drewN _)⟩
                case measure => simp [intOf]; omega
              · have n1 : decide ((zn : Int) = (yn : Int)) = false := by simp; omega
                have n2 : ((zn : Int) == (yn : Int)) = false := by simp; omega
                have n3 : ((zn : Int) != (yn : Int)) = true := by simp; omega
                have n4 : ¬ ((zn : Int) = (yn : Int)) := by omega
                have hin : (zn : Int) ∈ o.take i := hup.resolve_left hzy
                rw [decide_eq_true hin] at hdz
                clear hup hin
                go_wp2_with fail
                go_quiet (fail)
                go_wp2_with fail
                go_roundw
                case rel => exact ⟨q + 1, by omega, by go_num, Lib.hid (HQ.out.drewN _)⟩
                case measure => simp [intOf]; omega
            · obtain rfl : q = M := by omega
              have d1' : decide ((q : Int) < (q : Int)) = false := by simp
              have hTT := HT8.out.trans' HQ.out
              obtain ⟨b9, off9, e9, hb9, cy9⟩ := HX.out.2.2.2.2.1 i _ HX.out.2.2.2.2.2.1
              injection e9 with e9
              injection e9 with e9a e9b
              subst e9a e9b
              have cy : wr.cell? ⟨b, off + i, none⟩ = some (.int .i64 (yn : Int)) := (hTT.cell (p := ⟨b, off + i, none⟩) hb9 (by simp)).trans cy9
              have hdw := HX.out.1.turn' hTT
              have hda1 := HX.out.2.2.1 yn hyn
              have cd := hdw.at.1 yn _ hda1
              have cf := hdw.at.2 yn
              have HN1 : Hid (∃ ds, OwnB (wr.setCell ⟨gd, yn, none⟩ (.bool true)) 0 (.slice (some ⟨gd, 0, none⟩) n n) ds ∧ ds.length = n ∧ (∀ u : Nat, u < n → ds[u]? = some (decide ((u : Int) ∈ o.take (i + 1)))) ∧ Turn [gd] w6 (wr.setCell ⟨gd, yn, none⟩ (.bool true))) := by
                obtain ⟨x1, x2, x3, x4, x5, x6, x7, x8⟩ := HX.out
                refine Lib.hid ⟨ds.set yn true, hdw.putAt x2.symm, by rw [List.length_set]; exact x2, fun u hu => ?_, (x4.trans' hTT).setCell (.inl (by simp)) _⟩
                rw [take_snoc x6]
                by_cases e : u = yn
                · subst e
                  rw [List.getElem?_set_self (by omega)]
                  simp
                · rw [List.getElem?_set_ne (by omega), x3 u hu]
                  have : ¬ ((u : Int) = (yn : Int)) := by omega
                  simp [this]
              clear hdw hda1 hTT cy9 hb9 HX
              go_wp2_with fail
              go_roundw
              case rel => exact ⟨i + 1, by omega, by go_num, HN1⟩
              case measure => simp [intOf]; omega
        · obtain rfl : i = N := by omega
          have d1 : decide ((i : Int) < (i : Int)) = false := by simp
          subst hNn
          have HX := Lib.hid hT
          clear hds hdl hda hT HK hst
          go_wp2_with fail
          go_ret
          refine ⟨rfl, ((HT0.out.trans' HT4.out).trans' HD5.out.2.1).trans' HU6.out.2.2 |>.trans HX.out (fun g hg => .inr ?_)⟩
          simp at hg
          have := HGD.out
          have := (HT0.out.trans' HT4.out).size
          omega
end Go.Proofs.YtjnphoeifonenaaDoor
