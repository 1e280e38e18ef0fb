/- HierBoth. -/
import Derived.Test.YtjnphoeifonenaaDoorQ08Orp

set_option linter.unusedSimpArgs false
set_option linter.unusedVariables false
set_option maxRecDepth 100000
namespace Go.Proofs.YtjnphoeifonenaaDoor
open Go.RowKit

/-- A rising list of numbers below n. -/
structure Gd (n : Nat) (l : List Int) : Prop where
  sd : Sd l
  lo : ∀ y ∈ l, 0 ≤ y ∧ y < (n : Int)
theorem Gd.len {n : Nat} {l : List Int} (h : Gd n l) : l.length ≤ n := nodup_le n l (h.sd.imp (fun h e => by omega)) h.lo
theorem Gd.put {n : Nat} {l : List Int} (h : Gd n l) {x : Int} (hx : 0 ≤ x ∧ x < (n : Int)) : Gd n (putL l x) :=
  ⟨sd_putL h.sd x, fun y hy => by
    rcases (mem_putL l x y).1 hy with h1 | ⟨h1, _⟩
    · exact h.lo y h1
    · rw [h1]; exact hx⟩
theorem gd_abv {Es : List En} (hn : Es.length ≤ 1000000) (is : List Int) : Gd Es.length (abvL Es is) :=
  ⟨sd_abv Es is, fun y hy => by
    obtain ⟨i, j, _, rfl, hu⟩ := (abv_mem hn is y).1 hy
    have := hu.lt
    omega⟩
/-- The names are no longer than any machine's. -/
def NmOk (l : List K8) : Prop := ∀ k ∈ l, k.nm.size ≤ 281474976710656 ∧ k.sup.size ≤ 281474976710656 ∧ (∀ s ∈ k.fcs, s.size ≤ 281474976710656)
theorem small_ok {l : List K8} (h : smallB l = true) (hn : NmOk l) : KOk l ∧ l.length ≤ 20 := by
  unfold smallB at h
  rw [Bool.and_eq_true, decide_eq_true_eq] at h
  refine ⟨⟨by omega, fun k hk => ⟨(hn k hk).1, (hn k hk).2.1, (hn k hk).2.2, ?_⟩⟩, h.1⟩
  have := List.all_eq_true.1 h.2 k hk
  simp at this
  omega
theorem eq_ptr_some (a : Addr) (w : World) : (binOp .eql 33 (.pointer (some a)) (.pointer none)).run Tryd.prog w = .ok (.bool false) w := by kernel_rfl
theorem eq_ptr_none (w : World) : (binOp .eql 33 (.pointer none) (.pointer none)).run Tryd.prog w = .ok (.bool true) w := by kernel_rfl

/-- How it stands in the law's loop. -/
def Rb (Es : List En) (W4 wr : World) (is : List Int) (v : Value) (i : Nat) : Prop :=
  ∃ cur, OwnI wr W4.heap.size v cur ∧ Gd Es.length cur ∧ bothL Es (is.drop i) cur = bothL Es is [] ∧ Turn [] W4 wr
set_option maxHeartbeats 25600000 in
theorem both_law (A : Option Addr) (c B : Nat) (l : List K8) (m0 m1 m2 m3 m4 m5 m6 m7 m8 : Value) (P : Option Addr) (m cp : Nat) (is : List Int) (w : World) (hr : RdKs B w A l) (hB : B ≤ w.heap.size) (hnm : NmOk l) (hP : Ints w P is) (hm : m = is.length) (hT : Tab w) :
    Calls Tryd.prog 7 #[.agg #[.slice A l.length c, m0, m1, m2, m3, m4, m5, m6, m7, m8], .slice P m cp] w fun e w' => e = .returned (.bool true) ∧ Turn [] w w' := by
  obtain ⟨n, hn⟩ : ∃ n, l.length = n := ⟨_, rfl⟩
  obtain ⟨r, hrr⟩ : ∃ r, w.heap.size = r := ⟨_, rfl⟩
  obtain ⟨W0, hW0⟩ : ∃ W, w.alloc (.cells #[.slice A n c, m0, m1, m2, m3, m4, m5, m6, m7, m8] 30) = W := ⟨_, rfl⟩
  have t0 : Turn [] w W0 := by rw [← hW0]; exact (Turn.refl [] w).alloc _
  have b0 : W0.heap[r]? = some (.cells #[.slice A n c, m0, m1, m2, m3, m4, m5, m6, m7, m8] 30 (0, 0)) := by rw [← hW0, ← hrr]; exact heap_alloc_new w _
  have HAw : Hid (∀ W, Turn [] W0 W → Calls Tryd.prog 8 #[] W fun e w' => e = .returned (.bool true) ∧ Turn [] W w') := Lib.hid fun W t => awake_any W ((hT.turn' t0).turn' t)
  have HSm : Hid (∀ W, Turn [] W0 W → Calls Tryd.prog 9 #[.agg #[.slice A n c, m0, m1, m2, m3, m4, m5, m6, m7, m8]] W fun e w' => e = .returned (.bool (smallB l)) ∧ Turn [] W w') := Lib.hid fun W t => by
    rw [← hn]
    exact small_any8 A c B l m0 m1 m2 m3 m4 m5 m6 m7 m8 W ((hr.turn t0 (by simp)).turn t (by simp))
  have HNw : Hid (smallB l = true → ∀ W, Turn [] W0 W → Calls Tryd.prog 10 #[.agg #[.slice A n c, m0, m1, m2, m3, m4, m5, m6, m7, m8]] W fun e w' => NwR l W.heap.size e w' ∧ Turn [] W w') := Lib.hid fun hs W t => by
    rw [← hn]
    exact new_any A c B l m0 m1 m2 m3 m4 m5 m6 m7 m8 W ((hr.turn t0 (by simp)).turn t (by simp)) (by have := t0.size; have := t.size; omega) (small_ok hs hnm).1
  have hcl : ∀ W, Turn [] W0 W → ∀ (i : Nat) (v : Value), (#[Value.slice A n c, m0, m1, m2, m3, m4, m5, m6, m7, m8] : Array Value)[i]? = some v → W.cell? ⟨r, i, none⟩ = some v := fun W t i v hv => (cell_of_row W r i _ _ _ (t.heap b0 (by simp))).trans hv
  have HCL := Lib.hid hcl
  have HT0 := Lib.hid t0
  have HW0 := Lib.hid hW0
  have HRR := Lib.hid hrr
  have HN := Lib.hid hn
  have HNM := Lib.hid hnm
  have HI := Lib.hid (And.intro (hP.below t0) hm)
  have HTb := Lib.hid (hT.turn' t0)
  have HA0 := Lib.hid (HAw.out W0 (Turn.refl _ _))
  rw [hn]
  clear hr hB hnm hP hm hT hn hrr hW0 t0 b0 hcl
  go_enter Tryd.func7, Tryd.ntmps7
  go_wp2_with fail
  rw [HRR.out, HW0.out]
  refine HA0.out.mono ?_
  rintro e w1 ⟨rfl, t1⟩
  have HT1 := Lib.hid t1
  have HS1 := Lib.hid (HSm.out w1 t1)
  have g0 := HCL.out w1 t1 0 _ rfl
  have g1 := HCL.out w1 t1 1 _ rfl
  have g2 := HCL.out w1 t1 2 _ rfl
  have g3 := HCL.out w1 t1 3 _ rfl
  have g4 := HCL.out w1 t1 4 _ rfl
  have g5 := HCL.out w1 t1 5 _ rfl
  have g6 := HCL.out w1 t1 6 _ rfl
  have g7 := HCL.out w1 t1 7 _ rfl
  have g8 := HCL.out w1 t1 8 _ rfl
  have g9 := HCL.out w1 t1 9 _ rfl
  clear t1 HA0
  go_wp2_with fail
  refine HS1.out.mono ?_
  rintro e w2 ⟨rfl, t2⟩
  have HT2 := Lib.hid (HT1.out.trans' t2)
  clear t2 HS1 g0 g1 g2 g3 g4 g5 g6 g7 g8 g9
  obtain ⟨sm, hsm⟩ : ∃ sm, smallB l = sm := ⟨_, rfl⟩
  rw [hsm]
  have HSB := Lib.hid hsm
  clear hsm
  cases sm with
  | false =>
    have HA2 := Lib.hid (HAw.out w2 HT2.out)
    go_wp2_with fail
    refine HA2.out.mono ?_
    rintro e w3 ⟨rfl, t3⟩
    have HT3 := Lib.hid t3
    clear t3
    go_wp2_with fail
    go_ret
    exact ⟨rfl, (HT0.out.trans' HT2.out).trans' HT3.out⟩
  | true =>
    by_cases hm10 : 10 < m
    · have e1 : decide ((m : Int) > 10) = true := by simp; omega
      have e2 : decide ((10 : Int) < (m : Int)) = true := by simp; omega
      have HA2 := Lib.hid (HAw.out w2 HT2.out)
      go_wp2_with fail
      refine HA2.out.mono ?_
      rintro e w3 ⟨rfl, t3⟩
      have HT3 := Lib.hid t3
      clear t3
      go_wp2_with fail
      go_ret
      exact ⟨rfl, (HT0.out.trans' HT2.out).trans' HT3.out⟩
    · have e1 : decide ((m : Int) > 10) = false := by simp; omega
      have e2 : decide ((10 : Int) < (m : Int)) = false := by simp; omega
      have HNw2 := Lib.hid (HNw.out HSB.out w2 HT2.out)
      have g0 := HCL.out w2 HT2.out 0 _ rfl
      have g1 := HCL.out w2 HT2.out 1 _ rfl
      have g2 := HCL.out w2 HT2.out 2 _ rfl
      have g3 := HCL.out w2 HT2.out 3 _ rfl
      have g4 := HCL.out w2 HT2.out 4 _ rfl
      have g5 := HCL.out w2 HT2.out 5 _ rfl
      have g6 := HCL.out w2 HT2.out 6 _ rfl
      have g7 := HCL.out w2 HT2.out 7 _ rfl
      have g8 := HCL.out w2 HT2.out 8 _ rfl
      have g9 := HCL.out w2 HT2.out 9 _ rfl
      go_wp2_with fail
      refine HNw2.out.mono ?_
      rintro e w3 ⟨hN, t3⟩
      have HT3 := Lib.hid (HT2.out.trans' t3)
      clear t3 HNw2 g0 g1 g2 g3 g4 g5 g6 g7 g8 g9
      cases hN with
      | bad k x hk hx he =>
        subst he
        unfold ftC
        go_wp2_with fail
        go_ret
        exact ⟨rfl, (HT0.out.trans' HT3.out).alloc _⟩
      | rnd s a x hf hs ha hx he =>
        subst he
        unfold ftC
        go_wp2_with fail
        go_ret
        exact ⟨rfl, (HT0.out.trans' HT3.out).alloc _⟩
      | ok s t tm sz V hf hs ha he hrt hTl hM =>
        subst he
        obtain ⟨W4, hW4⟩ : ∃ W, w3.alloc (.cells #[.int .i64 0, .int .i64 0, .int .i64 0] 36) = W := ⟨_, rfl⟩
        have t4 : Turn [] w3 W4 := by rw [← hW4]; exact (Turn.refl [] w3).alloc _
        have hk := small_ok HSB.out HNM.out
        have hok : EsOk (esL l) := esL_ok hk.1.len (fun c hc => (hk.1.nm c hc).2.2.2)
        have hel : (esL l).length ≤ 20 := by rw [esL_len]; exact hk.2
        have HTl := Lib.hid (hTl.turn' t4)
        have HOK := Lib.hid hok
        have HEL := Lib.hid hel
        have HT4 := Lib.hid (HT3.out.trans' t4)
        have HW4 := Lib.hid hW4
        have HIs := Lib.hid (And.intro (HI.out.1.below (HT3.out.trans' t4)) HI.out.2)
        clear hTl hM t4 hW4 hk hok hel hf hs ha hrt
        unfold ftC
        go_wp2_with fail
        rw [HW4.out]
        go_loopw [7, 8] (fun v7 v8 wr => ∃ i : Nat, i ≤ m ∧ v8 = .int .i64 (i : Int) ∧ Hid (Rb (esL l) W4 wr is v7 i)) (fun _ v8 _ => m - (intOf v8).toNat)
        case atStart => exact ⟨0, Nat.zero_le _, rfl, Lib.hid ⟨[], OwnI.nil _ _, ⟨by simp [Sd], by simp⟩, by rw [List.drop_zero], Turn.refl _ _⟩⟩
        case round =>
          obtain ⟨i, hi, rfl, HK⟩ := hrel
          obtain ⟨cur, hcur, hgd, hbo, hT⟩ := HK.out
          by_cases him : i < m
          · obtain ⟨x, hx⟩ := at_lt (show i < is.length by have := HIs.out.2; omega)
            obtain ⟨b, off, rfl, hb, hcx⟩ := HIs.out.1 i x hx
            have cx : wr.cell? ⟨b, off + i, none⟩ = some (.int .i64 x) := (hT.cell (p := ⟨b, off + i, none⟩) hb (by simp)).trans hcx
            have d1 : decide ((i : Int) < (m : Int)) = true := by simp; omega
            have d2 : (i : Int) < (m : Int) := by omega
            have tB := (Turn.refl [] wr).alloc (.cells #[.int .i64 x] 3)
            have HA := Lib.hid (above_any (HTl.out.turn' (hT.trans' tB)) (fun i => by have := HOK.out.few i; omega) (HTb.out.turn' ((HT4.out.trans' hT).trans' tB)) (some ⟨wr.heap.size, 0, none⟩) 1 1 [x] (ints_one wr 3 x) rfl (by omega))
            have hdr : is.drop i = x :: is.drop (i + 1) := by
              obtain ⟨hh, he⟩ := List.getElem?_eq_some_iff.1 hx
              rw [List.drop_eq_getElem_cons hh, he]
            rw [hdr, bothL] at hbo
            have HX := Lib.hid (And.intro hcur (And.intro hgd (And.intro hbo (hT.trans' tB))))
            obtain ⟨Wr, hWr⟩ : ∃ q, q = wr := ⟨_, rfl⟩
            subst hWr
            clear hcur hgd hbo hT hx hb hcx tB hdr HK
            go_wp2_with fail
            refine HA.out.mono ?_
            rintro e w5 ⟨U5, rfl, hU5, t5⟩
            have hg5 := gd_abv (Es := esL l) (by have := HEL.out; omega) [x]
            obtain ⟨L, hL⟩ : ∃ L, abvL (esL l) [x] = L := ⟨_, rfl⟩
            rw [hL] at hU5 hg5
            obtain ⟨A5, c5, hv5, hi5, hc5⟩ := hU5.form
            obtain ⟨N, hN⟩ : ∃ N, L.length = N := ⟨_, rfl⟩
            rw [hN] at hv5 hc5
            have hN20 : N ≤ 20 := by have := hg5.len; have := HEL.out; omega
            subst hv5
            have HS5 : Hid (∃ cur', OwnI w5 W4.heap.size u7 cur' ∧ Gd (esL l).length cur' ∧ putAll (L.drop 0) cur' = putAll L cur ∧ Turn [] w5 w5) :=
              Lib.hid ⟨cur, HX.out.1.turn' (((Turn.refl [] Wr).alloc _).trans' t5), HX.out.2.1, by rw [List.drop_zero], Turn.refl _ _⟩
            have HL5 := Lib.hid (And.intro hi5 (And.intro hg5 (And.intro hN hL)))
            have HT5 := Lib.hid (HX.out.2.2.2.trans' t5)
            clear hU5 hi5 t5 hg5 hL hN HA
            go_wp2_with fail
            go_loopw [7, 10] (fun v7 v10 wr => ∃ q : Nat, q ≤ N ∧ v10 = .int .i64 (q : Int) ∧ Hid (∃ cur', OwnI wr W4.heap.size v7 cur' ∧ Gd (esL l).length cur' ∧ putAll (L.drop q) cur' = putAll L cur ∧ Turn [] w5 wr)) (fun _ v10 _ => N - (intOf v10).toNat)
            case atStart => exact ⟨0, Nat.zero_le _, rfl, HS5⟩
            case round =>
              obtain ⟨q, hq, rfl, HQ⟩ := hrel
              obtain ⟨cur', ho', hg', hp', t'⟩ := HQ.out
              by_cases hqn : q < N
              · obtain ⟨y, hy⟩ := at_lt (show q < L.length by have := HL5.out.2.2.1; omega)
                obtain ⟨b2, off2, rfl, hb2, hcy⟩ := HL5.out.1 q y hy
                have cy : wr.cell? ⟨b2, off2 + q, none⟩ = some (.int .i64 y) := (t'.cell (p := ⟨b2, off2 + q, none⟩) hb2 (by simp)).trans hcy
                have d1' : decide ((q : Int) < (N : Int)) = true := by simp; omega
                have d2' : (q : Int) < (N : Int) := by omega
                have hyr := HL5.out.2.1.lo y (List.mem_of_getElem? hy)
                have hl' := hg'.len
                have hs4 : W4.heap.size ≤ wr.heap.size := by have := t'.size; have := HT5.out.size; omega
                have HPu := Lib.hid (put_any W4.heap.size u7 cur' y wr ho' hs4 (by have := HEL.out; omega))
                have hdr2 : L.drop q = y :: L.drop (q + 1) := by
                  obtain ⟨hh, he⟩ := List.getElem?_eq_some_iff.1 hy
                  rw [List.drop_eq_getElem_cons hh, he]
                rw [hdr2, putAll] at hp'
                have HY := Lib.hid (And.intro (hg'.put hyr) (And.intro hp' t'))
                clear ho' hg' hp' t' hy hb2 hcy hyr hl' hs4 hdr2 HQ HS5
                go_wp2_with fail
                refine HPu.out.mono ?_
                rintro e w6 ⟨v6, rfl, ho6, t6⟩
                have HN1 : Hid (∃ cur', OwnI w6 W4.heap.size v6 cur' ∧ Gd (esL l).length cur' ∧ putAll (L.drop (q + 1)) cur' = putAll L cur ∧ Turn [] w5 w6) :=
                  Lib.hid ⟨_, ho6, HY.out.1, HY.out.2.1, HY.out.2.2.trans' t6⟩
                clear ho6 t6 HPu HY
                go_wp2_with fail
                go_roundw
                case rel => exact ⟨q + 1, by omega, by go_num, HN1⟩
                case measure => simp [intOf]; omega
              · obtain rfl : q = N := by omega
                have d1' : decide ((q : Int) < (q : Int)) = false := by simp
                have HN2 : Hid (Rb (esL l) W4 wr is u7 (i + 1)) := by
                  rw [← HL5.out.2.2.1, List.drop_length, putAll] at hp'
                  refine Lib.hid ⟨cur', ho', hg', ?_, HT5.out.trans' t'⟩
                  rw [hp', ← HL5.out.2.2.2]
                  exact HX.out.2.2.1
                clear ho' hg' hp' t' HQ HS5
                go_wp2_with fail
                go_roundw
                case rel => exact ⟨i + 1, by omega, by go_num, HN2⟩
                case measure => simp [intOf]; omega
          · obtain rfl : i = m := by omega
            have d1 : decide ((i : Int) < (i : Int)) = false := by simp
            rw [HIs.out.2, List.drop_length, bothL, both_same (by have := HEL.out; omega)] at hbo
            subst hbo
            obtain ⟨A7, c7, hv7, hi7, hc7⟩ := hcur.form
            have hl7 := hgd.len
            obtain ⟨N, hN⟩ : ∃ N, (abvL (esL l) is).length = N := ⟨_, rfl⟩
            rw [hN] at hv7 hc7 hl7
            subst hv7
            have HA := Lib.hid (above_any (HTl.out.turn' hT) (fun i => by have := HOK.out.few i; omega) (HTb.out.turn' (HT4.out.trans' hT)) P i cp is (HIs.out.1.below hT) HIs.out.2 (by omega))
            have HX := Lib.hid (And.intro hi7 (And.intro hT (And.intro hN hl7)))
            clear hcur hi7 hT hgd hN HK hc7 hl7
            go_wp2_with fail
            refine HA.out.mono ?_
            rintro e w8 ⟨U8, rfl, hU8, t8⟩
            obtain ⟨A8, c8, hv8, hi8, hc8⟩ := hU8.form
            rw [HX.out.2.2.1] at hv8
            subst hv8
            have hNb : N ≤ 1000000 := by have := HX.out.2.2.2; have := HEL.out; omega
            have HSa := Lib.hid (refSame_any A8 A7 N N c8 c7 (abvL (esL l) is) (abvL (esL l) is) w8 hi8 (HX.out.1.below t8) HX.out.2.2.1.symm HX.out.2.2.1.symm hNb hNb)
            have HT8 := Lib.hid (HX.out.2.1.trans' t8)
            clear hU8 hi8 t8 hc8 HA
            go_wp2_with fail
            refine HSa.out.mono ?_
            rintro e w9 ⟨rfl, q9, h9⟩
            rw [show sameB (abvL (esL l) is) (abvL (esL l) is) = true by simp [sameB]]
            have t9 : Turn [] W4 w9 := by rw [h9]; exact HT8.out.drewN _
            have HT9 := Lib.hid t9
            clear h9 t9 HSa
            go_wp2_with fail
            go_ret
            exact ⟨rfl, (HT0.out.trans' HT4.out).trans' HT9.out⟩
end Go.Proofs.YtjnphoeifonenaaDoor
