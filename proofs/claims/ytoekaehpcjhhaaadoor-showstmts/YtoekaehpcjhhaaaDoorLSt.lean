/- ShowStmts, walked. -/
import Derived.Test.YtoekaehpcjhhaaaDoorMvd
import Derived.Test.YtoekaehpcjhhaaaDoorLLn
set_option linter.unusedSimpArgs false
set_option linter.unusedVariables false
namespace Go.Proofs.YtoekaehpcjhhaaaDoor
open Go.RowKit

theorem stmt_zero : (Tryd.prog.info? 27).map (fun i => (i.zero, i.size, i.bytes)) = some (some (.agg #[.int .i64 0, .string ⟨#[]⟩, .string ⟨#[]⟩, .string ⟨#[]⟩, .string ⟨#[]⟩, .string ⟨#[]⟩, .slice none 0 0, .int .i64 0, .slice none 0 0, .slice none 0 0, .int .i64 0, .int .i64 0]), 12, 184) := by kernel_rfl
theorem RdS.one {B : Nat} {w : World} {cs : List Value} {s : St} (h : RdS B w cs s) : ∀ u ∈ cs, u.oneCell' = true := by
  obtain ⟨d, x, y, z, t, f, ag, n, bd, ot, ln, cl⟩ := s
  obtain ⟨A1, c1, A2, c2, A3, c3, rfl, _⟩ := h.cells
  intro u hu
  simp at hu
  rcases hu with rfl | rfl | rfl | rfl | rfl | rfl | rfl | rfl | rfl | rfl | rfl | rfl <;> rfl
/-- What follows from statements' being small. -/
theorem small_list {l : List St} (h : smL 5 l = true) (ho : OkL l) : (FtL l ∧ LnL l ∧ l.length ≤ 1000 ∧ (rwL 0 l).length ≤ 2000000) ∧ RSaidL l ∧ l.length ≤ 8 ∧ (jn ((rwL 0 l).map ln) ⟨#[10]⟩).size ≤ 2305843009213693952 := by
  obtain ⟨h1, h2, h3, h4⟩ := sm_facts 5 l h ho
  have hc := h4 0
  have hc2 := cnt_le (k := 5) (by omega)
  refine ⟨⟨h1, h2, by omega, by omega⟩, rall (by omega) h ho, h3, ?_⟩
  have hok := rwL_ok 0 l h1
  have := size_jn_le ((rwL 0 l).map ln) ⟨#[10]⟩ 6000000 1 (by
    intro a ha
    obtain ⟨r, hr', rfl⟩ := List.mem_map.1 ha
    have h5 := hok r hr'
    have := ln_sz (k := 2000000) h5.1 (by omega)
    omega) (by decide)
  rw [List.length_map] at this
  have h5 : (rwL 0 l).length * (6000000 + 1) ≤ 2000000 * (6000000 + 1) := Nat.mul_le_mul_right _ (by omega)
  omega
theorem mvl_at {l : List St} {k : Nat} {s : St} (h : l[k]? = some s) : ((l.take k).map bump ++ l.drop k)[k]? = some s := by
  have hk := (List.getElem?_eq_some_iff.1 h).1
  rw [List.getElem?_append_right (by simp; omega)]
  simp [Nat.min_eq_left (Nat.le_of_lt hk), h]
theorem mvl_set {l : List St} {k : Nat} {s : St} (h : l[k]? = some s) : ((l.take k).map bump ++ l.drop k).set k (bump s) = (l.take (k + 1)).map bump ++ l.drop (k + 1) := by
  obtain ⟨hk, e⟩ := List.getElem?_eq_some_iff.1 h
  rw [List.set_append_right _ _ (by simp; omega), take_snoc h, List.map_append, List.drop_eq_getElem_cons hk, e]
  simp [Nat.min_eq_left (Nat.le_of_lt hk)]

set_option maxHeartbeats 8000000 in
set_option maxRecDepth 100000 in
theorem stmts_law (la lb : List St) (A1 A2 : Option Addr) (c1 c2 : Nat) (m : Int) (w : World) (h1 : RdL w.heap.size w A1 0 la) (h2 : RdL w.heap.size w A2 0 lb) (oa : OkL la) (ob : OkL lb) (hE : Env w.heap.size w) (hm : w.cell? ⟨0, 0, none⟩ = some (.int .i64 m)) :
    Calls Tryd.prog 4 #[.slice A1 la.length c1, .slice A2 lb.length c2] w fun e w' => e = .returned (.bool true) ∧ Turn [] w w' := by
  have HAw := Lib.hid (fun w' (ht : Turn [] w w') => awake_any w.heap.size w' (hE.turn ht (by simp)))
  have HSa := Lib.hid (fun w' (ht : Turn [] w w') => small_any 5 (by omega) la A1 c1 w.heap.size 4 w' (by decide) (h1.turn ht (by simp) _) oa)
  have HSb := Lib.hid (fun w' (ht : Turn [] w w') => small_any 5 (by omega) lb A2 c2 w.heap.size 4 w' (by decide) (h2.turn ht (by simp) _) ob)
  have HR1 := Lib.hid h1
  have HR2 := Lib.hid h2
  have HOa := Lib.hid oa
  have HOb := Lib.hid ob
  have HE := Lib.hid hE
  have HM := Lib.hid hm
  obtain ⟨na, hna⟩ : ∃ n, la.length = n := ⟨_, rfl⟩
  obtain ⟨nb, hnb⟩ : ∃ n, lb.length = n := ⟨_, rfl⟩
  have HNA := Lib.hid hna
  have HNB := Lib.hid hnb
  rw [hna] at HSa ⊢
  rw [hnb] at HSb ⊢
  clear h1 h2 oa ob hE hm hna hnb
  go_enter Tryd.func4, Tryd.ntmps4
  go_wp2_with fail
  refine (HAw.out w (Turn.refl _ _)).mono ?_
  rintro e w3 ⟨rfl, t3⟩
  have HT3 := Lib.hid t3
  have HC := Lib.hid (HSa.out w3 t3)
  clear t3
  go_wp2_with fail
  refine HC.out.mono ?_
  rintro e w4 ⟨rfl, t4⟩
  have HT4 := Lib.hid (HT3.out.trans' t4)
  clear t4 HC
  cases hsa : smL 5 la with
  | false =>
    clear hsa
    go_wp2_with fail
    refine (HAw.out w4 HT4.out).mono ?_
    rintro e w5 ⟨rfl, t5⟩
    have HT5 := Lib.hid (HT4.out.trans' t5)
    clear t5
    go_wp2_with fail
    go_ret
    exact ⟨rfl, HT5.out⟩
  | true =>
    have HFa := Lib.hid (small_list hsa HOa.out)
    have HC := Lib.hid (HSb.out w4 HT4.out)
    clear hsa
    go_wp2_with fail
    refine HC.out.mono ?_
    rintro e w5 ⟨rfl, t5⟩
    have HT5 := Lib.hid (HT4.out.trans' t5)
    clear t5 HC
    cases hsb : smL 5 lb with
    | false =>
      clear hsb
      go_wp2_with fail
      refine (HAw.out w5 HT5.out).mono ?_
      rintro e w6 ⟨rfl, t6⟩
      have HT6 := Lib.hid (HT5.out.trans' t6)
      clear t6
      go_wp2_with fail
      go_ret
      exact ⟨rfl, HT6.out⟩
    | true =>
      have HFb := Lib.hid (small_list hsb HOb.out)
      have hna8 : na ≤ 8 := by rw [← HNA.out]; exact HFa.out.2.2.1
      clear hsb
      obtain ⟨css, q1, q2, q3, q4⟩ := css_of la 0 (HR1.out.turn HT5.out (by simp) la)
      have HQ := Lib.hid (And.intro q1 (And.intro q2 q3))
      have hRws : Rws w5 12 A1 na css.flatten := by
        refine ⟨by rw [flat12_len css q2, q1, HNA.out], ?_⟩
        by_cases hne : la = []
        · subst hne
          exact .inl (by rw [← HNA.out]; rfl)
        · obtain ⟨b, off, e, hb, hc⟩ := q4 hne
          exact .inr ⟨b, off, e, hb, fun i v hv => by have := hc i v hv; rwa [Nat.zero_mul, Nat.add_zero] at this⟩
      have hOne : ∀ u ∈ css.flatten, u.oneCell' = true := by
        intro u hu
        obtain ⟨cs, hcs, hu⟩ := List.mem_flatten.1 hu
        obtain ⟨j, hj⟩ := List.getElem?_of_mem hcs
        obtain ⟨s, hs⟩ := at_lt (l := la) (k := j) (by rw [← q1]; exact (List.getElem?_eq_some_iff.1 hj).1)
        exact (q3 j s cs hs hj).one u hu
      have HRW := Lib.hid (And.intro hRws hOne)
      clear q1 q2 q3 q4 hRws hOne
      go_upto_region 4 with (first
        | (at_builtin
           refine wpList_appR rfl (.tmp 23) (.tmp 24) 23 rfl (w5.alloc (.cells #[] 27)) 27 _ 12 184 Tryd.underlying23 stmt_zero rfl (by omega) (.slice (some ⟨w5.heap.size, 0, none⟩) 0 0) 0 [] rfl (World.ownsRow_lit w5 #[] 0 (Nat.zero_le _) (by simp [maxLen]) rfl) A1 na c1 css.flatten rfl (HRW.out.1.turn' (bx w5 _ _)) HRW.out.2 (by simp only [maxLen]; omega) (by omega) ?_
           intro v6 w6 ho6 ht6 hm6
           rw [Nat.zero_add, List.nil_append] at ho6
           have t6 : Turn [] w5 w6 := (bx w5 #[] 27).trans ht6 (fun g hg => by simp [Value.ownBlock] at hg; subst hg; exact .inr (Nat.le_refl _))
           have HMV : Hid (Mv w.heap.size w6 v6 la) := Lib.hid ⟨css, by rw [HNA.out]; exact ho6, HQ.out.1, HQ.out.2.1, fun j s cs hs hc => (HQ.out.2.2 j s cs hs hc).turn t6 (by simp)⟩
           have HNW : Hid (Nw w.heap.size v6) := Lib.hid (fun g hg => by
             have h5 := HT5.out.size
             rcases hm6 with h | h
             · rw [h] at hg; simp [Value.ownBlock] at hg; subst hg; exact h5
             · rw [h] at hg; simp at hg; omega)
           obtain ⟨A6, c6, hv6, _, _⟩ := owns_form ho6
           subst hv6
           have HT6 := Lib.hid (HT5.out.trans' t6)
           clear ho6 ht6 hm6 t6)
        | fail)
      clear HRW HQ
      go_wp2_with fail
      go_loopw [6] (fun i wr => ∃ k : Nat, k ≤ na ∧ i = .int .i64 (k : Int) ∧ Hid (Mv w.heap.size wr (.slice A6 na c6) ((la.take k).map bump ++ la.drop k) ∧ Turn [] w wr)) (fun i _ => na - (intOf i).toNat)
      case atStart => exact ⟨0, Nat.zero_le _, rfl, Lib.hid ⟨by simpa using HMV.out, HT6.out⟩⟩
      case round =>
        obtain ⟨k, hk, rfl, HW⟩ := hrel
        by_cases hlt : k < na
        · obtain ⟨s, hs⟩ := at_lt (l := la) (k := k) (by rw [HNA.out]; exact hlt)
          obtain ⟨d, x, y, z, t, f, ag, mm, bd, ot, ln, cl⟩ := s
          obtain ⟨g, rfl, hg, hc, hf, hput⟩ := HW.out.1.put (fun g off e => HNW.out g (by rw [e]; rfl)) (mvl_at hs)
          have HP := Lib.hid (hput (wrap64 (ln + 1)))
          have HSet := Lib.hid (mvl_set hs)
          have HGW := Lib.hid (HNW.out g rfl)
          clear hs hput
          go_wp2_with fail
          go_roundw
          case rel =>
            refine ⟨k + 1, by omega, by go_num, Lib.hid ⟨?_, HW.out.2.trans HP.out.2 (fun q hq => by simp at hq; subst hq; exact .inr HGW.out)⟩⟩
            rw [← HSet.out]
            exact HP.out.1
          case measure => simp [intOf]; omega
        · have hkn : k = na := by omega
          subst hkn
          have HMv : Hid (Mv w.heap.size wr (.slice A6 k c6) (la.map bump)) := Lib.hid (by
            have := HW.out.1
            rwa [List.take_of_length_le (by rw [HNA.out]; exact Nat.le_refl _), List.drop_of_length_le (by rw [HNA.out]; exact Nat.le_refl _), List.append_nil] at this)
          have HT7 := Lib.hid HW.out.2
          obtain ⟨w7, hw7⟩ : ∃ q, q = wr := ⟨_, rfl⟩
          subst hw7
          have HAa : Hid (∀ w', Turn [] w w' → Calls Tryd.prog 10 #[.slice A1 k c1] w' fun e w'' => ∃ A' c', e = .returned (.slice A' (rwL 0 la).length c') ∧ Bld w' w'' (.slice A' (rwL 0 la).length c') ((rwL 0 la).map ln)) := Lib.hid (fun w' ht => by
            have := HFa.out.2.1 A1 c1 w.heap.size w' (HR1.out.turn ht (by simp) la) ht.size (by have := HFa.out.1.2.2.2; omega) (by have := HFa.out.1.2.2.1; omega)
            rwa [HNA.out] at this)
          have HAb : Hid (∀ w', Turn [] w w' → Calls Tryd.prog 10 #[.slice A2 nb c2] w' fun e w'' => ∃ A' c', e = .returned (.slice A' (rwL 0 lb).length c') ∧ Bld w' w'' (.slice A' (rwL 0 lb).length c') ((rwL 0 lb).map ln)) := Lib.hid (fun w' ht => by
            have := HFb.out.2.1 A2 c2 w.heap.size w' (HR2.out.turn ht (by simp) lb) ht.size (by have := HFb.out.1.2.2.2; omega) (by have := HFb.out.1.2.2.1; omega)
            rwa [HNB.out] at this)
          have HNma : Hid (∀ w', Turn [] w w' → Calls Tryd.prog 7 #[.slice A1 k c1] w' fun e w'' => e = .returned (.bool (nmL la)) ∧ Turn [] w' w'') := Lib.hid (fun w' ht => by
            have := names_any la HFa.out.1.1 HFa.out.1.2.1 (by have := HFa.out.2.2.1; omega) A1 c1 w.heap.size w' (HR1.out.turn ht (by simp) la)
            rwa [HNA.out] at this)
          have HNmb : Hid (∀ w', Turn [] w w' → Calls Tryd.prog 7 #[.slice A2 nb c2] w' fun e w'' => e = .returned (.bool (nmL lb)) ∧ Turn [] w' w'') := Lib.hid (fun w' ht => by
            have := names_any lb HFb.out.1.1 HFb.out.1.2.1 (by have := HFb.out.2.2.1; omega) A2 c2 w.heap.size w' (HR2.out.turn ht (by simp) lb)
            rwa [HNB.out] at this)
          have HSt1 : Hid (∀ w', Turn [] w w' → Calls Tryd.prog 12 #[.slice A1 k c1, .slice A2 nb c2] w' fun e w'' => e = .returned (.bool (decide (lns (rwL 0 la) = lns (rwL 0 lb)))) ∧ Turn [] w' w'') := Lib.hid (fun w' ht => by
            have := stmts2_any la lb A1 A2 c1 c2 w.heap.size m w' (HR1.out.turn ht (by simp) la) (HR2.out.turn ht (by simp) lb) (HE.out.turn ht (by simp)) ((ht.cell (p := ⟨0, 0, none⟩) (cell_lt HM.out) (by simp)).trans HM.out) HFa.out.1 HFb.out.1
            rwa [HNA.out, HNB.out] at this)
          have HSt2 : Hid (∀ w', Turn [] w7 w' → Calls Tryd.prog 12 #[.slice A1 k c1, .slice A6 k c6] w' fun e w'' => e = .returned (.bool true) ∧ Turn [] w' w'') := Lib.hid (fun w' ht => by
            have ht' := HT7.out.trans' ht
            obtain ⟨hk1, hrd⟩ := (HMv.out.turn' ht).rdl ht'.size
            have := stmts2_any la (la.map bump) A1 A6 c1 c6 w'.heap.size m w' ((HR1.out.turn ht' (by simp) la).mono ht'.size la) hrd ((HE.out.turn ht' (by simp)).more ht'.size (Nat.le_refl _)) ((ht'.cell (p := ⟨0, 0, none⟩) (cell_lt HM.out) (by simp)).trans HM.out) HFa.out.1 ⟨bumps_ft HFa.out.1.1, bumps_ln HFa.out.1.2.1, by rw [List.length_map]; exact HFa.out.1.2.2.1, by rw [bumps_rows]; exact HFa.out.1.2.2.2⟩
            rw [bumps_rows, List.length_map, HNA.out] at this
            simpa using this)
          have HSame : Hid (nmL la = true → nmL lb = true → ((rwL 0 la).length = (rwL 0 lb).length ∧ jn ((rwL 0 la).map ln) ⟨#[10]⟩ = jn ((rwL 0 lb).map ln) ⟨#[10]⟩ ↔ lns (rwL 0 la) = lns (rwL 0 lb))) := Lib.hid (fun ha hb => same_iff (rwL_gd 0 la ha) (rwL_gd 0 lb hb))
          have HJa := Lib.hid (And.intro HFa.out.2.2.2 HFa.out.1.2.2.2)
          have HJb := Lib.hid (And.intro HFb.out.2.2.2 HFb.out.1.2.2.2)
          obtain ⟨R1, hR1⟩ : ∃ R, rwL 0 la = R := ⟨_, rfl⟩
          obtain ⟨R2, hR2⟩ : ∃ R, rwL 0 lb = R := ⟨_, rfl⟩
          rw [hR1] at HAa HSt1 HSame HJa
          rw [hR2] at HAb HSt1 HSame HJb
          have HN1 : Hid (nmL la = nmL la) := Lib.hid rfl
          obtain ⟨va, hva⟩ : ∃ v, nmL la = v := ⟨_, rfl⟩
          obtain ⟨vb, hvb⟩ : ∃ v, nmL lb = v := ⟨_, rfl⟩
          rw [hva] at HNma HSame
          rw [hvb] at HNmb HSame
          obtain ⟨VL, hVL⟩ : ∃ v, decide (lns R1 = lns R2) = v := ⟨_, rfl⟩
          rw [hVL] at HSt1
          have HVL := Lib.hid hVL
          clear hR1 hR2 hva hvb HN1 hVL HW HNW HMv HFa HFb HR1 HR2 HOa HOb HE HM HSa HSb HAw HNA HNB HMV
          go_wp2_with fail
          refine (HAa.out w7 HT7.out).mono ?_
          rintro e w8 ⟨A8, c8, rfl, hb8⟩
          have HB8 := Lib.hid hb8
          have HT8 := Lib.hid (HT7.out.trans' hb8.2.2)
          have HC := Lib.hid (HAb.out w8 HT8.out)
          clear hb8
          go_wp2_with fail
          refine HC.out.mono ?_
          rintro e w9 ⟨A9, c9, rfl, hb9⟩
          have HB9 := Lib.hid hb9
          have HT9 := Lib.hid (HT8.out.trans' hb9.2.2)
          have HTs := Lib.hid (HB8.out.2.2.trans' hb9.2.2)
          have HJ1 := Lib.hid (rjoin_any A8 c8 (R1.map ln) ⟨#[10]⟩ w9 ((OwnS.sts HB8.out.1).2.2.turn' hb9.2.2) (by rw [List.length_map]; have := HJa.out.2; omega) HJa.out.1)
          have HJ2 := Lib.hid (rjoin_any A9 c9 (R2.map ln) ⟨#[10]⟩ w9 (OwnS.sts hb9.1).2.2 (by rw [List.length_map]; have := HJb.out.2; omega) HJb.out.1)
          rw [List.length_map] at HJ1 HJ2
          obtain ⟨S1, hS1⟩ : ∃ S, jn (R1.map ln) ⟨#[10]⟩ = S := ⟨_, rfl⟩
          obtain ⟨S2, hS2⟩ : ∃ S, jn (R2.map ln) ⟨#[10]⟩ = S := ⟨_, rfl⟩
          rw [hS1] at HJ1 HSame
          rw [hS2] at HJ2 HSame
          obtain ⟨n1, hn1⟩ : ∃ n, R1.length = n := ⟨_, rfl⟩
          obtain ⟨n2, hn2⟩ : ∃ n, R2.length = n := ⟨_, rfl⟩
          rw [hn1] at HJ1 HSame ⊢
          rw [hn2] at HJ2 HSame ⊢
          clear hb9 HC HB8 HB9 HT8 HAa HAb hS1 hS2 hn1 hn2 HJa HJb
          have hD : ¬ n1 = n2 ∨ (n1 = n2 ∧ S1 = S2) ∨ (n1 = n2 ∧ S1 ≠ S2) := by
            by_cases e1 : n1 = n2
            · by_cases e2 : S1 = S2
              · exact .inr (.inl ⟨e1, e2⟩)
              · exact .inr (.inr ⟨e1, e2⟩)
            · exact .inl e1
          rcases hD with hA | ⟨hA, hB⟩ | ⟨hA, hB⟩
          · have hAI : ¬ (n1 : Int) = (n2 : Int) := by omega
            have HV : Hid (va = true → vb = true → VL = false) := Lib.hid (fun ha hb => by
              rw [← HVL.out, decide_eq_false_iff_not]
              intro e
              exact hA ((HSame.out ha hb).2 e).1)
            go_wp2_with fail
            refine (HNma.out w9 HT9.out).mono ?_
            rintro e w11 ⟨rfl, t11⟩
            have HT11 := Lib.hid (HT9.out.trans' t11)
            have HTm := Lib.hid (HTs.out.trans' t11)
            clear t11
            cases va with
            | false =>
              go_wp2_with fail
              refine (HSt2.out w11 HTm.out).mono ?_
              rintro e w12 ⟨rfl, t12⟩
              have HT12 := Lib.hid (HT11.out.trans' t12)
              clear t12
              go_wp2_with fail
              go_ret
              exact ⟨rfl, HT12.out⟩
            | true =>
              have HC := Lib.hid (HNmb.out w11 HT11.out)
              go_wp2_with fail
              refine HC.out.mono ?_
              rintro e w12 ⟨rfl, t12⟩
              have HT12 := Lib.hid (HT11.out.trans' t12)
              have HTm2 := Lib.hid (HTm.out.trans' t12)
              clear t12 HC
              cases vb with
              | false =>
                go_wp2_with fail
                refine (HSt2.out w12 HTm2.out).mono ?_
                rintro e w13 ⟨rfl, t13⟩
                have HT13 := Lib.hid (HT12.out.trans' t13)
                clear t13
                go_wp2_with fail
                go_ret
                exact ⟨rfl, HT13.out⟩
              | true =>
                have hv := HV.out (by trivial) (by trivial)
                subst hv
                have HC := Lib.hid (HSt1.out w12 HT12.out)
                go_wp2_with fail
                refine HC.out.mono ?_
                rintro e w13 ⟨rfl, t13⟩
                have HT13 := Lib.hid (HT12.out.trans' t13)
                have HTm3 := Lib.hid (HTm2.out.trans' t13)
                clear t13 HC
                go_wp2_with fail
                refine (HSt2.out w13 HTm3.out).mono ?_
                rintro e w14 ⟨rfl, t14⟩
                have HT14 := Lib.hid (HT13.out.trans' t14)
                clear t14
                go_wp2_with fail
                go_ret
                exact ⟨rfl, HT14.out⟩
          · subst hA
            subst hB
            have HV : Hid (va = true → vb = true → VL = true) := Lib.hid (fun ha hb => by
              rw [← HVL.out, decide_eq_true_eq]
              exact (HSame.out ha hb).1 ⟨rfl, rfl⟩)
            go_wp2_with fail
            refine HJ1.out.mono ?_
            rintro e w10 ⟨rfl, rfl⟩
            go_wp2_with fail
            refine HJ2.out.mono ?_
            rintro e w10 ⟨rfl, rfl⟩
            go_wp2_with fail
            refine (HNma.out w9 HT9.out).mono ?_
            rintro e w11 ⟨rfl, t11⟩
            have HT11 := Lib.hid (HT9.out.trans' t11)
            have HTm := Lib.hid (HTs.out.trans' t11)
            clear t11
            cases va with
            | false =>
              go_wp2_with fail
              refine (HSt2.out w11 HTm.out).mono ?_
              rintro e w12 ⟨rfl, t12⟩
              have HT12 := Lib.hid (HT11.out.trans' t12)
              clear t12
              go_wp2_with fail
              go_ret
              exact ⟨rfl, HT12.out⟩
            | true =>
              have HC := Lib.hid (HNmb.out w11 HT11.out)
              go_wp2_with fail
              refine HC.out.mono ?_
              rintro e w12 ⟨rfl, t12⟩
              have HT12 := Lib.hid (HT11.out.trans' t12)
              have HTm2 := Lib.hid (HTm.out.trans' t12)
              clear t12 HC
              cases vb with
              | false =>
                go_wp2_with fail
                refine (HSt2.out w12 HTm2.out).mono ?_
                rintro e w13 ⟨rfl, t13⟩
                have HT13 := Lib.hid (HT12.out.trans' t13)
                clear t13
                go_wp2_with fail
                go_ret
                exact ⟨rfl, HT13.out⟩
              | true =>
                have hv := HV.out (by trivial) (by trivial)
                subst hv
                have HC := Lib.hid (HSt1.out w12 HT12.out)
                go_wp2_with fail
                refine HC.out.mono ?_
                rintro e w13 ⟨rfl, t13⟩
                have HT13 := Lib.hid (HT12.out.trans' t13)
                have HTm3 := Lib.hid (HTm2.out.trans' t13)
                clear t13 HC
                go_wp2_with fail
                refine (HSt2.out w13 HTm3.out).mono ?_
                rintro e w14 ⟨rfl, t14⟩
                have HT14 := Lib.hid (HT13.out.trans' t14)
                clear t14
                go_wp2_with fail
                go_ret
                exact ⟨rfl, HT14.out⟩
          · subst hA
            have HV : Hid (va = true → vb = true → VL = false) := Lib.hid (fun ha hb => by
              rw [← HVL.out, decide_eq_false_iff_not]
              intro e
              exact hB ((HSame.out ha hb).2 e).2)
            have hbf := bytes_f hB
            go_wp2_with fail
            refine HJ1.out.mono ?_
            rintro e w10 ⟨rfl, rfl⟩
            go_wp2_with fail
            refine HJ2.out.mono ?_
            rintro e w10 ⟨rfl, rfl⟩
            go_wp2_with fail
            refine (HNma.out w9 HT9.out).mono ?_
            rintro e w11 ⟨rfl, t11⟩
            have HT11 := Lib.hid (HT9.out.trans' t11)
            have HTm := Lib.hid (HTs.out.trans' t11)
            clear t11
            cases va with
            | false =>
              go_wp2_with fail
              refine (HSt2.out w11 HTm.out).mono ?_
              rintro e w12 ⟨rfl, t12⟩
              have HT12 := Lib.hid (HT11.out.trans' t12)
              clear t12
              go_wp2_with fail
              go_ret
              exact ⟨rfl, HT12.out⟩
            | true =>
              have HC := Lib.hid (HNmb.out w11 HT11.out)
              go_wp2_with fail
              refine HC.out.mono ?_
              rintro e w12 ⟨rfl, t12⟩
              have HT12 := Lib.hid (HT11.out.trans' t12)
              have HTm2 := Lib.hid (HTm.out.trans' t12)
              clear t12 HC
              cases vb with
              | false =>
                go_wp2_with fail
                refine (HSt2.out w12 HTm2.out).mono ?_
                rintro e w13 ⟨rfl, t13⟩
                have HT13 := Lib.hid (HT12.out.trans' t13)
                clear t13
                go_wp2_with fail
                go_ret
                exact ⟨rfl, HT13.out⟩
              | true =>
                have hv := HV.out (by trivial) (by trivial)
                subst hv
                have HC := Lib.hid (HSt1.out w12 HT12.out)
                go_wp2_with fail
                refine HC.out.mono ?_
                rintro e w13 ⟨rfl, t13⟩
                have HT13 := Lib.hid (HT12.out.trans' t13)
                have HTm3 := Lib.hid (HTm2.out.trans' t13)
                clear t13 HC
                go_wp2_with fail
                refine (HSt2.out w13 HTm3.out).mono ?_
                rintro e w14 ⟨rfl, t14⟩
                have HT14 := Lib.hid (HT13.out.trans' t14)
                clear t14
                go_wp2_with fail
                go_ret
                exact ⟨rfl, HT14.out⟩
end Go.Proofs.YtoekaehpcjhhaaaDoor
