/- HierFaults. -/
import Derived.Test.YtjnphoeifonenaaDoorQ09LBo
import Derived.Test.YtjnphoeifonenaaDoorQ19Rft

set_option linter.unusedSimpArgs false
set_option linter.unusedVariables false
set_option maxRecDepth 100000
namespace Go.Proofs.YtjnphoeifonenaaDoor
open Go.RowKit

theorem faults_agree {l : List K8} (hk : KOk l) {r : Nat} {e1 e2 : Ending} {w1 : World} (h1 : NwR l r e1 w1) (h2 : FtR l e2) :
    ∃ (P : Option Addr) (er p q : Int), e1 = .returned (.tuple #[.pointer P, .agg (ftC er p q)]) ∧ e2 = .returned (.agg (ftC er p q)) ∧ ((P = none ∧ er = 11) ∨ ∃ t, P = some ⟨t, 0, none⟩ ∧ er = 0) := by
  have hlen := hk.len
  have hok : EsOk (esL l) := esL_ok hk.len (fun c hc => (hk.nm c hc).2.2.2)
  have hall : filK l l 0 = none → ∀ j x, l[j]? = some x → sndB l j x = true := fun hf j x hx => by
    have := filK_none l 0 hf j x hx
    rw [Nat.zero_add, okK_is hlen] at this
    exact this
  cases h1 with
  | bad k c hf hc he =>
    obtain ⟨c', _, h3, h4, h5⟩ := filK_some l 0 k hf
    rw [Nat.sub_zero, hc] at h3
    injection h3 with h3
    subst h3
    rw [okK_is hlen] at h4
    cases h2 with
    | bad k' c'' hc' hk' hall' he' =>
      have hkk : k = k' := by
        rcases Nat.lt_trichotomy k k' with h | h | h
        · have := hall' k c h hc
          rw [h4] at this
          cases this
        · exact h
        · have := h5 k' c'' (by omega) hc'
          rw [Nat.zero_add, okK_is hlen, hk'] at this
          cases this
      subst hkk
      rw [hc] at hc'
      injection hc' with hc'
      subst hc'
      exact ⟨_, _, _, _, he, he', .inl ⟨rfl, rfl⟩⟩
    | rnd k' c'' hc' ha' hk' hno he' =>
      have := ha' k c hc
      rw [h4] at this
      cases this
    | ok ha' hno he' =>
      have := ha' k c hc
      rw [h4] at this
      cases this
  | rnd s a c hf hs ha hc he =>
    rw [← esL_len l] at hs
    obtain ⟨h3, h4⟩ := round_says hok hs
    rw [ha] at h3 h4
    cases h2 with
    | bad k' c'' hc' hk' hall' he' =>
      have := hall hf k' c'' hc'
      rw [hk'] at this
      cases this
    | rnd k' c'' hc' ha' hk' hno he' =>
      have hak : a = k' := by
        have h5 := (h3 k' hk').2
        rcases h4 with h4 | ⟨d, h4, h6⟩
        · omega
        · have : ¬ d < k' := fun h => hno d h h6
          omega
      subst hak
      rw [hc] at hc'
      injection hc' with hc'
      subst hc'
      exact ⟨_, _, _, _, he, he', .inl ⟨rfl, rfl⟩⟩
    | ok ha' hno he' =>
      rcases h4 with h4 | ⟨d, h4, h6⟩
      · omega
      · exact absurd h6 (hno d)
  | ok s t m sz V hf hs ha he hrt ht hm =>
    rw [← esL_len l] at hs
    obtain ⟨h3, h4⟩ := round_says hok hs
    rw [ha] at h3 h4
    cases h2 with
    | bad k' c'' hc' hk' hall' he' =>
      have := hall hf k' c'' hc'
      rw [hk'] at this
      cases this
    | rnd k' c'' hc' ha' hk' hno he' =>
      have := (h3 k' hk').1
      omega
    | ok ha' hno he' => exact ⟨_, _, _, _, he, he', .inr ⟨_, rfl, rfl⟩⟩
set_option maxHeartbeats 25600000 in
theorem faults_law (A : Option Addr) (c B : Nat) (l : List K8) (m0 m1 m2 m3 m4 m5 m6 m7 m8 : Value) (w : World) (hr : RdKs B w A l) (hB : B ≤ w.heap.size) (hnm : NmOk l) (hT : Tab w) :
    Calls Tryd.prog 3 #[.agg #[.slice A l.length c, m0, m1, m2, m3, m4, m5, m6, m7, m8]] w fun e w' => e = .returned (.bool true) ∧ Turn [] w w' := by
  obtain ⟨n, hn⟩ : ∃ n, l.length = n := ⟨_, rfl⟩
  obtain ⟨r, hrr⟩ : ∃ r, w.heap.size = r := ⟨_, rfl⟩
  obtain ⟨W0, hW0⟩ : ∃ W, w.alloc (.cells #[.slice A n c, m0, m1, m2, m3, m4, m5, m6, m7, m8] 30) = W := ⟨_, rfl⟩
  have t0 : Turn [] w W0 := by rw [← hW0]; exact (Turn.refl [] w).alloc _
  have b0 : W0.heap[r]? = some (.cells #[.slice A n c, m0, m1, m2, m3, m4, m5, m6, m7, m8] 30 (0, 0)) := by rw [← hW0, ← hrr]; exact heap_alloc_new w _
  have HAw : Hid (∀ W, Turn [] W0 W → Calls Tryd.prog 8 #[] W fun e w' => e = .returned (.bool true) ∧ Turn [] W w') := Lib.hid fun W t => awake_any W ((hT.turn' t0).turn' t)
  have HSm : Hid (∀ W, Turn [] W0 W → Calls Tryd.prog 9 #[.agg #[.slice A n c, m0, m1, m2, m3, m4, m5, m6, m7, m8]] W fun e w' => e = .returned (.bool (smallB l)) ∧ Turn [] W w') := Lib.hid fun W t => by
    rw [← hn]
    exact small_any8 A c B l m0 m1 m2 m3 m4 m5 m6 m7 m8 W ((hr.turn t0 (by simp)).turn t (by simp))
  have HNw : Hid (smallB l = true → ∀ W, Turn [] W0 W → Calls Tryd.prog 10 #[.agg #[.slice A n c, m0, m1, m2, m3, m4, m5, m6, m7, m8]] W fun e w' => NwR l W.heap.size e w' ∧ Turn [] W w') := Lib.hid fun hs W t => by
    rw [← hn]
    exact new_any A c B l m0 m1 m2 m3 m4 m5 m6 m7 m8 W ((hr.turn t0 (by simp)).turn t (by simp)) (by have := t0.size; have := t.size; omega) (small_ok hs hnm).1
  have HFt : Hid (smallB l = true → ∀ W, Turn [] W0 W → Calls Tryd.prog 11 #[.agg #[.slice A n c, m0, m1, m2, m3, m4, m5, m6, m7, m8]] W fun e w' => FtR l e ∧ Turn [] W w') := Lib.hid fun hs W t => by
    rw [← hn]
    exact rfault_any A c B l m0 m1 m2 m3 m4 m5 m6 m7 m8 W ((hr.turn t0 (by simp)).turn t (by simp)) (small_ok hs hnm).1.len (fun c hc => ((small_ok hs hnm).1.nm c hc).2.2.2)
  have hcl : ∀ W, Turn [] W0 W → ∀ (i : Nat) (v : Value), (#[Value.slice A n c, m0, m1, m2, m3, m4, m5, m6, m7, m8] : Array Value)[i]? = some v → W.cell? ⟨r, i, none⟩ = some v := fun W t i v hv => (cell_of_row W r i _ _ _ (t.heap b0 (by simp))).trans hv
  have HCL := Lib.hid hcl
  have HT0 := Lib.hid t0
  have HW0 := Lib.hid hW0
  have HRR := Lib.hid hrr
  have HN := Lib.hid hn
  have HNM := Lib.hid hnm
  have HTb := Lib.hid (hT.turn' t0)
  have HA0 := Lib.hid (HAw.out W0 (Turn.refl _ _))
  rw [hn]
  clear hr hB hnm hT hn hrr hW0 t0 b0 hcl
  go_enter Tryd.func3, Tryd.ntmps3
  go_wp2_with fail
  rw [HRR.out, HW0.out]
  refine HA0.out.mono ?_
  rintro e w1 ⟨rfl, t1⟩
  have HT1 := Lib.hid t1
  have HS1 := Lib.hid (HSm.out w1 t1)
  have g0 := HCL.out w1 t1 0 _ rfl
  have g1 := HCL.out w1 t1 1 _ rfl
  have g2 := HCL.out w1 t1 2 _ rfl
  have g3 := HCL.out w1 t1 3 _ rfl
  have g4 := HCL.out w1 t1 4 _ rfl
  have g5 := HCL.out w1 t1 5 _ rfl
  have g6 := HCL.out w1 t1 6 _ rfl
  have g7 := HCL.out w1 t1 7 _ rfl
  have g8 := HCL.out w1 t1 8 _ rfl
  have g9 := HCL.out w1 t1 9 _ rfl
  clear t1 HA0
  go_wp2_with fail
  refine HS1.out.mono ?_
  rintro e w2 ⟨rfl, t2⟩
  have HT2 := Lib.hid (HT1.out.trans' t2)
  clear t2 HS1 g0 g1 g2 g3 g4 g5 g6 g7 g8 g9
  obtain ⟨sm, hsm⟩ : ∃ sm, smallB l = sm := ⟨_, rfl⟩
  rw [hsm]
  have HSB := Lib.hid hsm
  clear hsm
  cases sm with
  | false =>
    have HA2 := Lib.hid (HAw.out w2 HT2.out)
    go_wp2_with fail
    refine HA2.out.mono ?_
    rintro e w3 ⟨rfl, t3⟩
    have HT3 := Lib.hid t3
    clear t3
    go_wp2_with fail
    go_ret
    exact ⟨rfl, (HT0.out.trans' HT2.out).trans' HT3.out⟩
  | true =>
    have HNw2 := Lib.hid (HNw.out HSB.out w2 HT2.out)
    have g0 := HCL.out w2 HT2.out 0 _ rfl
    have g1 := HCL.out w2 HT2.out 1 _ rfl
    have g2 := HCL.out w2 HT2.out 2 _ rfl
    have g3 := HCL.out w2 HT2.out 3 _ rfl
    have g4 := HCL.out w2 HT2.out 4 _ rfl
    have g5 := HCL.out w2 HT2.out 5 _ rfl
    have g6 := HCL.out w2 HT2.out 6 _ rfl
    have g7 := HCL.out w2 HT2.out 7 _ rfl
    have g8 := HCL.out w2 HT2.out 8 _ rfl
    have g9 := HCL.out w2 HT2.out 9 _ rfl
    go_wp2_with fail
    refine HNw2.out.mono ?_
    rintro e w3 ⟨hN, t3⟩
    have HT3 := Lib.hid (HT2.out.trans' t3)
    clear t3 HNw2 g0 g1 g2 g3 g4 g5 g6 g7 g8 g9
    have HNR := Lib.hid hN
    have hNN : ∃ (P : Option Addr) (er p q : Int), e = .returned (.tuple #[.pointer P, .agg (ftC er p q)]) := by
      cases hN with
      | bad k x hk hx he => exact ⟨_, _, _, _, he⟩
      | rnd s a x hf hs ha hx he => exact ⟨_, _, _, _, he⟩
      | ok s t tm sz V hf hs ha he hrt hTl hM => exact ⟨_, _, _, _, he⟩
    obtain ⟨P, er, p, q, rfl⟩ := hNN
    clear hN
    unfold ftC
    obtain ⟨W4, hW4⟩ : ∃ W, w3.alloc (.cells #[.int .i64 er, .int .i64 p, .int .i64 q] 36) = W := ⟨_, rfl⟩
    have t4 : Turn [] w3 W4 := by rw [← hW4]; exact (Turn.refl [] w3).alloc _
    have HT4 := Lib.hid (HT3.out.trans' t4)
    have HFx := Lib.hid (HFt.out HSB.out W4 HT4.out)
    have g0 := HCL.out W4 HT4.out 0 _ rfl
    have g1 := HCL.out W4 HT4.out 1 _ rfl
    have g2 := HCL.out W4 HT4.out 2 _ rfl
    have g3 := HCL.out W4 HT4.out 3 _ rfl
    have g4 := HCL.out W4 HT4.out 4 _ rfl
    have g5 := HCL.out W4 HT4.out 5 _ rfl
    have g6 := HCL.out W4 HT4.out 6 _ rfl
    have g7 := HCL.out W4 HT4.out 7 _ rfl
    have g8 := HCL.out W4 HT4.out 8 _ rfl
    have g9 := HCL.out W4 HT4.out 9 _ rfl
    obtain ⟨s4, hs4⟩ : ∃ s, w3.heap.size = s := ⟨_, rfl⟩
    have b4 : W4.heap[s4]? = some (.cells #[.int .i64 er, .int .i64 p, .int .i64 q] 36 (0, 0)) := by rw [← hW4, ← hs4]; exact heap_alloc_new w3 _
    have HB4 := Lib.hid b4
    have HW4 := Lib.hid hW4
    have HS4 := Lib.hid hs4
    clear b4 hW4 hs4 t4
    go_upto_region 4 with fail
    rw [HS4.out, HW4.out]
    go_wp2_with fail
    refine HFx.out.mono ?_
    rintro e w5 ⟨hF, t5⟩
    obtain ⟨P', er', p', q', he1, he2, hpe⟩ := faults_agree (small_ok HSB.out HNM.out).1 HNR.out hF
    injection he1 with he1
    injection he1 with he1
    simp only [ftC, Array.mk.injEq, List.cons.injEq, Value.pointer.injEq, Value.agg.injEq, Value.int.injEq, and_true, true_and] at he1
    obtain ⟨rfl, rfl, rfl, rfl⟩ := he1
    subst he2
    have HT5 := Lib.hid (HT4.out.trans' t5)
    obtain ⟨s5, hs5⟩ : ∃ s, w5.heap.size = s := ⟨_, rfl⟩
    obtain ⟨W6, hW6⟩ : ∃ W, w5.alloc (.cells #[.int .i64 er, .int .i64 p, .int .i64 q] 36) = W := ⟨_, rfl⟩
    have t6 : Turn [] w5 W6 := by rw [← hW6]; exact (Turn.refl [] w5).alloc _
    have b5 := (t5.trans' t6).heap HB4.out (by simp)
    have b6 : W6.heap[s5]? = some (.cells #[.int .i64 er, .int .i64 p, .int .i64 q] 36 (0, 0)) := by rw [← hW6, ← hs5]; exact heap_alloc_new w5 _
    have x0 : W6.cell? ⟨s4, 0, none⟩ = some (.int .i64 er) := cell_of_row W6 s4 0 _ _ _ b5
    have x1 : W6.cell? ⟨s4, 1, none⟩ = some (.int .i64 p) := cell_of_row W6 s4 1 _ _ _ b5
    have x2 : W6.cell? ⟨s4, 2, none⟩ = some (.int .i64 q) := cell_of_row W6 s4 2 _ _ _ b5
    have y0 : W6.cell? ⟨s5, 0, none⟩ = some (.int .i64 er) := cell_of_row W6 s5 0 _ _ _ b6
    have y1 : W6.cell? ⟨s5, 1, none⟩ = some (.int .i64 p) := cell_of_row W6 s5 1 _ _ _ b6
    have y2 : W6.cell? ⟨s5, 2, none⟩ = some (.int .i64 q) := cell_of_row W6 s5 2 _ _ _ b6
    have HW6 := Lib.hid hW6
    have HS5 := Lib.hid hs5
    have HT6 := Lib.hid (HT5.out.trans' t6)
    unfold ftC
    clear g0 g1 g2 g3 g4 g5 g6 g7 g8 g9 b5 b6 t5 t6 hF HFx hW6 hs5
    rcases hpe with ⟨rfl, rfl⟩ | ⟨t, rfl, rfl⟩
    · go_upto_region 5 with fail
      rw [HS5.out, HW6.out]
      go_wp2_with fail
      go_ret
      exact ⟨rfl, HT0.out.trans' HT6.out⟩
    · go_upto_region 5 with fail
      rw [HS5.out, HW6.out]
      go_wp2_with fail
      go_ret
      exact ⟨rfl, HT0.out.trans' HT6.out⟩
end Go.Proofs.YtjnphoeifonenaaDoor
