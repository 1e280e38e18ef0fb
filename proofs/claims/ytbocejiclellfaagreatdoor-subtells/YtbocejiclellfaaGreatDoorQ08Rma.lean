import Derived.Test.YtbocejiclellfaaGreatDoorQ07Rpl
import Derived.Deep.DeepCutAuto

/- The reference's Marks. -/
set_option linter.unusedSimpArgs false
set_option linter.unusedVariables false
set_option maxRecDepth 100000
namespace Go.Proofs.YtbocejiclellfaaGreatDoor
open Go.RowKit

/-- What lies above i, in one step or more. -/
def Ab1 (Es : List En) (i k : Nat) : Prop := ∃ j ∈ nxE Es i, Up Es j k
theorem count_mark : ∀ (ms : List Bool) (a : Nat), ms[a]? = some false → (ms.set a true).count false + 1 = ms.count false
  | [], a, h => by simp at h
  | b :: t, 0, h => by
    simp at h
    subst h
    simp
  | b :: t, a + 1, h => by
    have := count_mark t a (by simpa using h)
    cases b <;> simp [List.count_cons] <;> omega
/-- Every class that j stands for, or is marked, has all right above it marked. -/
def Cl (Es : List En) (i : Nat) (ms : List Bool) (j : Nat) : Prop := (j = i ∨ ms[j]? = some true) → ∀ a ∈ nxE Es j, ms[a]? = some true
def Snd (Es : List En) (i : Nat) (ms : List Bool) : Prop := ∀ k : Nat, ms[k]? = some true → Ab1 Es i k
theorem mk_done {Es : List En} (hok : EsOk Es) {i : Nat} {ms : List Bool} (hn : ms.length = Es.length) (hi : i < Es.length) (hs : Snd Es i ms) (hc : ∀ j, j < Es.length → Cl Es i ms j) (k : Nat) : ms[k]? = some true ↔ Ab1 Es i k := by
  refine ⟨hs k, ?_⟩
  rintro ⟨j, hj, hu⟩
  have h0 : ms[j]? = some true := hc i hi (.inl rfl) j hj
  have key : ∀ {a k : Nat}, Ua (nxE Es) Es.length [] a k → ms[a]? = some true → ms[k]? = some true := by
    intro a k hu
    induction hu with
    | refl _ _ => exact id
    | step h ha hn' ht ih =>
      intro h0
      exact hc _ h.lt (.inr (ih h0)) _ ha
  exact key hu h0
theorem snd_mark {Es : List En} (hok : EsOk Es) {i j a : Nat} {ms : List Bool} (hs : Snd Es i ms) (hj : j = i ∨ ms[j]? = some true) (ha : a ∈ nxE Es j) : Snd Es i (ms.set a true) := by
  intro k hk
  rw [List.getElem?_set] at hk
  by_cases hka : a = k
  · subst hka
    rcases hj with rfl | hj
    · exact ⟨a, ha, .refl (hok.lt _ a ha) (by simp)⟩
    · obtain ⟨b, hb, hu⟩ := hs j hj
      exact ⟨b, hb, Ua.step hu ha (hok.lt _ a ha) (by simp)⟩
  · rw [if_neg hka] at hk
    exact hs k hk
theorem OwnI.at' {w : World} {r n c : Nat} {A : Option Addr} {l : List Int} (h : OwnI w r (.slice A n c) l) : ∀ (k : Nat) (y : Int), l[k]? = some y → ∃ b off, A = some ⟨b, off, none⟩ ∧ w.cell? ⟨b, off + k, none⟩ = some (.int .i64 y) := fun k y hy => by
  obtain ⟨A', c', e, hI, _⟩ := h.form
  injection e with e1 e2 e3
  subst e1
  obtain ⟨b, off, e, _, hc⟩ := hI k y hy
  exact ⟨b, off, e, hc⟩
/-- At the head: marks so far, and what is left to do. -/
def M1 (Es : List En) (i n r g : Nat) (w wr : World) (v6 : Value) (m : Nat) : Prop := ∃ ms : List Bool, ms.length = n ∧ Snd Es i ms ∧ OwnB wr r (.slice (some ⟨g, 0, none⟩) n n) ms ∧ Turn [] w wr ∧
  ((v6 = .bool true ∧ m = 2 * ms.count false + 1) ∨ (v6 = .bool false ∧ m = 2 * ms.count false ∧ ∀ j, j < n → Cl Es i ms j))
def M2 (Es : List En) (i n r g c0 : Nat) (w wr : World) (v6 : Value) (k : Nat) (ms : List Bool) : Prop := ms.length = n ∧ Snd Es i ms ∧ OwnB wr r (.slice (some ⟨g, 0, none⟩) n n) ms ∧ Turn [] w wr ∧
  ((v6 = .bool true ∧ ms.count false < c0) ∨ (v6 = .bool false ∧ ms.count false = c0 ∧ ∀ j, j < k → Cl Es i ms j))
def M3 (Es : List En) (i n r g c0 q : Nat) (V : Value) (j : Nat) (w wr : World) (v6 : Value) (k : Nat) (ms : List Bool) : Prop := ms.length = n ∧ Snd Es i ms ∧ OwnB wr r (.slice (some ⟨g, 0, none⟩) n n) ms ∧ Turn [] w wr ∧ OwnI wr q V (ofN (nxE Es j)) ∧ (j = i ∨ ms[j]? = some true) ∧
  ((v6 = .bool true ∧ ms.count false < c0) ∨ (v6 = .bool false ∧ ms.count false = c0 ∧ (∀ j', j' < j → Cl Es i ms j') ∧ ∀ p, p < k → ∀ a, (nxE Es j)[p]? = some a → ms[a]? = some true))
theorem M3.done {Es : List En} {i n r g c0 q : Nat} {V : Value} {j : Nat} {w wr : World} {v6 : Value} {k : Nat} {ms : List Bool} (h : M3 Es i n r g c0 q V j w wr v6 k ms) (hk : k = (nxE Es j).length) : M2 Es i n r g c0 w wr v6 (j + 1) ms := by
  obtain ⟨h1, h2, h3, h4, h5, h6, h7⟩ := h
  refine ⟨h1, h2, h3, h4, ?_⟩
  rcases h7 with h7 | ⟨h7, h8, h9, h10⟩
  · exact .inl h7
  · refine .inr ⟨h7, h8, fun j' hj' => ?_⟩
    by_cases e : j' = j
    · subst e
      intro _ a ha
      obtain ⟨p, hp⟩ := List.mem_iff_getElem?.1 ha
      exact h10 p (by rw [hk]; exact (List.getElem?_eq_some_iff.1 hp).1) a hp
    · exact h9 j' (by omega)
theorem M3.skip {Es : List En} {i n r g c0 q : Nat} {V : Value} {j : Nat} {w wr : World} {v6 : Value} {k a : Nat} {ms : List Bool} (h : M3 Es i n r g c0 q V j w wr v6 k ms) (ha : (nxE Es j)[k]? = some a) (hm : ms[a]? = some true) : M3 Es i n r g c0 q V j w wr v6 (k + 1) ms := by
  obtain ⟨h1, h2, h3, h4, h5, h6, h7⟩ := h
  refine ⟨h1, h2, h3, h4, h5, h6, ?_⟩
  rcases h7 with h7 | ⟨h7, h8, h9, h10⟩
  · exact .inl h7
  · refine .inr ⟨h7, h8, h9, fun p hp a' ha' => ?_⟩
    by_cases e : p = k
    · subst e
      rw [ha] at ha'
      injection ha' with ha'
      subst ha'
      exact hm
    · exact h10 p (by omega) a' ha'
theorem M3.mark {Es : List En} {i n r g c0 q : Nat} {V : Value} {j : Nat} {w wr : World} {v6 : Value} {k a : Nat} {ms : List Bool} (h : M3 Es i n r g c0 q V j w wr v6 k ms) (hok : EsOk Es) (ha : (nxE Es j)[k]? = some a) (hm : ms[a]? = some false) (hg : w.heap.size ≤ g) (hq : g < q) :
    M3 Es i n r g c0 q V j w (wr.setCell ⟨g, a, none⟩ (.bool true)) (.bool true) (k + 1) (ms.set a true) := by
  obtain ⟨h1, h2, h3, h4, h5, h6, h7⟩ := h
  have tS : Turn [g] wr (wr.setCell ⟨g, a, none⟩ (.bool true)) := (Turn.refl [g] wr).setCell (.inl (by simp)) _
  have hc := count_mark ms a hm
  refine ⟨by rw [List.length_set]; exact h1, snd_mark hok h2 h6 (List.mem_of_getElem? ha), h3.putAt h1.symm, h4.trans tS (fun x hx => .inr (by simp at hx; omega)), h5.turn tS (fun x hx hh => by have := (h5.lt x hx).1; simp at hh; omega), ?_, .inl ⟨rfl, ?_⟩⟩
  · rcases h6 with h6 | h6
    · exact .inl h6
    · right
      rw [List.getElem?_set]
      by_cases e : a = j
      · subst e
        rw [hm] at h6
        cases h6
      · rw [if_neg e]
        exact h6
  · rcases h7 with ⟨_, h7⟩ | ⟨_, h7, _⟩ <;> omega

set_option maxHeartbeats 25600000 in
theorem rmarks_any (A : Option Addr) (c B : Nat) (l : List K8) (m0 m1 m2 m3 m4 m5 m6 m7 m8 : Value) (i : Nat) (w : World) (hr : RdKs B w A l) (hl : l.length ≤ 1000) (hfl : ∀ x ∈ l, x.fcs.length ≤ 999) (hrt : ∀ j x, l[j]? = some x → rtI l x = ofN (nxE (esL l) j)) (hi : i < l.length) :
    Calls Tryz.prog 29 #[.agg #[.slice A l.length c, m0, m1, m2, m3, m4, m5, m6, m7, m8], .int .i64 (i : Int)] w fun e w' => ∃ g ms, e = .returned (.slice (some ⟨g, 0, none⟩) l.length l.length) ∧ OwnB w' 0 (.slice (some ⟨g, 0, none⟩) l.length l.length) ms ∧ ms.length = l.length ∧ (∀ k : Nat, ms[k]? = some true ↔ Ab1 (esL l) i k) ∧ Turn [] w w' := by
  obtain ⟨n, hn⟩ : ∃ n, l.length = n := ⟨_, rfl⟩
  obtain ⟨r, hrr⟩ : ∃ r, w.heap.size = r := ⟨_, rfl⟩
  obtain ⟨W0, hW0⟩ : ∃ W, w.alloc (.cells #[.slice A n c, m0, m1, m2, m3, m4, m5, m6, m7, m8] 30) = W := ⟨_, rfl⟩
  have t0 : Turn [] w W0 := by rw [← hW0]; exact (Turn.refl [] w).alloc _
  have s0 : W0.heap.size = r + 1 := by rw [← hW0, ← hrr]; simp
  have b0 : W0.heap[r]? = some (.cells #[.slice A n c, m0, m1, m2, m3, m4, m5, m6, m7, m8] 30 (0, 0)) := by rw [← hW0, ← hrr]; exact heap_alloc_new w _
  obtain ⟨Es, hEs⟩ : ∃ Es, esL l = Es := ⟨_, rfl⟩
  have hok : EsOk Es := by rw [← hEs]; exact esL_ok hl hfl
  have hen : Es.length = n := by rw [← hEs, esL_len, hn]
  rw [hEs] at hrt ⊢
  have HRt : Hid (∀ W (j : Nat), Turn [] W0 W → j < n → Calls Tryz.prog 43 #[.agg #[.slice A n c, m0, m1, m2, m3, m4, m5, m6, m7, m8], .int .i64 (j : Int)] W fun e w' => ∃ U, e = .returned U ∧ OwnI w' W.heap.size U (ofN (nxE Es j)) ∧ Turn [] W w') := Lib.hid fun W j t hj => by
    obtain ⟨x, hx⟩ := at_lt (show j < l.length by omega)
    rw [← hn, ← hrt j x hx]
    exact rright_any A c B l m0 m1 m2 m3 m4 m5 m6 m7 m8 j x W ((hr.turn t0 (by simp)).turn t (by simp)) hl hx (hfl x (List.mem_of_getElem? hx))
  have p0 : W0.cell? ⟨r, 0, none⟩ = some (.slice A n c) := cell_of_row W0 r 0 _ _ _ b0
  have hpc : ∀ W, Turn [] W0 W → ∀ (q : Nat) (v : Value), (#[Value.slice A n c, m0, m1, m2, m3, m4, m5, m6, m7, m8] : Array Value)[q]? = some v → W.cell? ⟨r, q, none⟩ = some v := fun W t q v hv => (cell_of_row W r q _ _ _ (t.heap b0 (by simp))).trans hv
  obtain ⟨g, hg⟩ : ∃ g, W0.heap.size = g := ⟨_, rfl⟩
  obtain ⟨W1, hW1⟩ : ∃ W, W0.alloc (.cells (madeCells #[.bool false] n) 4) = W := ⟨_, rfl⟩
  have t1 : Turn [] W0 W1 := by rw [← hW1]; exact (Turn.refl [] W0).alloc _
  have hd1 : OwnB W1 0 (.slice (some ⟨g, 0, none⟩) n n) (List.replicate n false) := by
    have := OwnB.falses W0 0 n (Nat.zero_le _) (by omega)
    rw [Nat.mul_one, hg, hW1] at this
    exact this
  have hmk := fun W : World => make_bools n (by omega) W
  simp only [Nat.mul_one] at hmk
  have hrn : r < W0.heap.size := by omega
  have HSZ : Hid (W0.heap.size = g ∧ g < W1.heap.size) := Lib.hid ⟨hg, by rw [← hW1, ← hg]; simp⟩
  have HM0 : Hid (M1 Es i n 0 g W0 W1 (.bool true) (2 * (List.replicate n false).count false + 1)) := Lib.hid ⟨List.replicate n false, by simp, fun k hk => by rw [List.getElem?_replicate] at hk; (split at hk <;> cases hk), hd1, t1, .inl ⟨rfl, rfl⟩⟩
  have HP := Lib.hid hpc
  have HOK := Lib.hid hok
  have HEN := Lib.hid hen
  have HT0 := Lib.hid t0
  have HW0 := Lib.hid hW0
  have HW1 := Lib.hid hW1
  have HRR := Lib.hid hrr
  have HG := Lib.hid hg
  have hn1 : n ≤ 1000 := by omega
  rw [hn] at hi ⊢
  clear hr hrr hW0 t0 s0 b0 hW1 t1 hd1 hpc hok hen hg hrt hEs hfl hn hl
  go_enter Tryz.func29, Tryz.ntmps29
  go_upto_region 1 with fail
  rw [HRR.out, HW0.out]
  go_upto_region 2 with fail
  rw [HG.out, HW1.out]
  clear hmk p0 hrn
  go_wp2_with fail
  go_loopw [6] (fun v6 wr => ∃ m, Hid (M1 Es i n 0 g W0 wr v6 m)) (fun v6 wr => least (fun m => M1 Es i n 0 g W0 wr v6 m))
  case atStart => exact ⟨_, HM0⟩
  case round =>
    obtain ⟨ma, HMA⟩ := hrel
    have hsp := least_spec (R := fun m => M1 Es i n 0 g W0 wr u6 m) ⟨ma, HMA.out⟩
    obtain ⟨m, hm⟩ : ∃ m, least (fun m => M1 Es i n 0 g W0 wr u6 m) = m := ⟨_, rfl⟩
    rw [hm] at hsp
    have HMM := Lib.hid hm
    clear hm HMA HM0
    obtain ⟨ms0, hms⟩ := hsp
    obtain ⟨a1, a2, a3, a4, ⟨rfl, a5⟩ | ⟨rfl, a5, a6⟩⟩ := hms
    · obtain ⟨c0, hc0⟩ : ∃ c0, ms0.count false = c0 := ⟨_, rfl⟩
      have H20 : Hid (M2 Es i n 0 g c0 W0 wr (.bool false) 0 ms0) := Lib.hid ⟨a1, a2, a3, a4, .inr ⟨rfl, hc0, fun j hj => absurd hj (Nat.not_lt_zero j)⟩⟩
      rw [hc0] at a5
      have HM5 := Lib.hid a5
      clear a1 a2 a3 a4 a5 hc0
      go_wp2_with fail
      go_loopw [6, 7] (fun v6 v7 wr => ∃ (j : Nat) (ms : List Bool), j ≤ n ∧ v7 = .int .i64 (j : Int) ∧ Hid (M2 Es i n 0 g c0 W0 wr v6 j ms)) (fun _ v7 _ => n - (intOf v7).toNat)
      case atStart => exact ⟨0, ms0, Nat.zero_le _, rfl, H20⟩
      case round =>
        obtain ⟨j, ms, hj, rfl, H2⟩ := hrel
        by_cases hjn : j < n
        · have d1 : decide ((j : Int) < (n : Int)) = true := by simp; omega
          have d2 : (j : Int) < (n : Int) := by omega
          have d2' : j < n := hjn
          obtain ⟨mb, hmb⟩ := at_lt (show j < ms.length by rw [H2.out.1]; exact hjn)
          have cm : wr.cell? ⟨g, j, none⟩ = some (.bool mb) := H2.out.2.2.1.at.1 j mb hmb
          have tt := H2.out.2.2.2.1
          by_cases hji : j = i
          · subst hji
            have d6 : ((j : Int) != (j : Int)) = false := by simp
            have HJ : Hid (j = j ∨ ms[j]? = some true) := Lib.hid (.inl rfl)
            have HMB := Lib.hid hmb
            clear hmb
            have q0 : wr.cell? ⟨r, 0, none⟩ = some (.slice A n c) := HP.out wr (tt) 0 _ rfl
            have q1 : wr.cell? ⟨r, 1, none⟩ = some m0 := HP.out wr (tt) 1 _ rfl
            have q2 : wr.cell? ⟨r, 2, none⟩ = some m1 := HP.out wr (tt) 2 _ rfl
            have q3 : wr.cell? ⟨r, 3, none⟩ = some m2 := HP.out wr (tt) 3 _ rfl
            have q4 : wr.cell? ⟨r, 4, none⟩ = some m3 := HP.out wr (tt) 4 _ rfl
            have q5 : wr.cell? ⟨r, 5, none⟩ = some m4 := HP.out wr (tt) 5 _ rfl
            have q6 : wr.cell? ⟨r, 6, none⟩ = some m5 := HP.out wr (tt) 6 _ rfl
            have q7 : wr.cell? ⟨r, 7, none⟩ = some m6 := HP.out wr (tt) 7 _ rfl
            have q8 : wr.cell? ⟨r, 8, none⟩ = some m7 := HP.out wr (tt) 8 _ rfl
            have q9 : wr.cell? ⟨r, 9, none⟩ = some m8 := HP.out wr (tt) 9 _ rfl
            obtain ⟨q, hq⟩ : ∃ q, wr.heap.size = q := ⟨_, rfl⟩
            have HRx := Lib.hid (HRt.out wr j tt hjn)
            rw [hq] at HRx
            have HGQ : Hid (g < q) := Lib.hid (by
              have h1 := H2.out.2.2.1.lt g rfl
              omega)
            clear hq tt
            go_wp2_with fail
            refine HRx.out.mono ?_
            rintro e w4 ⟨U, rfl, hU, t4⟩
            obtain ⟨AU, cU, hUe, _, _⟩ := hU.form
            obtain ⟨N, hN⟩ : ∃ N, (nxE Es j).length = N := ⟨_, rfl⟩
            have hNo : (ofN (nxE Es j)).length = N := by unfold ofN; rw [List.length_map, hN]
            rw [hNo] at hUe
            have H30 : Hid (M3 Es j n 0 g c0 q (.slice AU N cU) j W0 w4 u6 0 ms) := by
              obtain ⟨x1, x2, x3, x4, x5⟩ := H2.out
              refine Lib.hid ⟨x1, x2, x3.turn' t4, x4.trans' t4, by rw [← hUe]; exact hU, .inl rfl, ?_⟩
              rcases x5 with x5 | ⟨x5, x6, x7⟩
              · exact .inl x5
              · exact .inr ⟨x5, x6, x7, fun p hp => absurd hp (Nat.not_lt_zero p)⟩
            subst hUe
            have hN1 : N ≤ 1000 := by rw [← hN]; exact HOK.out.few j
            have HNN := Lib.hid hN
            clear hU t4 hN hNo q0 q1 q2 q3 q4 q5 q6 q7 q8 q9 cm HRx
            go_wp2_with fail
            go_loopw [6, 9] (fun v6 v9 wr => ∃ (k : Nat) (ms : List Bool), k ≤ N ∧ v9 = .int .i64 (k : Int) ∧ Hid (M3 Es j n 0 g c0 q (.slice AU N cU) j W0 wr v6 k ms)) (fun _ v9 _ => N - (intOf v9).toNat)
            case atStart => exact ⟨0, ms, Nat.zero_le _, rfl, H30⟩
            case round =>
              obtain ⟨k, mt, hk, rfl, H3⟩ := hrel
              by_cases hkN : k < N
              · have d3 : decide ((k : Int) < (N : Int)) = true := by simp; omega
                have d4 : (k : Int) < (N : Int) := by omega
                obtain ⟨a, ha⟩ := at_lt (show k < (nxE Es j).length by rw [HNN.out]; exact hkN)
                obtain ⟨ab, aoff, rfl, ca⟩ := H3.out.2.2.2.2.1.at' k (a : Int) (by unfold ofN; simp [ha])
                have han : a < n := by have := HOK.out.lt j a (List.mem_of_getElem? ha); rw [HEN.out] at this; exact this
                have d5 : (a : Int) < (n : Int) := by omega
                obtain ⟨ba, hba⟩ := at_lt (show a < mt.length by rw [H3.out.1]; exact han)
                have cb : wr.cell? ⟨g, a, none⟩ = some (.bool ba) := H3.out.2.2.1.at.1 a ba hba
                have cbf : wr.frozen? ⟨g, a, none⟩ = false := H3.out.2.2.1.at.2 a
                have HAA := Lib.hid (And.intro ha hba)
                clear ha hba
                cases ba with
                | true =>
                  have HN3 : Hid (M3 Es j n 0 g c0 q (.slice (some ⟨ab, aoff, none⟩) N cU) j W0 wr u6 (k + 1) mt) := Lib.hid (H3.out.skip HAA.out.1 HAA.out.2)
                  go_wp2_with fail
                  go_roundw
                  case rel => exact ⟨k + 1, mt, by omega, by go_num, HN3⟩
                  case measure => simp [intOf]; omega
                | false =>
                  have HN3 : Hid (M3 Es j n 0 g c0 q (.slice (some ⟨ab, aoff, none⟩) N cU) j W0 (wr.setCell ⟨g, a, none⟩ (.bool true)) (.bool true) (k + 1) (mt.set a true)) := Lib.hid (H3.out.mark HOK.out HAA.out.1 HAA.out.2 (by have := HSZ.out.1; omega) HGQ.out)
                  go_wp2_with fail
                  go_roundw
                  case rel => exact ⟨k + 1, _, by omega, by go_num, HN3⟩
                  case measure => simp [intOf]; omega
              · obtain rfl : k = N := by omega
                have d3 : decide ((k : Int) < (k : Int)) = false := by simp
                have HN2 : Hid (M2 Es j n 0 g c0 W0 wr u6 (j + 1) mt) := Lib.hid (H3.out.done HNN.out.symm)
                go_wp2_with fail
                go_roundw
                case rel => exact ⟨j + 1, mt, by omega, by go_num, HN2⟩
                case measure => simp [intOf]; omega
          · have d6 : ((j : Int) != (i : Int)) = true := by simp; omega
            have d6' : decide ((j : Int) = (i : Int)) = false := by simp; omega
            cases mb with
            | true =>
              have HJ : Hid (j = i ∨ ms[j]? = some true) := Lib.hid (.inr hmb)
              have HMB := Lib.hid hmb
              clear hmb
              have q0 : wr.cell? ⟨r, 0, none⟩ = some (.slice A n c) := HP.out wr (tt) 0 _ rfl
              have q1 : wr.cell? ⟨r, 1, none⟩ = some m0 := HP.out wr (tt) 1 _ rfl
              have q2 : wr.cell? ⟨r, 2, none⟩ = some m1 := HP.out wr (tt) 2 _ rfl
              have q3 : wr.cell? ⟨r, 3, none⟩ = some m2 := HP.out wr (tt) 3 _ rfl
              have q4 : wr.cell? ⟨r, 4, none⟩ = some m3 := HP.out wr (tt) 4 _ rfl
              have q5 : wr.cell? ⟨r, 5, none⟩ = some m4 := HP.out wr (tt) 5 _ rfl
              have q6 : wr.cell? ⟨r, 6, none⟩ = some m5 := HP.out wr (tt) 6 _ rfl
              have q7 : wr.cell? ⟨r, 7, none⟩ = some m6 := HP.out wr (tt) 7 _ rfl
              have q8 : wr.cell? ⟨r, 8, none⟩ = some m7 := HP.out wr (tt) 8 _ rfl
              have q9 : wr.cell? ⟨r, 9, none⟩ = some m8 := HP.out wr (tt) 9 _ rfl
              obtain ⟨q, hq⟩ : ∃ q, wr.heap.size = q := ⟨_, rfl⟩
              have HRx := Lib.hid (HRt.out wr j tt hjn)
              rw [hq] at HRx
              have HGQ : Hid (g < q) := Lib.hid (by
                have h1 := H2.out.2.2.1.lt g rfl
                omega)
              clear hq tt
              go_wp2_with fail
              refine HRx.out.mono ?_
              rintro e w4 ⟨U, rfl, hU, t4⟩
              obtain ⟨AU, cU, hUe, _, _⟩ := hU.form
              obtain ⟨N, hN⟩ : ∃ N, (nxE Es j).length = N := ⟨_, rfl⟩
              have hNo : (ofN (nxE Es j)).length = N := by unfold ofN; rw [List.length_map, hN]
              rw [hNo] at hUe
              have H30 : Hid (M3 Es i n 0 g c0 q (.slice AU N cU) j W0 w4 u6 0 ms) := by
                obtain ⟨x1, x2, x3, x4, x5⟩ := H2.out
                refine Lib.hid ⟨x1, x2, x3.turn' t4, x4.trans' t4, by rw [← hUe]; exact hU, HJ.out, ?_⟩
                rcases x5 with x5 | ⟨x5, x6, x7⟩
                · exact .inl x5
                · exact .inr ⟨x5, x6, x7, fun p hp => absurd hp (Nat.not_lt_zero p)⟩
              subst hUe
              have hN1 : N ≤ 1000 := by rw [← hN]; exact HOK.out.few j
              have HNN := Lib.hid hN
              clear hU t4 hN hNo q0 q1 q2 q3 q4 q5 q6 q7 q8 q9 cm HRx
              go_wp2_with fail
              go_loopw [6, 9] (fun v6 v9 wr => ∃ (k : Nat) (ms : List Bool), k ≤ N ∧ v9 = .int .i64 (k : Int) ∧ Hid (M3 Es i n 0 g c0 q (.slice AU N cU) j W0 wr v6 k ms)) (fun _ v9 _ => N - (intOf v9).toNat)
              case atStart => exact ⟨0, ms, Nat.zero_le _, rfl, H30⟩
              case round =>
                obtain ⟨k, mt, hk, rfl, H3⟩ := hrel
                by_cases hkN : k < N
                · have d3 : decide ((k : Int) < (N : Int)) = true := by simp; omega
                  have d4 : (k : Int) < (N : Int) := by omega
                  obtain ⟨a, ha⟩ := at_lt (show k < (nxE Es j).length by rw [HNN.out]; exact hkN)
                  obtain ⟨ab, aoff, rfl, ca⟩ := H3.out.2.2.2.2.1.at' k (a : Int) (by unfold ofN; simp [ha])
                  have han : a < n := by have := HOK.out.lt j a (List.mem_of_getElem? ha); rw [HEN.out] at this; exact this
                  have d5 : (a : Int) < (n : Int) := by omega
                  obtain ⟨ba, hba⟩ := at_lt (show a < mt.length by rw [H3.out.1]; exact han)
                  have cb : wr.cell? ⟨g, a, none⟩ = some (.bool ba) := H3.out.2.2.1.at.1 a ba hba
                  have cbf : wr.frozen? ⟨g, a, none⟩ = false := H3.out.2.2.1.at.2 a
                  have HAA := Lib.hid (And.intro ha hba)
                  clear ha hba
                  cases ba with
                  | true =>
                    have HN3 : Hid (M3 Es i n 0 g c0 q (.slice (some ⟨ab, aoff, none⟩) N cU) j W0 wr u6 (k + 1) mt) := Lib.hid (H3.out.skip HAA.out.1 HAA.out.2)
                    go_wp2_with fail
                    go_roundw
                    case rel => exact ⟨k + 1, mt, by omega, by go_num, HN3⟩
                    case measure => simp [intOf]; omega
                  | false =>
                    have HN3 : Hid (M3 Es i n 0 g c0 q (.slice (some ⟨ab, aoff, none⟩) N cU) j W0 (wr.setCell ⟨g, a, none⟩ (.bool true)) (.bool true) (k + 1) (mt.set a true)) := Lib.hid (H3.out.mark HOK.out HAA.out.1 HAA.out.2 (by have := HSZ.out.1; omega) HGQ.out)
                    go_wp2_with fail
                    go_roundw
                    case rel => exact ⟨k + 1, _, by omega, by go_num, HN3⟩
                    case measure => simp [intOf]; omega
                · obtain rfl : k = N := by omega
                  have d3 : decide ((k : Int) < (k : Int)) = false := by simp
                  have HN2 : Hid (M2 Es i n 0 g c0 W0 wr u6 (j + 1) mt) := Lib.hid (H3.out.done HNN.out.symm)
                  go_wp2_with fail
                  go_roundw
                  case rel => exact ⟨j + 1, mt, by omega, by go_num, HN2⟩
                  case measure => simp [intOf]; omega
            | false =>
              have HN2 : Hid (M2 Es i n 0 g c0 W0 wr u6 (j + 1) ms) := by
                obtain ⟨x1, x2, x3, x4, x5⟩ := H2.out
                refine Lib.hid ⟨x1, x2, x3, x4, ?_⟩
                rcases x5 with x5 | ⟨x5, x6, x7⟩
                · exact .inl x5
                · refine .inr ⟨x5, x6, fun j' hj' => ?_⟩
                  by_cases e : j' = j
                  · subst e
                    rintro (h | h)
                    · exact absurd h hji
                    · rw [hmb] at h; cases h
                  · exact x7 j' (by omega)
              clear tt
              go_wp2_with fail
              go_roundw
              case rel => exact ⟨j + 1, ms, by omega, by go_num, HN2⟩
              case measure => simp [intOf]; omega
        · obtain rfl : j = n := by omega
          have d1 : decide ((j : Int) < (j : Int)) = false := by simp
          have HN1 : Hid (∃ m', m' < m ∧ M1 Es i j 0 g W0 wr u6 m') := by
            obtain ⟨x1, x2, x3, x4, x5⟩ := H2.out
            have h5 := HM5.out
            rcases x5 with ⟨x5, x6⟩ | ⟨x5, x6, x7⟩
            · exact Lib.hid ⟨2 * ms.count false + 1, by omega, ms, x1, x2, x3, x4, .inl ⟨x5, rfl⟩⟩
            · exact Lib.hid ⟨2 * ms.count false, by omega, ms, x1, x2, x3, x4, .inr ⟨x5, rfl, x7⟩⟩
          go_wp2_with fail
          go_roundw
          case rel => obtain ⟨m', _, h⟩ := HN1.out; exact ⟨m', Lib.hid h⟩
          case measure =>
            obtain ⟨m', hlt', h⟩ := HN1.out
            rw [HMM.out]
            exact Nat.lt_of_le_of_lt (least_le h) hlt'
    · have HD := Lib.hid (And.intro a1 (And.intro a2 (And.intro a3 (And.intro a4 a6))))
      clear a1 a2 a3 a4 a5 a6
      go_wp2_with fail
      go_ret
      refine ⟨g, ms0, rfl, HD.out.2.2.1, HD.out.1, fun k => ?_, HT0.out.trans' HD.out.2.2.2.1⟩
      exact mk_done HOK.out (by rw [HEN.out]; exact HD.out.1) (by rw [HEN.out]; exact hi) HD.out.2.1 (fun j hj => HD.out.2.2.2.2 j (by rw [← HEN.out]; exact hj)) k
end Go.Proofs.YtbocejiclellfaaGreatDoor

/- The reference's sound and Right against what fill lays: plain. -/
set_option linter.unusedSimpArgs false
set_option linter.unusedVariables false
set_option maxRecDepth 100000
namespace Go.Proofs.YtbocejiclellfaaGreatDoor
open Go.RowKit

theorem fnd_true {l : List K8} {s : ByteArray} {f : Bool} : (fndR l s f).2 = true ↔ (0 ≤ fndI l s ∧ faceAt l (fndI l s) = f) := by
  unfold fndR fndI
  cases h : fstF l l.length s with
  | none => simp
  | some i =>
    obtain ⟨_, y, hy, _⟩ := fstF_lt h
    simp [faceAt, hy]
theorem fnd_num {l : List K8} {s : ByteArray} {f : Bool} (h : 0 ≤ fndI l s) : (fndR l s f).1 = fndI l s := by
  unfold fndR fndI at *
  cases hf : fstF l l.length s with
  | none => rw [hf] at h; simp at h
  | some i => rfl
theorem fndI_inj {l : List K8} {s g : ByteArray} (h : 0 ≤ fndI l s) (e : fndI l s = fndI l g) : g = s := by
  rcases fndI_cases l s with h1 | ⟨j, y, h1, hy, hs⟩
  · omega
  · rcases fndI_cases l g with h2 | ⟨k, z, h2, hz, hg⟩
    · omega
    · have : j = k := by omega
      subst this
      rw [hy] at hz
      injection hz with hz
      rw [← hg, ← hs, hz]
theorem fndI_lt {l : List K8} (s : ByteArray) : fndI l s < (l.length : Int) := by
  rcases fndI_cases l s with h1 | ⟨j, y, h1, hy, hs⟩
  · omega
  · have := (List.getElem?_eq_some_iff.1 hy).1
    omega
/-- The faces, one behind another. -/
def fcsOk (l : List K8) : List ByteArray → List ByteArray → Bool
  | _, [] => true
  | pre, s :: ss => (decide (0 ≤ fndI l s) && faceAt l (fndI l s) && !(pre.any fun g => decide (g = s))) && fcsOk l (pre ++ [s]) ss
theorem facR_is {l : List K8} (hl : l.length ≤ 1000) : ∀ (ss pre : List ByteArray) (st rt : List Int), (∀ y, y ∈ st ↔ ∃ g ∈ pre, y = fndI l g) → facR l ss st rt = if fcsOk l pre ss = true then some (rt ++ ss.map (fndI l)) else none
  | [], pre, st, rt, h => by simp [facR, fcsOk]
  | s :: ss, pre, st, rt, h => by
    unfold facR fcsOk
    by_cases h0 : 0 ≤ fndI l s
    · rw [fnd_num h0]
      have hlt := fndI_lt (l := l) s
      have hb : hasB st (fndI l s) = (pre.any fun g => decide (g = s)) := by
        rw [Bool.eq_iff_iff, hasB_iff, h, List.any_eq_true]
        constructor
        · rintro ⟨g, hg, e⟩
          exact ⟨g, hg, by simpa using fndI_inj h0 e⟩
        · rintro ⟨g, hg, e⟩
          exact ⟨g, hg, by rw [show g = s by simpa using e]⟩
      rw [hb]
      have ih := facR_is hl ss (pre ++ [s]) (putL st (fndI l s)) (rt ++ [fndI l s]) (fun y => by
        rw [mem_putL, h]
        constructor
        · rintro (⟨g, hg, e⟩ | ⟨e, _⟩)
          · exact ⟨g, by simp [hg], e⟩
          · exact ⟨s, by simp, e⟩
        · rintro ⟨g, hg, e⟩
          rw [List.mem_append] at hg
          rcases hg with hg | hg
          · exact .inl ⟨g, hg, e⟩
          · rw [List.mem_singleton.1 hg] at e
            refine .inr ⟨e, ?_⟩
            unfold okB
            simp
            omega)
      rw [ih]
      by_cases hf : faceAt l (fndI l s) = true
      · have ht : (fndR l s true).2 = true := fnd_true.2 ⟨h0, hf⟩
        cases hp : (pre.any fun g => decide (g = s)) with
        | true => simp [hp]
        | false =>
          rw [if_pos ⟨ht, rfl⟩]
          simp [h0, hf]
      · have ht : ¬ (fndR l s true).2 = true := fun h => hf (fnd_true.1 h).2
        rw [if_neg (fun h => ht h.1)]
        simp [hf]
    · have ht : ¬ (fndR l s true).2 = true := fun h => h0 (fnd_true.1 h).1
      rw [if_neg (fun h => ht h.1)]
      simp [h0]
theorem fcsOk_iff {l : List K8} : ∀ (ss pre : List ByteArray), fcsOk l pre ss = true ↔ ∀ (a : Nat) (f : ByteArray), ss[a]? = some f → (decide (0 ≤ fndI l f) && faceAt l (fndI l f) && !((pre ++ ss.take a).any fun g => decide (g = f))) = true
  | [], pre => by simp [fcsOk]
  | s :: ss, pre => by
    unfold fcsOk
    rw [Bool.and_eq_true, fcsOk_iff ss (pre ++ [s])]
    constructor
    · rintro ⟨h1, h2⟩ a f hf
      cases a with
      | zero =>
        simp only [List.getElem?_cons_zero] at hf
        injection hf with hf
        subst hf
        simpa using h1
      | succ a =>
        rw [List.getElem?_cons_succ] at hf
        have := h2 a f hf
        rw [List.append_assoc] at this
        exact this
    · intro h
      refine ⟨by simpa using h 0 s rfl, fun a f hf => ?_⟩
      have := h (a + 1) f (by rw [List.getElem?_cons_succ]; exact hf)
      rw [List.append_assoc]
      exact this
theorem fcs_all {l : List K8} {x : K8} : (List.range x.fcs.length).all (fcB l x) = fcsOk l [] x.fcs := by
  rw [Bool.eq_iff_iff, fcsOk_iff, List.all_eq_true]
  constructor
  · intro h a f hf
    have := h a (List.mem_range.2 (List.getElem?_eq_some_iff.1 hf).1)
    unfold fcB at this
    rw [hf] at this
    exact this
  · intro h a ha
    obtain ⟨f, hf⟩ := at_lt (List.mem_range.1 ha)
    have := h a f hf
    unfold fcB
    rw [hf]
    exact this
theorem ent_is {l : List K8} (hl : l.length ≤ 1000) (x : K8) : entR8 l x = if (supOk l x && fcsOk l [] x.fcs) = true then some (if x.sup = ⟨#[]⟩ then -1 else fndI l x.sup, rtI l x) else none := by
  unfold entR8 supOk rtI
  have h0 : ∀ y, y ∈ ([] : List Int) ↔ ∃ g ∈ ([] : List ByteArray), y = fndI l g := by simp
  by_cases hs : x.sup = ⟨#[]⟩
  · rw [if_pos hs, facR_is hl x.fcs [] [] [] h0]
    cases hc : fcsOk l [] x.fcs <;> simp [hs]
  · rw [if_neg hs]
    by_cases h1 : 0 ≤ fndI l x.sup
    · cases hf : faceAt l (fndI l x.sup) with
      | true =>
        rw [if_neg (fun h => by have := (fnd_true.1 h).2; rw [hf] at this; cases this)]
        simp [hs]
      | false =>
        rw [if_pos (fnd_true.2 ⟨h1, hf⟩), fnd_num h1, facR_is hl x.fcs [] [] _ h0]
        cases hc : fcsOk l [] x.fcs <;> simp [hs, h1]
    · rw [if_neg (fun h => h1 (fnd_true.1 h).1)]
      simp [hs, h1]
theorem okK_is {l : List K8} (hl : l.length ≤ 1000) (i : Nat) (x : K8) : okK l i x = sndB l i x := by
  have hn : decide (fstF l l.length x.nm = some i) = decide (fndI l x.nm = (i : Int)) := by
    unfold fndI
    cases h : fstF l l.length x.nm with
    | none => simp
    | some j => simp; omega
  unfold okK sndB
  rw [ent_is hl, hn, fcs_all]
  cases supOk l x <;> cases fcsOk l [] x.fcs <;> simp
theorem rt_is {l : List K8} (hl : l.length ≤ 1000) {i : Nat} {x : K8} (h : sndB l i x = true) (hx : l[i]? = some x) : rtI l x = ofN (nxE (esL l) i) := by
  have he : entR8 l x = some (if x.sup = ⟨#[]⟩ then -1 else fndI l x.sup, rtI l x) := by
    rw [ent_is hl, if_pos]
    unfold sndB at h
    rw [fcs_all] at h
    simp only [Bool.and_eq_true] at h ⊢
    exact ⟨h.1.2, h.2⟩
  rw [nxE_esL hx]
  unfold enOf
  rw [he]
  unfold ofN
  rw [List.map_map]
  conv => lhs; rw [← List.map_id (rtI l x)]
  refine List.map_congr_left fun y hy => ?_
  obtain ⟨j, e, _⟩ := (entR8_nat he).1 y hy
  simp [e]
end Go.Proofs.YtbocejiclellfaaGreatDoor

/- What the table tells of a program that is right: plain. -/
set_option linter.unusedSimpArgs false
set_option linter.unusedVariables false
namespace Go.Proofs.YtbocejiclellfaaGreatDoor
open Go.RowKit

theorem snd_first {l : List K8} {i : Nat} {x : K8} (h : sndB l i x = true) : fstF l l.length x.nm = some i := by
  have h0 : fndI l x.nm = (i : Int) := by
    unfold sndB at h
    simp only [Bool.and_eq_true] at h
    simpa using h.1.1
  unfold fndI at h0
  cases hf : fstF l l.length x.nm with
  | none => rw [hf] at h0; simp at h0
  | some j => rw [hf] at h0; rw [show j = i by simp at h0; omega]
theorem snd_entry {l : List K8} (hl : l.length ≤ 1000) {i : Nat} {x : K8} (h : sndB l i x = true) (hx : l[i]? = some x) : (esL l)[i]? = some ⟨x.nm, x.face, if x.sup = ⟨#[]⟩ then -1 else fndI l x.sup, (rtI l x).map Int.toNat⟩ := by
  have he : entR8 l x = some (if x.sup = ⟨#[]⟩ then -1 else fndI l x.sup, rtI l x) := by
    rw [ent_is hl, if_pos]
    unfold sndB at h
    rw [fcs_all] at h
    simp only [Bool.and_eq_true] at h ⊢
    exact ⟨h.1.2, h.2⟩
  unfold esL
  rw [List.getElem?_map, hx]
  simp only [Option.map_some, enOf, he]
theorem fnd_index (l : List K8) (s : ByteArray) : ((fstF l l.length s).isSome = decide (0 ≤ fndI l s)) ∧ (0 ≤ fndI l s → (((fstF l l.length s).getD 0 : Nat) : Int) = fndI l s) ∧ (fndI l s < 0 → (fstF l l.length s).getD 0 = 0) := by
  unfold fndI
  cases hf : fstF l l.length s with
  | none => simp
  | some j => simp; omega
end Go.Proofs.YtbocejiclellfaaGreatDoor

/- The reference's Above: plain. -/
set_option linter.unusedSimpArgs false
set_option linter.unusedVariables false
set_option maxRecDepth 100000
namespace Go.Proofs.YtbocejiclellfaaGreatDoor
open Go.RowKit

theorem up_ab1 {Es : List En} {i j : Nat} : Up Es i j ↔ i < Es.length ∧ (j = i ∨ Ab1 Es i j) := by
  constructor
  · intro h
    refine ⟨h.start.1, ?_⟩
    by_cases e : i = j
    · exact .inl e.symm
    · right
      obtain ⟨a, ha, hu⟩ := Ua.first h e
      exact ⟨a, ha, hu⟩
  · rintro ⟨hi, rfl | ⟨a, ha, hu⟩⟩
    · exact .refl hi (by simp)
    · exact Ua.head hi (by simp) ha hu
/-- Does one of the first q have k above it, or is k? -/
def Inq (Es : List En) (is : List Int) (k q : Nat) : Prop := ∃ i : Nat, (i : Int) ∈ is.take q ∧ Up Es i k
noncomputable def inB (Es : List En) (is : List Int) (k q : Nat) : Bool := by
  classical exact decide (Inq Es is k q)
theorem inB_iff {Es : List En} {is : List Int} {k q : Nat} : inB Es is k q = true ↔ Inq Es is k q := by
  unfold inB
  simp
theorem inB_zero (Es : List En) (is : List Int) (k : Nat) : inB Es is k 0 = false := by
  rw [Bool.eq_false_iff]
  intro h
  obtain ⟨i, h, _⟩ := inB_iff.1 h
  simp at h
theorem inB_next {Es : List En} {is : List Int} {k q : Nat} {z : Int} (hz : is[q]? = some z) {b : Bool} (hb : b = true ↔ ∃ i : Nat, z = (i : Int) ∧ Up Es i k) : inB Es is k (q + 1) = (inB Es is k q || b) := by
  rw [Bool.eq_iff_iff, inB_iff, Bool.or_eq_true, inB_iff, hb]
  unfold Inq
  rw [take_snoc hz]
  constructor
  · rintro ⟨i, h, hu⟩
    rcases List.mem_append.1 h with h | h
    · exact .inl ⟨i, h, hu⟩
    · exact .inr ⟨i, (List.mem_singleton.1 h).symm, hu⟩
  · rintro (⟨i, h, hu⟩ | ⟨i, h, hu⟩)
    · exact ⟨i, List.mem_append_left _ h, hu⟩
    · exact ⟨i, List.mem_append_right _ (List.mem_singleton.2 h.symm), hu⟩
def Ao (Es : List En) (is : List Int) (k : Nat) (o : List Int) : Prop := Sd o ∧ o.length ≤ k ∧ ∀ y, y ∈ o ↔ ∃ j : Nat, j < k ∧ y = (j : Int) ∧ Inq Es is j is.length
theorem Ao.skip {Es : List En} {is : List Int} {k : Nat} {o : List Int} (h : Ao Es is k o) (hk : ¬ Inq Es is k is.length) : Ao Es is (k + 1) o := by
  obtain ⟨h1, h2, h3⟩ := h
  refine ⟨h1, by omega, fun y => ?_⟩
  rw [h3]
  constructor
  · rintro ⟨j, hj, e, hi⟩
    exact ⟨j, by omega, e, hi⟩
  · rintro ⟨j, hj, e, hi⟩
    refine ⟨j, ?_, e, hi⟩
    by_cases ej : j = k
    · subst ej; exact absurd hi hk
    · omega
theorem Ao.put {Es : List En} {is : List Int} {k : Nat} {o : List Int} (h : Ao Es is k o) (hk : Inq Es is k is.length) : Ao Es is (k + 1) (o ++ [(k : Int)]) := by
  obtain ⟨h1, h2, h3⟩ := h
  refine ⟨?_, by simp; omega, fun y => ?_⟩
  · unfold Sd
    rw [List.pairwise_append]
    refine ⟨h1, by simp, fun a ha b hb => ?_⟩
    obtain ⟨j, hj, e, _⟩ := (h3 a).1 ha
    have := List.mem_singleton.1 hb
    omega
  · rw [List.mem_append, h3, List.mem_singleton]
    constructor
    · rintro (⟨j, hj, e, hi⟩ | e)
      · exact ⟨j, by omega, e, hi⟩
      · exact ⟨k, by omega, e, hk⟩
    · rintro ⟨j, hj, e, hi⟩
      by_cases ej : j = k
      · subst ej; exact .inr e
      · exact .inl ⟨j, by omega, e, hi⟩
theorem Ao.done {Es : List En} (hn : Es.length ≤ 1000000) {is o : List Int} (h : Ao Es is Es.length o) : o = abvL Es is := by
  obtain ⟨h1, h2, h3⟩ := h
  refine sd_ext h1 (sd_abv Es is) fun y => ?_
  rw [h3, abv_mem hn]
  constructor
  · rintro ⟨j, hj, e, i, hi, hu⟩
    rw [List.take_length] at hi
    exact ⟨i, j, hi, e, hu⟩
  · rintro ⟨i, j, hi, e, hu⟩
    exact ⟨j, hu.lt, e, i, by rw [List.take_length]; exact hi, hu⟩
end Go.Proofs.YtbocejiclellfaaGreatDoor

/- The heap: Pop; up. -/
set_option linter.unusedSimpArgs false
set_option linter.unusedVariables false
set_option maxRecDepth 100000
namespace Go.Proofs.YtbocejiclellfaaGreatDoor
open Go.RowKit

set_option maxHeartbeats 3200000 in
theorem pop_any {rb : Nat} {V : Value} {q : List Int} {x : Int} {w : World} (k : Hp w rb V (q ++ [x])) (hl : q.length ≤ 1000000) :
    Calls Tryz.prog 118 #[.pointer (some ⟨rb, 0, none⟩)] w fun e w' => e = .returned (.iface 3 (.int .i64 x)) ∧ ∃ V', HpO w w' rb V V' q := by
  obtain ⟨g, c, rfl, hc, hg, _, hcell, _⟩ := k.own.slot (by simp)
  obtain ⟨Q, hQ⟩ : ∃ Q, q.length = Q := ⟨_, rfl⟩
  have hN : (q ++ [x]).length = Q + 1 := by rw [List.length_append, hQ]; rfl
  rw [hN] at k hc ⊢
  have c0 : w.cell? ⟨rb, 0, none⟩ = some (.slice (some ⟨g, 0, none⟩) (Q + 1) c) := cell_of_row w rb 0 _ _ _ k.blk
  have f0 : w.frozen? ⟨rb, 0, none⟩ = false := frozen_of_row w rb 0 _ _ k.blk
  have c1 : w.cell? ⟨g, Q, none⟩ = some (.int .i64 x) := hcell Q x (by rw [← hQ]; simp)
  have hend : HpO w (w.setCell ⟨rb, 0, none⟩ (.slice (some ⟨g, 0, none⟩) Q c)) rb (.slice (some ⟨g, 0, none⟩) (Q + 1) c) (.slice (some ⟨g, 0, none⟩) Q c) q := by
    have tS : Turn [rb] w (w.setCell ⟨rb, 0, none⟩ (.slice (some ⟨g, 0, none⟩) Q c)) := (Turn.refl [rb] w).setCell (.inl (by simp)) _
    have ho := k.own
    have ho2 : OwnI w 0 (.slice (some ⟨g, 0, none⟩) q.length c) q := by
      unfold OwnI at ho ⊢
      rw [List.length_append, List.map_append, ← hQ] at ho
      exact ownsRow_pop (by simp) ho
    rw [hQ] at ho2
    refine ⟨⟨rset k.blk rfl, ho2.turn tS (fun y hy hh => ?_), fun y hy => k.ap y hy⟩, tS.more (by simp), .inl rfl⟩
    have := k.ap y hy
    simp at hh
    omega
  have HL := Lib.hid (fun W => slen_any (some ⟨g, 0, none⟩) (Q + 1) c W (by omega))
  obtain ⟨N, hNN⟩ : ∃ N, Q + 1 = N := ⟨_, rfl⟩
  rw [hNN] at c0 hc hend HL ⊢
  have n1 : (N : Int) - 1 = (Q : Int) := by omega
  have n7 : IntKind.i64.wrap (Q : Int) = (Q : Int) := wrap_small (Q : Int) (by omega) (by omega)
  have n8 : IntKind.i64.wrap ((N : Int) - 1) = (Q : Int) := by rw [n1]; exact n7
  have n4 : (0 : Int) ≤ (Q : Int) := by omega
  have n5 : (Q : Int) < (N : Int) := by omega
  have n9 : (Q : Int) ≤ (c : Int) := by omega
  have n10 : Q ≤ c := by omega
  have HE := Lib.hid hend
  clear k hcell hend hQ hN hNN
  go_enter Tryz.func118, Tryz.ntmps118
  go_wp2_with fail
  refine (HL.out _).mono ?_
  rintro e w1 ⟨rfl, rfl⟩
  go_wp2_with fail
  go_ret
  exact ⟨rfl, _, HE.out⟩

def upF : Nat → List Int → Nat → List Int
  | 0, h, _ => h
  | f + 1, h, j => if (j - 1) / 2 = j then h else if h[j]?.getD 0 < h[(j - 1) / 2]?.getD 0 then upF f (swL h ((j - 1) / 2) j) ((j - 1) / 2) else h
theorem HpO.sw {w w1 w2 : World} {rb g n c : Nat} {h : List Int} {i j : Nat} (a : HpO w w1 rb (.slice (some ⟨g, 0, none⟩) n c) (.slice (some ⟨g, 0, none⟩) n c) h) (ho : OwnI w2 0 (.slice (some ⟨g, 0, none⟩) n c) (swL h i j)) (t : Turn [g] w1 w2) :
    HpO w w2 rb (.slice (some ⟨g, 0, none⟩) n c) (.slice (some ⟨g, 0, none⟩) n c) (swL h i j) :=
  a.trans ⟨⟨t.heap a.hp.blk (by have := a.hp.ap g rfl; simp; omega), ho, a.hp.ap⟩, t.more (fun y hy => .inl (by simp at hy; subst hy; simp [Value.ownBlock])), .inl rfl⟩
set_option maxHeartbeats 6400000 in
theorem up_any {rb g n c : Nat} {h : List Int} {w : World} (k : Hp w rb (.slice (some ⟨g, 0, none⟩) n c) h) (hn : n = h.length) (hl : n ≤ 1000001) (j : Nat) (hj : j < n) :
    Calls Tryz.prog 72 #[.iface 95 (.pointer (some ⟨rb, 0, none⟩)), .int .i64 (j : Int)] w fun e w' => e = .returned (.tuple #[]) ∧ HpO w w' rb (.slice (some ⟨g, 0, none⟩) n c) (.slice (some ⟨g, 0, none⟩) n c) (upF j h j) := by
  have H0 : Hid (∃ hc f, j ≤ f ∧ hc.length = n ∧ upF f hc j = upF j h j ∧ HpO w w rb (.slice (some ⟨g, 0, none⟩) n c) (.slice (some ⟨g, 0, none⟩) n c) hc) := Lib.hid ⟨h, j, Nat.le_refl _, hn.symm, rfl, HpO.refl k⟩
  clear k hn
  go_enter Tryz.func72, Tryz.ntmps72
  go_wp2_with fail
  go_loopw [1] (fun v1 wr => ∃ jc : Nat, jc < n ∧ v1 = .int .i64 (jc : Int) ∧ Hid (∃ hc f, jc ≤ f ∧ hc.length = n ∧ upF f hc jc = upF j h j ∧ HpO w wr rb (.slice (some ⟨g, 0, none⟩) n c) (.slice (some ⟨g, 0, none⟩) n c) hc)) (fun v1 _ => (intOf v1).toNat)
  case atStart => exact ⟨j, hj, rfl, H0⟩
  case round =>
    obtain ⟨jc, hjc, rfl, HK⟩ := hrel
    obtain ⟨hc, f, hf, hcl, hup, hO⟩ := HK.out
    have c0 : wr.cell? ⟨rb, 0, none⟩ = some (.slice (some ⟨g, 0, none⟩) n c) := cell_of_row wr rb 0 _ _ _ hO.hp.blk
    have m1 := inv_less c0
    have m2 := inv_swap c0
    by_cases hz : jc = 0
    · subst hz
      have hu : upF f hc 0 = hc := by cases f <;> simp [upF]
      have HX := Lib.hid (And.intro hup (And.intro hO hu))
      clear hf hcl hup hO hu HK m1 m2
      go_wp2_with fail
      go_end0
      rw [← HX.out.1, HX.out.2.2]
      exact ⟨rfl, HX.out.2.1⟩
    · obtain ⟨p, hp⟩ : ∃ p, (jc - 1) / 2 = p := ⟨_, rfl⟩
      have hpj : p < jc := by omega
      obtain ⟨x, hx⟩ := at_lt (show jc < hc.length by omega)
      obtain ⟨y, hy⟩ := at_lt (show p < hc.length by omega)
      have w1 : IntKind.i64.wrap ((jc : Int) - 1) = (jc : Int) - 1 := wrap_small _ (by omega) (by omega)
      have w2 : Int.tdiv ((jc : Int) - 1) 2 = (p : Int) := by
        have e : (jc : Int) - 1 = ((jc - 1 : Nat) : Int) := by omega
        rw [e, ← hp]
        rfl
      have w3 : IntKind.i64.wrap (p : Int) = (p : Int) := wrap_small _ (by omega) (by omega)
      have d1 : decide ((p : Int) = (jc : Int)) = false := by simp; omega
      have d2 : ¬ ((p : Int) = (jc : Int)) := by omega
      have d3 : ((p : Int) == (jc : Int)) = false := by simp; omega
      obtain ⟨AI, cI, eI, hI, _⟩ := hO.hp.own.form
      have eI2 : AI = some ⟨g, 0, none⟩ := by injection eI with eI _ _; exact eI.symm
      subst eI2
      have HL := Lib.hid (less_any (some ⟨g, 0, none⟩) n c hc jc p x y wr hI hcl.symm hx hy)
      have hstep : upF f hc jc = if x < y then upF (f - 1) (swL hc p jc) p else hc := by
        obtain ⟨f', rfl⟩ : ∃ f', f = f' + 1 := ⟨f - 1, by omega⟩
        rw [upF, hp, if_neg (by omega), hx, hy]
        rfl
      have HX := Lib.hid (And.intro hup (And.intro hO (And.intro hstep (And.intro hf (And.intro hcl (And.intro hx hy))))))
      clear hf hcl hup hO HK hstep hx hy hI eI hp
      by_cases hxy : x < y
      · have e1 : decide (x < y) = true := by simpa using hxy
        rw [e1] at HL
        have HXY := Lib.hid hxy
        clear hxy e1
        go_wp2_with fail
        refine HL.out.mono ?_
        rintro e w3 ⟨rfl, t3⟩
        have hO3 := HX.out.2.1.turn t3
        have c3 : w3.cell? ⟨rb, 0, none⟩ = some (.slice (some ⟨g, 0, none⟩) n c) := cell_of_row w3 rb 0 _ _ _ hO3.hp.blk
        have m3 := inv_swap c3
        have HS := Lib.hid (swap_any g n c hc p jc 0 y x w3 hO3.hp.own HX.out.2.2.2.2.1.symm HX.out.2.2.2.2.2.2 HX.out.2.2.2.2.2.1)
        have HO3 := Lib.hid hO3
        clear hO3 t3 m1 m2
        go_wp2_with fail
        refine HS.out.mono ?_
        rintro e w4 ⟨rfl, ho4, t4⟩
        have HN : Hid (∃ hc f, p ≤ f ∧ hc.length = n ∧ upF f hc p = upF j h j ∧ HpO w w4 rb (.slice (some ⟨g, 0, none⟩) n c) (.slice (some ⟨g, 0, none⟩) n c) hc) := by
          refine Lib.hid ⟨swL hc p jc, f - 1, by have := HX.out.2.2.2.1; omega, by rw [swL_len]; exact HX.out.2.2.2.2.1, ?_, HO3.out.sw ho4 t4⟩
          rw [← HX.out.1, HX.out.2.2.1, if_pos HXY.out]
        clear ho4 t4 HS HO3
        go_wp2_with fail
        go_roundw
        case rel => exact ⟨p, by omega, rfl, HN⟩
        case measure => simp [intOf]; omega
      · have e1 : decide (x < y) = false := by simpa using hxy
        rw [e1] at HL
        have HXY := Lib.hid hxy
        clear hxy e1
        go_wp2_with fail
        refine HL.out.mono ?_
        rintro e w3 ⟨rfl, t3⟩
        go_wp2_with fail
        go_end0
        refine ⟨rfl, ?_⟩
        rw [← HX.out.1, HX.out.2.2.1, if_neg (by have := HXY.out; omega)]
        exact HX.out.2.1.turn t3
end Go.Proofs.YtbocejiclellfaaGreatDoor
