/- InternIds: whatever tuples are asked for, each number, and each number's tuple, is the document's. -/
import Derived.Test.YtepkpllfdfbmiaaRId
import Derived.Test.YtepkpllfdfbmiaaOpen
set_option linter.unusedSimpArgs false
set_option linter.unusedVariables false
namespace Go.Proofs.Ytepkpllfdfbmiaa
open Go.RowKit Go.Maps

/-- The table at b and the reference's at br hold the same tuples and texts, apart from each other, in blocks from n on. -/
structure S2 (n : Nat) (w : World) (b br : Nat) (F Fr : List Nat) (Ns : List (List Int)) (S : List ByteArray) : Prop where
  t : Tt w b F Ns S
  r : Rt w br Fr Ns S
  f : Foot n [] F
  fr : Foot n [] Fr
  ap : ∀ g ∈ F, g ∉ Fr
def St (n : Nat) (w : World) (b br : Nat) (Ns : List (List Int)) (S : List ByteArray) : Prop := ∃ F Fr, S2 n w b br F Fr Ns S
theorem S2.turn {n : Nat} {w w' : World} {b br : Nat} {F Fr G : List Nat} {Ns : List (List Int)} {S : List ByteArray} (h : S2 n w b br F Fr Ns S) (t : Turn G w w') (h1 : ∀ g ∈ F, g ∉ G) (h2 : ∀ g ∈ Fr, g ∉ G) : S2 n w' b br F Fr Ns S :=
  ⟨h.t.turn t h1, h.r.turn t h2, h.f, h.fr, h.ap⟩
theorem S2.turn' {n : Nat} {w w' : World} {b br : Nat} {F Fr : List Nat} {Ns : List (List Int)} {S : List ByteArray} (h : S2 n w b br F Fr Ns S) (t : Turn [] w w') : S2 n w' b br F Fr Ns S := h.turn t (by simp) (by simp)
theorem St.turn' {n : Nat} {w w' : World} {b br : Nat} {Ns : List (List Int)} {S : List ByteArray} (h : St n w b br Ns S) (t : Turn [] w w') : St n w' b br Ns S := by
  obtain ⟨F, Fr, h⟩ := h
  exact ⟨F, Fr, h.turn' t⟩
/-- A block that was made behind both tables may turn. -/
theorem S2.off {n : Nat} {w w' : World} {b br g : Nat} {F Fr : List Nat} {Ns : List (List Int)} {S : List ByteArray} (h : S2 n w b br F Fr Ns S) (t : Turn [g] w w') (h1 : g ∉ F) (h2 : g ∉ Fr) : S2 n w' b br F Fr Ns S :=
  h.turn t (fun x hx e => by simp at e; subst e; exact h1 hx) (fun x hx e => by simp at e; subst e; exact h2 hx)

/-- A slice that lies below n reads on while blocks from n on turn. -/
theorem Ints.past {n : Nat} {w w' : World} {F : List Nat} {A : Option Addr} {l : List Int} (h : Ints w A l) (t : Turn F w w') (hf : Foot n [] F) (hA : ∀ a, A = some a → 0 < l.length → a.block < n) : Ints w' A l := by
  by_cases h0 : 0 < l.length
  · refine h.off t (fun a ha hm => ?_)
    have h1 := hA a ha h0
    rcases hf.at hm with h2 | h2
    · exact absurd h2 List.not_mem_nil
    · omega
  · rw [List.eq_nil_of_length_eq_zero (by omega : l.length = 0)]
    exact Ints.nil _ _

/-- Both tables have taken a tuple, or both have not. -/
theorem S2.both {n : Nat} {w w1 w2 : World} {b br : Nat} {F Fr F1 Fr2 : List Nat} {Ns Ns' : List (List Int)} {S S' : List ByteArray} (h : S2 n w b br F Fr Ns S) (hn : n ≤ w.heap.size)
    (ht : Tt w1 b F1 Ns' S') (hf : Foot w.heap.size F F1) (t1 : Turn F w w1) (hr : Rt w2 br Fr2 Ns' S') (hfr : Foot w1.heap.size Fr Fr2) (t2 : Turn Fr w1 w2) : S2 n w2 b br F1 Fr2 Ns' S' := by
  have hfl := ht.fl
  have h1 := h.t.fl
  have h2 := h.r.fl
  have hap : ∀ g ∈ F1, g ∉ Fr := fun g hg hm => by
    rcases hf g hg with h3 | h3
    · exact h.ap g h3 hm
    · have := h2 g hm
      omega
  refine ⟨ht.turn t2 hap, hr, h.f.trans hf hn, h.fr.trans hfr (Nat.le_trans hn t1.size), fun g hg hm => ?_⟩
  rcases hfr g hm with h3 | h3
  · exact hap g hg h3
  · have := hfl g hg
    omega

/-- A slice made just ahead of a step of both tables stays what it is, and lies in neither. -/
theorem S2.step {n : Nat} {w wr w3 w4 w5 : World} {b br : Nat} {F Fr F4 Fr5 : List Nat} {Ns N' : List (List Int)} {S S' : List ByteArray} {v : Value} {r : List Int} (h : S2 n wr b br F Fr Ns S) (hn : n = w.heap.size) (t : Turn [] w wr) (t3 : Turn [] wr w3) (ho : OwnI w3 wr.heap.size v r)
    (hq4 : Tt w4 b F4 N' S') (hf4 : Foot w3.drew.heap.size F F4) (t4 : Turn F w3.drew w4) (hr5 : Rt w5 br Fr5 N' S') (hf5 : Foot w4.heap.size Fr Fr5) (t5 : Turn Fr w4 w5) :
    (∃ F' Fr', S2 n w5 b br F' Fr' N' S' ∧ ∀ g, v.ownBlock = some g → g ∉ F' ∧ g ∉ Fr') ∧ OwnI w5 wr.heap.size v r ∧ Turn [] w w5 := by
  subst hn
  have hs3 : w3.drew.heap.size = w3.heap.size := rfl
  have hlt := OwnI.lt ho
  have h1 := h.t.fl
  have h2 := h.r.fl
  have nF : ∀ g, v.ownBlock = some g → g ∉ F := fun g hg hm => by have := h1 g hm; have := hlt g hg; omega
  have nFr : ∀ g, v.ownBlock = some g → g ∉ Fr := fun g hg hm => by have := h2 g hm; have := hlt g hg; omega
  have t0 : Turn [] w w3.drew := t.trans' t3.drew
  have hS3 := h.turn' t3.drew
  refine ⟨⟨F4, Fr5, hS3.both t0.size hq4 hf4 t4 hr5 hf5 t5, fun g hg => ⟨fun hm => ?_, fun hm => ?_⟩⟩, ((ho.turn' ((Turn.refl [] w3).drew)).turn t4 nF).turn t5 nFr, (t0.trans t4 h.f).trans t5 h.fr⟩
  · rcases hf4 g hm with h3 | h3
    · exact nF g hg h3
    · have := hlt g hg
      omega
  · rcases hf5 g hm with h3 | h3
    · exact nFr g hg h3
    · have := hlt g hg
      have := t4.size
      omega

theorem newRef (w : World) : Rt (w.alloc (.cells #[.slice none 0 0, .slice none 0 0] 30)) w.heap.size [w.heap.size] [] [] :=
  ⟨.slice none 0 0, .slice none 0 0, [], heap_alloc_new w _, by simp, by simp, World.ownsRow_nil _ _ _ _, rfl, fun k u l h => by simp at h, World.ownsRow_nil _ _ _ _, by simp [Value.ownBlock], by simp [Value.ownBlock], by simp⟩
theorem St.new {n : Nat} {w w1 : World} {b : Nat} (hn : n ≤ w.heap.size) (h : Tt w1 b [b] [] []) (hb : w.heap.size ≤ b) (t : Turn [] w w1) : St n (w1.alloc (.cells #[.slice none 0 0, .slice none 0 0] 30)) b w1.heap.size [] [] := by
  have h1 := h.fl b (by simp)
  have h2 := t.size
  refine ⟨[b], [w1.heap.size], h.turn' ((Turn.refl [] _).alloc _), newRef w1, fun g hg => .inr (by simp at hg; omega), fun g hg => .inr (by simp at hg; omega), fun g hg hm => ?_⟩
  simp at hg hm
  omega

theorem RP.at {w : World} {b g n c k : Nat} {F : List Nat} {VT u : Value} {Ns : List (List Int)} {S : List ByteArray} {xs : List Value} (h : RP w b F (.slice (some ⟨g, 0, none⟩) n c) VT Ns S xs) (hn : xs.length = n) (hk : k < n) (hu : xs[k]? = some u) : w.cell? ⟨g, k, none⟩ = some u := by
  subst hn
  rw [World.ownsRow.cellAt (cap := c) h.row k (by omega)]
  exact hu
theorem fdB_in {Ns : List (List Int)} {ns : List Int} (h : OkN Ns) (hin : ns ∈ Ns) : fdB Ns ns = true ∧ fdN Ns ns = fnd Ns ns := by
  have h8 := (h.2 ns hin).1
  unfold fdB fdN
  rw [if_neg (by omega), if_neg (by omega), inB_true.2 hin]
  exact ⟨rfl, rfl⟩
theorem fdB_out {Ns : List (List Int)} {ns : List Int} (hin : ns ∉ Ns) : fdB Ns ns = false ∧ fdN Ns ns = 0 := by
  unfold fdB fdN
  rw [inB_false.2 hin, fnd_out hin]
  constructor
  · split <;> rfl
  · split <;> rfl
theorem tpl_at {Ns : List (List Int)} {i : Nat} {l : List Int} (h : Ns[i]? = some l) : tpl Ns (i : Int) = l := by
  unfold tpl
  rw [if_neg (by omega), Int.toNat_natCast, h]
  rfl
theorem tpl_out {Ns : List (List Int)} {id : Int} (h : id < 0 ∨ (Ns.length : Int) ≤ id) : tpl Ns id = [] := by
  unfold tpl
  by_cases h0 : id < 0
  · rw [if_pos h0]
  · rw [if_neg h0, List.getElem?_eq_none (by omega)]
    rfl
theorem sameB_self (l : List Int) : sameB l l = true := by simp [sameB]

set_option maxRecDepth 100000 in
set_option maxHeartbeats 8000000 in
theorem ids_law (A A1 : Option Addr) (c c1 : Nat) (ls : List (List Int)) (ask : List Int) (id : Int) (w : World) (hl : ls.length ≤ 9223372036854775807) (hls : ∀ l ∈ ls, l.length ≤ 9223372036854775807) (hA : Rws w A ls) (hl1 : ask.length ≤ 9223372036854775807) (hA1 : Arg w A1 ask c1) :
    Calls Try.prog 3 #[.slice A ls.length c, .slice A1 ask.length c1, .int .i64 id] w fun e w' => e = .returned (.bool true) ∧ Turn [] w w' := by
  have HA := Lib.hid hA
  have HX := Lib.hid hA1
  have HL := Lib.hid hls
  clear hA hA1 hls
  by_cases h60 : 60 < ls.length ∨ 20 < ask.length
  · by_cases h60' : 60 < ls.length
    · have d : decide ((60 : Int) < (ls.length : Int)) = true := by simp; omega
      have d' : decide (60 < ls.length) = true := by simp; omega
      clear h60
      go_enter Try.func3, Try.ntmps3
      go_wp2_with fail
      refine (awake_any _).mono ?_
      rintro e w1 ⟨rfl, ht1⟩
      have HT1 := Lib.hid ht1
      clear ht1
      go_wp2_with fail
      refine (awake_any _).mono ?_
      rintro e w2 ⟨rfl, ht2⟩
      have HT2 := Lib.hid (HT1.out.trans' ht2)
      clear ht2
      go_wp2_with fail
      go_ret
      exact ⟨rfl, HT2.out⟩
    · have d : decide ((60 : Int) < (ls.length : Int)) = false := by simp; omega
      have d' : decide (60 < ls.length) = false := by simp; omega
      have e : decide ((20 : Int) < (ask.length : Int)) = true := by simp; omega
      have e' : decide (20 < ask.length) = true := by simp; omega
      clear h60
      go_enter Try.func3, Try.ntmps3
      go_wp2_with fail
      refine (awake_any _).mono ?_
      rintro e w1 ⟨rfl, ht1⟩
      have HT1 := Lib.hid ht1
      clear ht1
      go_wp2_with fail
      refine (awake_any _).mono ?_
      rintro e w2 ⟨rfl, ht2⟩
      have HT2 := Lib.hid (HT1.out.trans' ht2)
      clear ht2
      go_wp2_with fail
      go_ret
      exact ⟨rfl, HT2.out⟩
  · have d : decide ((60 : Int) < (ls.length : Int)) = false := by simp; omega
    have d' : decide (60 < ls.length) = false := by simp; omega
    have e : decide ((20 : Int) < (ask.length : Int)) = false := by simp; omega
    have e' : decide (20 < ask.length) = false := by simp; omega
    go_enter Try.func3, Try.ntmps3
    go_wp2_with fail
    refine (awake_any _).mono ?_
    rintro e w1 ⟨rfl, ht1⟩
    have HT1 := Lib.hid ht1
    clear ht1
    go_wp2_with fail
    (with_reducible refine (new_any _).mono ?_)
    rintro e w2 ⟨b, rfl, hq2, hb2, ht2⟩
    have HS2 := Lib.hid (St.new HT1.out.size hq2 hb2 ht2)
    obtain ⟨br, hbr⟩ : ∃ br, w2.heap.size = br := ⟨_, rfl⟩
    rw [hbr] at HS2
    have HT2 := Lib.hid ((HT1.out.trans' ht2).alloc (.cells #[.slice none 0 0, .slice none 0 0] 30))
    clear hq2 ht2 HT1 hb2
    obtain ⟨w3, hw3⟩ : ∃ w3, w2.alloc (.cells #[.slice none 0 0, .slice none 0 0] 30) = w3 := ⟨_, rfl⟩
    rw [hw3] at HS2 HT2
    go_wp2_with fail
    clear hbr hw3
    go_loopw [9] (fun ti wr => ∃ (i : Nat) (Ns : List (List Int)), i ≤ ls.length ∧ Ns.length ≤ i ∧ ti = .int .i64 (i : Int) ∧ Hid (St w.heap.size wr b br Ns []) ∧ Hid (Turn [] w wr)) (fun ti _ => ls.length - (intOf ti).toNat)
    case atStart => exact ⟨0, [], Nat.zero_le _, Nat.zero_le _, rfl, HS2, HT2⟩
    case round =>
      obtain ⟨i, Ns, hi, hNi, rfl, HS, HT⟩ := hrel
      by_cases hlt : i < ls.length
      · obtain ⟨r, hr⟩ := at_lt hlt
        obtain ⟨g, off, Ar, cr, rfl, hg, hcell, hIr⟩ := (HA.out.turn' HT.out) i r hr
        have HIr := Lib.hid hIr
        have hr9 := HL.out r (List.mem_of_getElem? hr)
        have HRb : Hid (∀ a, Ar = some a → 0 < r.length → a.block < w.heap.size) := Lib.hid (fun a ha h0 => by
          obtain ⟨g', off', Ar', cr', e', hg', hcell', hIr'⟩ := HA.out i r hr
          cases e'
          have : some (Value.slice Ar' r.length cr') = some (Value.slice Ar r.length cr) := by
            rw [← hcell', ← hcell]
            exact ((HT.out.cell (p := ⟨g, off + i, none⟩) hg' (by simp))).symm
          injection this with this
          injection this with e1 e2 e3
          subst e1
          obtain ⟨y, hy⟩ := at_lt h0
          obtain ⟨b1, o1, e1, hb1, _⟩ := hIr'.1 0 y hy
          rw [ha] at e1
          cases e1
          exact hb1)
        have HgW : Hid (g < w.heap.size) := Lib.hid (by
          obtain ⟨g', off', Ar', cr', e', hg', _⟩ := HA.out i r hr
          cases e'
          exact hg')
        clear hr hIr
        by_cases h20 : 20 < r.length
        · have e1 : decide ((20 : Int) < (r.length : Int)) = true := by simp; omega
          have e2 : decide (20 < r.length) = true := by simp; omega
          go_wp2_with fail
          go_ret
          exact ⟨rfl, HT.out⟩
        · have e1 : decide ((20 : Int) < (r.length : Int)) = false := by simp; omega
          have e2 : decide (20 < r.length) = false := by simp; omega
          obtain ⟨F, Fr, hS⟩ := HS.out
          have HS := Lib.hid hS
          clear hS
          go_upto_region 10 with (at_builtin; refine wpList_clone rfl (.tmp 46) (.tmp 50) rfl wr r Ar cr rfl rfl HIr.out.1 (by omega) ?_; intro v3 w3 ho3 ht3; obtain ⟨A3, c3, hv3, _, hc3⟩ := ho3.form; subst hv3; have HO3 := Lib.hid ho3; have HT3 := Lib.hid ht3; clear ho3 ht3)
          obtain ⟨q, hq⟩ : ∃ q, idN Ns r = q := ⟨_, rfl⟩
          obtain ⟨N', hN'⟩ : ∃ N', idL Ns r = N' := ⟨_, rfl⟩
          have hN'i : N'.length ≤ i + 1 := by rw [← hN']; have := idL_le Ns r; omega
          have HQQ := Lib.hid hq
          have HNN := Lib.hid hN'
          have qq : (q != q) = false := by simp
          have nn : ((N'.length : Int) != (N'.length : Int)) = false := by simp
          have hcell3 : w3.drew.cell? ⟨g, off + i, none⟩ = some (.slice Ar r.length cr) := (HT3.out.drew.cell (p := ⟨g, off + i, none⟩) hg (by simp)).trans hcell
          have HS3 := Lib.hid (HS.out.turn' HT3.out.drew)
          have HI3 := Lib.hid (HIr.out.turn' HT3.out.drew)
          have hgF : g ∉ F := fun hm => by
            rcases HS.out.f.at hm with h1 | h1
            · exact absurd h1 List.not_mem_nil
            · have := HgW.out; omega
          have hgFr : g ∉ Fr := fun hm => by
            rcases HS.out.fr.at hm with h1 | h1
            · exact absurd h1 List.not_mem_nil
            · have := HgW.out; omega
          have hg3 : g < w3.drew.heap.size := Nat.lt_of_lt_of_le hg HT3.out.drew.size
          have HgF := Lib.hid hgF
          have HgFr := Lib.hid hgFr
          have hK8 := id_any b F Ns [] A3 r c3 w3.drew HS3.out.t (by exact (OwnI.arg HO3.out HIr.out.2.1).turn' ((Turn.refl [] w3).drew)) (by omega)
          rw [hq, hN'] at hK8
          have HK8 := Lib.hid hK8
          clear hq hN' hgF hgFr hK8 hcell
          go_cut [71] (fun x w' => x = .bool false ∧ Hid (∃ F' Fr', S2 w.heap.size w' b br F' Fr' N' [] ∧ ∀ g, Value.ownBlock (.slice A3 r.length c3) = some g → g ∉ F' ∧ g ∉ Fr') ∧ Hid (OwnI w' wr.heap.size (.slice A3 r.length c3) r) ∧ Hid (Turn [] w w'))
          case first =>
            go_region_law (first
              | (go_simp; go_at_call 8; (with_reducible refine HK8.out.mono ?_); rintro e w4 ⟨rfl, F4, hq4, hf4, ht4⟩
                 have hcell4 : w4.cell? ⟨g, off + i, none⟩ = some (.slice Ar r.length cr) := (ht4.cell (p := ⟨g, off + i, none⟩) hg3 HgF.out).trans hcell3
                 have HQ4 := Lib.hid hq4
                 have HF4 := Lib.hid hf4
                 have HT4 := Lib.hid ht4
                 have HI4 : Hid (Ints w4 Ar r) := Lib.hid (HI3.out.1.past ht4 HS.out.f HRb.out)
                 clear hq4 hf4 ht4)
              | (go_simp; go_at_call 9; have hK9 := refId_any br Fr Ns [] Ar r cr w4 (HS3.out.r.turn HT4.out (fun x hx hm => HS3.out.ap x hm hx)) HI4.out (by omega) (fun l hl => (HS3.out.t.2.1.2 l hl).1) (by omega)
                 rw [HQQ.out, HNN.out] at hK9
                 (with_reducible refine hK9.mono ?_)
                 clear hK9
                 rintro e w5 ⟨rfl, Fr5, hq5, hf5, ht5⟩
                 have HS5 := Lib.hid (HS3.out.both (HT.out.trans' HT3.out.drew).size HQ4.out HF4.out HT4.out hq5 hf5 ht5)
                 have HR5 := Lib.hid (HS.out.step rfl HT.out HT3.out HO3.out HQ4.out HF4.out HT4.out hq5 hf5 ht5)
                 obtain ⟨VL, VT, xs, hrp⟩ := hq5
                 obtain ⟨AL, cL, hVL, hcL, _⟩ := hrp.form
                 subst hVL
                 have k0 : w5.cell? ⟨br, 0, none⟩ = some (.slice AL N'.length cL) := cell_of_row w5 br 0 _ 30 (0, 0) hrp.blk
                 clear hf5 ht5 hrp)
              | (go_simp; go_at_call 10; have hK10 := len_any b F4 N' [] w5 HS5.out.t; (with_reducible refine hK10.mono ?_); clear hK10; rintro e w6 ⟨rfl, rfl⟩))
            all_goals
              go_wp2_with fail
              go_meet
              case rel => exact ⟨rfl, Lib.hid HR5.out.1, Lib.hid HR5.out.2.1, Lib.hid HR5.out.2.2⟩
          case rest =>
            obtain ⟨rfl, HE, HO5, HT5⟩ := hcut
            obtain ⟨F5, Fr5, hS5, hfree⟩ := HE.out
            have HS5 := Lib.hid hS5
            have HFree := Lib.hid hfree
            clear hS5 hfree HE HK8 HS3 HI3 HS HIr HRb HT3 HO3 HQQ HNN HgF HgFr
            by_cases h0 : 0 < r.length
            · have z1 : decide ((0 : Int) < (r.length : Int)) = true := by simp; omega
              have z2 : decide (0 < r.length) = true := by simp; omega
              obtain ⟨g5, k5, hv5, _⟩ := World.ownsRow.form HO5.out h0
              cases hv5
              obtain ⟨y, hy⟩ := at_lt h0
              have n0 : wc.cell? ⟨g5, 0, none⟩ = some (.int .i64 y) := by
                have := World.ownsRow.cellAt HO5.out 0 (by omega)
                rw [this]
                simp [hy]
              have f0 : wc.frozen? ⟨g5, 0, none⟩ = false := World.ownsRow.frozenAt HO5.out 0
              have hge : wr.heap.size ≤ g5 := (OwnI.lt HO5.out g5 rfl).1
              have HGe := Lib.hid (Nat.le_trans HT.out.size hge)
              clear hy
              go_wp2_with fail
              go_roundw
              case rel =>
                have hfr := HFree.out g5 rfl
                exact ⟨i + 1, N', by omega, hN'i, by go_num, Lib.hid ⟨F5, Fr5, HS5.out.off ((Turn.refl [g5] _).setCell (.inl (by simp)) _) hfr.1 hfr.2⟩, Lib.hid (HT5.out.setCell (.inr HGe.out) _)⟩
              case measure => simp [intOf]; omega
            · have z1 : decide ((0 : Int) < (r.length : Int)) = false := by rw [decide_eq_false_iff_not]; omega
              have z2 : decide (0 < r.length) = false := by rw [decide_eq_false_iff_not]; omega
              go_wp2_with fail
              go_roundw
              case rel => exact ⟨i + 1, N', by omega, hN'i, by go_num, Lib.hid ⟨F5, Fr5, HS5.out⟩, HT5⟩
              case measure => simp [intOf]; omega
      · obtain ⟨N, hN⟩ : ∃ N, Ns.length = N := ⟨_, rfl⟩
        have HN := Lib.hid hN
        have hN60 : N ≤ 60 := by omega
        clear hN hNi hi
        obtain ⟨W0, hW0⟩ : ∃ W0, W0 = wr := ⟨_, rfl⟩
        subst hW0
        go_wp2_with fail
        clear hlt
        go_loopw [11] (fun ti wr => ∃ k : Nat, k ≤ N ∧ ti = .int .i64 (k : Int) ∧ Hid (St w.heap.size wr b br Ns []) ∧ Hid (Turn [] w wr)) (fun ti _ => N - (intOf ti).toNat)
        case atStart => exact ⟨0, Nat.zero_le _, rfl, HS, HT⟩
        case round =>
          obtain ⟨k, hk, rfl, HS1, HT2⟩ := hrel
          obtain ⟨F, Fr, hS⟩ := HS1.out
          obtain ⟨VL, VT, xs, hrp⟩ := hS.r
          have HS2 := Lib.hid hS
          have hxl : xs.length = N := by rw [hrp.len]; exact HN.out
          by_cases hlt : k < N
          · obtain ⟨l, hl'⟩ := at_lt (show k < Ns.length by have := HN.out; omega)
            obtain ⟨u, hu⟩ := at_lt (show k < xs.length by omega)
            have ho := hrp.each k u l hu hl'
            obtain ⟨A', c', hue, hI, hc'⟩ := ho.form
            subst hue
            obtain ⟨gL, cL, hVL, hLc⟩ := World.ownsRow.form hrp.row (by omega)
            subst hVL
            rw [hxl] at hrp
            have h8 : l.length ≤ 8 := (hS.t.2.1.2 l (List.mem_of_getElem? hl')).1
            have HWl : Hid (Wf l) := Lib.hid (hS.t.2.1.2 l (List.mem_of_getElem? hl')).2
            have HTP : Hid (tpl Ns (k : Int) = l) := Lib.hid (tpl_at hl')
            have HFD : Hid (fdN Ns l = k ∧ fdB Ns l = true) := Lib.hid (by
              have h1 := fdB_in hS.t.2.1 (List.mem_of_getElem? hl')
              exact ⟨by rw [h1.2]; exact fnd_at hS.t.2.1.1 hl', h1.1⟩)
            have HRP := Lib.hid hrp
            have HU := Lib.hid hu
            have HL' := Lib.hid hl'
            have k0 : wr.cell? ⟨br, 0, none⟩ = some (.slice (some ⟨gL, 0, none⟩) N cL) := cell_of_row wr br 0 _ 30 (0, 0) hrp.blk
            clear hrp hu hl' ho hI hS
            go_wp2_with fail
            have hU := tuple_any b F Ns [] (k : Int) wr HS2.out.t (by have := HN.out; omega)
            rw [HTP.out] at hU
            (with_reducible refine hU.mono ?_)
            clear hU
            rintro e w4 ⟨v4, rfl, ho4, ht4⟩
            obtain ⟨A4, c4, hv4, hI4, hc4⟩ := ho4.form
            subst hv4
            have HO4 := Lib.hid ho4
            have HI4 := Lib.hid hI4
            have HT4 := Lib.hid (HT2.out.trans' ht4)
            have HS4 := Lib.hid (HS2.out.turn' ht4)
            have HRP4 := Lib.hid (HRP.out.turn ht4 (by simp))
            have k1 : w4.cell? ⟨br, 0, none⟩ = some (.slice (some ⟨gL, 0, none⟩) N cL) := cell_of_row w4 br 0 _ 30 (0, 0) HRP4.out.blk
            have k2 : w4.cell? ⟨gL, k, none⟩ = some (.slice A' l.length c') := HRP4.out.at hxl hlt HU.out
            have HI' : Hid (Ints w4 A' l) := Lib.hid (by
              obtain ⟨A2, c2, e, hI, _⟩ := (HRP4.out.each k _ l HU.out HL'.out).form
              cases e
              exact hI)
            clear ho4 ht4 hI4 k0
            go_wp2_with fail
            (with_reducible refine (refSame_any A4 A' l.length l.length c4 c' l l w4 HI4.out HI'.out rfl rfl (by omega) (by omega)).mono ?_)
            rw [sameB_self]
            rintro e w5' ⟨rfl, q, rfl⟩
            obtain ⟨w5, hw5⟩ : ∃ w5, w4.drewN q = w5 := ⟨_, rfl⟩
            have t45 : Turn [] w4 w5 := by rw [← hw5]; exact (Turn.refl [] w4).drewN q
            rw [hw5]
            clear hw5
            have HO5 := Lib.hid (HO4.out.turn' t45)
            have HT5 := Lib.hid (HT4.out.trans' t45)
            have HS5 := Lib.hid (HS4.out.turn' t45)
            have HRP5 := Lib.hid (HRP4.out.turn t45 (by simp))
            clear t45 k1 k2 HI4 HI' HO4 HT4 HS4 HRP4
            have HW4 : Hid (wr.heap.size ≤ wr.heap.size) := Lib.hid (Nat.le_refl _)
            by_cases h0 : 0 < l.length
            · have z1 : decide ((0 : Int) < (l.length : Int)) = true := by simp; omega
              have z2 : decide (0 < l.length) = true := by simp; omega
              obtain ⟨g5, k5, hv5, _⟩ := World.ownsRow.form HO5.out h0
              cases hv5
              obtain ⟨y, hy⟩ := at_lt h0
              have n0 : w5.cell? ⟨g5, 0, none⟩ = some (.int .i64 y) := by
                have := World.ownsRow.cellAt HO5.out 0 (by omega)
                rw [this]
                simp [hy]
              have f0 : w5.frozen? ⟨g5, 0, none⟩ = false := World.ownsRow.frozenAt HO5.out 0
              have hge : wr.heap.size ≤ g5 := (OwnI.lt HO5.out g5 rfl).1
              have hnF : g5 ∉ F := fun hm => by have := HS2.out.t.fl g5 hm; omega
              have hnFr : g5 ∉ Fr := fun hm => by have := HS2.out.r.fl g5 hm; omega
              have tset := (Turn.refl [g5] w5).setCell (p := ⟨g5, 0, none⟩) (.inl (by simp)) (.int .i64 (wrap64 (y + 1)))
              have HS6 := Lib.hid (HS5.out.off tset hnF hnFr)
              have HRP6 := Lib.hid (HRP5.out.turn tset (fun g hg e => hnFr (by simp at e; subst e; exact hg)))
              have HT6 := Lib.hid (HT5.out.setCell (p := ⟨g5, 0, none⟩) (.inr (Nat.le_trans HT2.out.size hge)) (.int .i64 (wrap64 (y + 1))))
              obtain ⟨w6, hw6⟩ : ∃ w6, w5.setCell ⟨g5, 0, none⟩ (.int .i64 (wrap64 (y + 1))) = w6 := ⟨_, rfl⟩
              rw [hw6] at HS6 HRP6 HT6
              clear hy tset hnF hnFr
              have k3 : w6.cell? ⟨br, 0, none⟩ = some (.slice (some ⟨gL, 0, none⟩) N cL) := cell_of_row w6 br 0 _ 30 (0, 0) HRP6.out.blk
              have k4 : w6.cell? ⟨gL, k, none⟩ = some (.slice A' l.length c') := HRP6.out.at hxl hlt HU.out
              have HA6 : Hid (Arg w6 A' l c') := Lib.hid (OwnI.arg (HRP6.out.each k _ l HU.out HL'.out) HWl.out)
              go_wp2_with fail
              have hF := find_any b F Ns [] A' l c' w6 HS6.out.t HA6.out
              rw [HFD.out.1, HFD.out.2] at hF
              (with_reducible refine hF.mono ?_)
              clear hF
              rintro e w7 ⟨rfl, ht7⟩
              have HT7 := Lib.hid (HT6.out.trans' ht7)
              have HS7 := Lib.hid (HS6.out.turn' ht7)
              have kk : ((k : Int) != (k : Int)) = false := by simp
              clear ht7 k3 k4
              go_wp2_with fail
              go_roundw
              case rel => exact ⟨k + 1, by omega, by go_num, Lib.hid ⟨F, Fr, HS7.out⟩, HT7⟩
              case measure => simp [intOf]; omega
            · have z1 : decide ((0 : Int) < (l.length : Int)) = false := by rw [decide_eq_false_iff_not]; omega
              have z2 : decide (0 < l.length) = false := by rw [decide_eq_false_iff_not]; omega
              have HS6 := HS5
              have HRP6 := HRP5
              have HT6 := HT5
              have k3 : w5.cell? ⟨br, 0, none⟩ = some (.slice (some ⟨gL, 0, none⟩) N cL) := cell_of_row w5 br 0 _ 30 (0, 0) HRP6.out.blk
              have k4 : w5.cell? ⟨gL, k, none⟩ = some (.slice A' l.length c') := HRP6.out.at hxl hlt HU.out
              have HA6 : Hid (Arg w5 A' l c') := Lib.hid (OwnI.arg (HRP6.out.each k _ l HU.out HL'.out) HWl.out)
              go_wp2_with fail
              have hF := find_any b F Ns [] A' l c' w5 HS6.out.t HA6.out
              rw [HFD.out.1, HFD.out.2] at hF
              (with_reducible refine hF.mono ?_)
              clear hF
              rintro e w7 ⟨rfl, ht7⟩
              have HT7 := Lib.hid (HT6.out.trans' ht7)
              have HS7 := Lib.hid (HS6.out.turn' ht7)
              have kk : ((k : Int) != (k : Int)) = false := by simp
              clear ht7 k3 k4
              go_wp2_with fail
              go_roundw
              case rel => exact ⟨k + 1, by omega, by go_num, Lib.hid ⟨F, Fr, HS7.out⟩, HT7⟩
              case measure => simp [intOf]; omega
          · obtain ⟨AL, cL, hVL, hcL, -⟩ := hrp.form
            subst hVL
            rw [HN.out] at hrp hcL
            have HRP := Lib.hid hrp
            have k0 : wr.cell? ⟨br, 0, none⟩ = some (.slice AL N cL) := cell_of_row wr br 0 _ 30 (0, 0) hrp.blk
            have HRF := Lib.hid (refFind_any br Fr Ns [] A1 ask c1 wr hS.r (HX.out.turn' HT2.out).1 (by have := HN.out; omega) (fun l hl => (hS.t.2.1.2 l hl).1) (by omega))
            clear hrp hxl
            by_cases hin : ask ∈ Ns
            · obtain ⟨m, hm⟩ : ∃ m : Nat, fnd Ns ask = m := ⟨_, rfl⟩
              have HFD : Hid (fdN Ns ask = m ∧ fdB Ns ask = true) := Lib.hid (by
                have h1 := fdB_in hS.t.2.1 hin
                exact ⟨by rw [h1.2]; exact hm, h1.1⟩)
              have hRF := HRF.out
              rw [rfN_in hin, hm] at hRF
              have HRF2 := Lib.hid hRF
              have mm : ((m : Int) == (m : Int)) = true := by simp
              have m0 : decide (0 ≤ (m : Int)) = true := by simp
              clear hin hm hRF HRF hS
              go_wp2_with fail
              (with_reducible refine HRF2.out.mono ?_)
              rintro e w4 ⟨rfl, q, rfl⟩
              go_wp2_with fail
              have hF := find_any b F Ns [] A1 ask c1 _ (HS2.out.t.turn' (((Turn.refl [] wr).drewN q))) (HX.out.turn' (HT2.out.drewN q))
              rw [HFD.out.1, HFD.out.2] at hF
              (with_reducible refine hF.mono ?_)
              clear hF
              rintro e w5 ⟨rfl, ht5⟩
              have HT5 := Lib.hid ((HT2.out.drewN q).trans' ht5)
              have HS5 := Lib.hid (HS2.out.turn' (((Turn.refl [] wr).drewN q).trans' ht5))
              have HRP5 := Lib.hid (HRP.out.turn (((Turn.refl [] wr).drewN q).trans' ht5) (by simp))
              have c5 : w5.cell? ⟨br, 0, none⟩ = some (.slice AL N cL) := cell_of_row w5 br 0 _ 30 (0, 0) HRP5.out.blk
              clear ht5 k0
              go_wp2_with fail
              have hU := tuple_any b F Ns [] (N : Int) w5 HS5.out.t (by have := HN.out; omega)
              rw [tpl_out (.inr (by have := HN.out; omega))] at hU
              (with_reducible refine hU.mono ?_)
              clear hU
              rintro e w6 ⟨v6, rfl, ho6, ht6⟩
              obtain ⟨A6, c6, hv6, _, _⟩ := ho6.form
              subst hv6
              have HT6 := Lib.hid (HT5.out.trans' ht6)
              have HS6 := Lib.hid (HS5.out.turn' ht6)
              have HRP6 := Lib.hid (HRP5.out.turn ht6 (by simp))
              have c6' : w6.cell? ⟨br, 0, none⟩ = some (.slice AL N cL) := cell_of_row w6 br 0 _ 30 (0, 0) HRP6.out.blk
              clear ht6 ho6 c5
              rw [List.length_nil]
              by_cases hd0 : 0 ≤ id
              · have d0 : decide (0 ≤ id) = true := by simpa using hd0
                by_cases hdN : id < (N : Int)
                · have d1 : decide (id < (N : Int)) = true := by simpa using hdN
                  go_wp2_with fail
                  go_ret
                  exact ⟨rfl, HT6.out⟩
                · have d1 : decide (id < (N : Int)) = false := by simpa using hdN
                  go_wp2_with fail
                  have hU := tuple_any b F Ns [] id w6 HS6.out.t (by have := HN.out; omega)
                  rw [tpl_out (.inr (by have := HN.out; omega))] at hU
                  (with_reducible refine hU.mono ?_)
                  clear hU
                  rintro e w7 ⟨v7, rfl, ho7, ht7⟩
                  obtain ⟨A7, c7, hv7, _, _⟩ := ho7.form
                  subst hv7
                  have HT7 := Lib.hid (HT6.out.trans' ht7)
                  clear ht7 ho7
                  rw [List.length_nil]
                  go_wp2_with fail
                  go_ret
                  exact ⟨rfl, HT7.out⟩
              · have d0 : decide (0 ≤ id) = false := by simpa using hd0
                go_wp2_with fail
                have hU := tuple_any b F Ns [] id w6 HS6.out.t (by have := HN.out; omega)
                rw [tpl_out (.inl (by omega))] at hU
                (with_reducible refine hU.mono ?_)
                clear hU
                rintro e w7 ⟨v7, rfl, ho7, ht7⟩
                obtain ⟨A7, c7, hv7, _, _⟩ := ho7.form
                subst hv7
                have HT7 := Lib.hid (HT6.out.trans' ht7)
                clear ht7 ho7
                rw [List.length_nil]
                go_wp2_with fail
                go_ret
                exact ⟨rfl, HT7.out⟩
            · have HFD : Hid (fdN Ns ask = 0 ∧ fdB Ns ask = false) := Lib.hid ⟨(fdB_out hin).2, (fdB_out hin).1⟩
              have hRF := HRF.out
              rw [rfN_out hin] at hRF
              have HRF2 := Lib.hid hRF
              clear hin hRF HRF hS
              go_wp2_with fail
              (with_reducible refine HRF2.out.mono ?_)
              rintro e w4 ⟨rfl, q, rfl⟩
              go_wp2_with fail
              have hF := find_any b F Ns [] A1 ask c1 _ (HS2.out.t.turn' (((Turn.refl [] wr).drewN q))) (HX.out.turn' (HT2.out.drewN q))
              rw [HFD.out.1, HFD.out.2] at hF
              (with_reducible refine hF.mono ?_)
              clear hF
              rintro e w5 ⟨rfl, ht5⟩
              have HT5 := Lib.hid ((HT2.out.drewN q).trans' ht5)
              have HS5 := Lib.hid (HS2.out.turn' (((Turn.refl [] wr).drewN q).trans' ht5))
              have HRP5 := Lib.hid (HRP.out.turn (((Turn.refl [] wr).drewN q).trans' ht5) (by simp))
              have c5 : w5.cell? ⟨br, 0, none⟩ = some (.slice AL N cL) := cell_of_row w5 br 0 _ 30 (0, 0) HRP5.out.blk
              clear ht5 k0
              go_wp2_with fail
              have hU := tuple_any b F Ns [] (N : Int) w5 HS5.out.t (by have := HN.out; omega)
              rw [tpl_out (.inr (by have := HN.out; omega))] at hU
              (with_reducible refine hU.mono ?_)
              clear hU
              rintro e w6 ⟨v6, rfl, ho6, ht6⟩
              obtain ⟨A6, c6, hv6, _, _⟩ := ho6.form
              subst hv6
              have HT6 := Lib.hid (HT5.out.trans' ht6)
              have HS6 := Lib.hid (HS5.out.turn' ht6)
              have HRP6 := Lib.hid (HRP5.out.turn ht6 (by simp))
              have c6' : w6.cell? ⟨br, 0, none⟩ = some (.slice AL N cL) := cell_of_row w6 br 0 _ 30 (0, 0) HRP6.out.blk
              clear ht6 ho6 c5
              rw [List.length_nil]
              by_cases hd0 : 0 ≤ id
              · have d0 : decide (0 ≤ id) = true := by simpa using hd0
                by_cases hdN : id < (N : Int)
                · have d1 : decide (id < (N : Int)) = true := by simpa using hdN
                  go_wp2_with fail
                  go_ret
                  exact ⟨rfl, HT6.out⟩
                · have d1 : decide (id < (N : Int)) = false := by simpa using hdN
                  go_wp2_with fail
                  have hU := tuple_any b F Ns [] id w6 HS6.out.t (by have := HN.out; omega)
                  rw [tpl_out (.inr (by have := HN.out; omega))] at hU
                  (with_reducible refine hU.mono ?_)
                  clear hU
                  rintro e w7 ⟨v7, rfl, ho7, ht7⟩
                  obtain ⟨A7, c7, hv7, _, _⟩ := ho7.form
                  subst hv7
                  have HT7 := Lib.hid (HT6.out.trans' ht7)
                  clear ht7 ho7
                  rw [List.length_nil]
                  go_wp2_with fail
                  go_ret
                  exact ⟨rfl, HT7.out⟩
              · have d0 : decide (0 ≤ id) = false := by simpa using hd0
                go_wp2_with fail
                have hU := tuple_any b F Ns [] id w6 HS6.out.t (by have := HN.out; omega)
                rw [tpl_out (.inl (by omega))] at hU
                (with_reducible refine hU.mono ?_)
                clear hU
                rintro e w7 ⟨v7, rfl, ho7, ht7⟩
                obtain ⟨A7, c7, hv7, _, _⟩ := ho7.form
                subst hv7
                have HT7 := Lib.hid (HT6.out.trans' ht7)
                clear ht7 ho7
                rw [List.length_nil]
                go_wp2_with fail
                go_ret
                exact ⟨rfl, HT7.out⟩
end Go.Proofs.Ytepkpllfdfbmiaa
