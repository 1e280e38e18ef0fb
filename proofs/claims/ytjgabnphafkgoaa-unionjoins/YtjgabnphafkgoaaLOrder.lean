/- The walk of UnionOrder. -/
import Derived.Test.YtjgabnphafkgoaaLAll
import Derived.Test.YtjgabnphafkgoaaLs
import Derived.Test.YtjgabnphafkgoaaThO
import Derived.Deep.RegionHeld3
set_option linter.unusedSimpArgs false
set_option linter.unusedVariables false
namespace Go.Proofs.Ytjgabnphafkgoaa
open Go.RowKit Go.Maps

theorem clsI_small (H : Nat → Nat) {n : Nat} (hn : n ≤ 100000) : ∀ l ∈ clsI H n, l.length ≤ 1000000 := by
  intro l hl
  unfold clsI cls at hl
  obtain ⟨l1, h1, rfl⟩ := List.mem_map.1 hl
  obtain ⟨h, _, rfl⟩ := List.mem_map.1 h1
  have := cl_length H n h
  omega

def modP (K : Nat) (l : List (Nat × Nat)) : List (Nat × Nat) := l.map (fun q => (q.1 % K, q.2 % K))
theorem modP_length (K : Nat) (l : List (Nat × Nat)) : (modP K l).length = l.length := by simp [modP]
theorem modP_at {K : Nat} {l : List (Nat × Nat)} {i x y : Nat} (h : l[i]? = some (x, y)) : (modP K l)[i]? = some (x % K, y % K) := by
  unfold modP
  rw [List.getElem?_map, h]
  rfl
theorem modP_lt {K : Nat} (hK : 0 < K) (l : List (Nat × Nat)) : ∀ p ∈ modP K l, p.1 < K ∧ p.2 < K := by
  intro p hp
  obtain ⟨q, _, rfl⟩ := List.mem_map.1 hp
  exact ⟨Nat.mod_lt _ hK, Nat.mod_lt _ hK⟩

/-- Join of two numbers that were just laid in a block. -/
theorem join2_drew (b m K : Nat) (G : Nat → Nat) (u v : Nat) (w : World) (h : Un w b m K G) (hu : u < K) (hv : v < K) :
    Calls Try.prog 11 #[.pointer (some ⟨b, 0, none⟩), .slice (some ⟨w.heap.size, 0, none⟩) 2 2] (w.alloc (.cells #[.int .i64 (u : Int), .int .i64 (v : Int)] 3)).drew
      fun e w' => e = .returned (.bool (decide (hc K (mg G u v) < hc K G))) ∧ Un w' b m K (mg G u v) ∧ Turn [m] w w' := by
  have t0 : Turn [] w (w.alloc (.cells #[.int .i64 (u : Int), .int .i64 (v : Int)] 3)).drew := ((Turn.refl [] w).alloc _).drew
  have t1 : Turn [] (w.alloc (.cells #[.int .i64 (u : Int), .int .i64 (v : Int)] 3)) (w.alloc (.cells #[.int .i64 (u : Int), .int .i64 (v : Int)] 3)).drew := (Turn.refl [] _).drew
  have hj := join_any b m K G (some ⟨w.heap.size, 0, none⟩) 2 [(u : Int), (v : Int)] _ (h.turn' t0) ((Ints.two w _ _).below t1) (by simp)
  rw [joinI_two hu hv] at hj
  exact hj.mono fun e w' ⟨h1, h2, h3⟩ => ⟨h1, h2, (t0.more (G := [m]) (by simp)).trans h3 (by simp)⟩

set_option maxRecDepth 100000 in
set_option maxHeartbeats 4000000 in
theorem order_law (n : Nat) (A : Option Addr) (c : Nat) (l : List (Nat × Nat)) (w : World) (hn : n ≤ 255) (hl : l.length ≤ 9223372036854775807) (hA : Prs w A l) (hb : ∀ q ∈ l, q.1 ≤ 255 ∧ q.2 ≤ 255) :
    Calls Try.prog 4 #[.int .u8 (n : Int), .slice A l.length c] w fun e w' => e = .returned (.bool true) ∧ Turn [] w w' := by
  have HA := Lib.hid hA
  have HB := Lib.hid hb
  clear hA hb
  by_cases h40 : 40 < l.length
  · have hd : decide ((40 : Int) < (l.length : Int)) = true := by simp; omega
    go_enter Try.func4, Try.ntmps4
    go_wp2_with fail
    refine (awake_any _).mono ?_
    rintro e w1 ⟨rfl, ht1⟩
    have HT1 := Lib.hid ht1
    clear ht1
    go_wp2_with fail
    refine (awake_any _).mono ?_
    rintro e w2 ⟨rfl, ht2⟩
    have HT2 := Lib.hid (HT1.out.trans' ht2)
    clear ht2
    go_wp2_with fail
    go_ret
    exact ⟨rfl, HT2.out⟩
  · have hd : decide ((40 : Int) < (l.length : Int)) = false := by simp; omega
    obtain ⟨K, hK, hK0, hK60⟩ : ∃ K : Nat, (1 : Int) + (n : Int) % 60 = (K : Int) ∧ 0 < K ∧ K ≤ 60 := ⟨1 + n % 60, by omega, by omega, by omega⟩
    go_enter Try.func4, Try.ntmps4
    go_wp2_with fail
    refine (awake_any _).mono ?_
    rintro e w1 ⟨rfl, ht1⟩
    have HT1 := Lib.hid ht1
    clear ht1
    go_wp2_with fail
    (with_reducible refine (new_ok K _ (by omega)).mono ?_)
    rintro e w2 ⟨b, m, rfl, hu2, hb2, hm2, ht2⟩
    have hbw : w.heap.size ≤ b := Nat.le_trans HT1.out.size hb2
    have hmw : w.heap.size ≤ m := Nat.le_trans HT1.out.size hm2
    have HU2 := Lib.hid hu2
    have HT2 := Lib.hid (HT1.out.trans' ht2)
    clear hu2 ht2 HT1 hb2 hm2
    go_wp2_with fail
    (with_reducible refine (new_ok K _ (by omega)).mono ?_)
    rintro e w3 ⟨b', m', rfl, hv3, hb3, hm3, ht3⟩
    have hbw' : w.heap.size ≤ b' := Nat.le_trans HT2.out.size hb3
    have hmw' : w.heap.size ≤ m' := Nat.le_trans HT2.out.size hm3
    obtain ⟨hl1, hl2⟩ := HU2.out.lt
    have hbm : b < m' ∧ m < m' ∧ m < b' := ⟨by omega, by omega, by omega⟩
    have HU3 := Lib.hid (HU2.out.turn' ht3)
    have HV3 := Lib.hid hv3
    have HT3 := Lib.hid (HT2.out.trans' ht3)
    clear hv3 ht3 HT2 HU2 hb3 hm3 hl1 hl2
    go_wp2_with fail
    have HKK := Lib.hid hK
    clear hK
    go_loopw [10] (fun t wr => ∃ (i : Nat), i ≤ l.length ∧ t = .int .i64 (i : Int) ∧ Hid (Un wr b m K (runJ ((modP K l).take i))) ∧ Hid (Un wr b' m' K (runJ ((turnd (modP K l)).take i))) ∧ Hid (Turn [] w wr)) (fun t _ => l.length - (intOf t).toNat)
    case atStart => exact ⟨0, Nat.zero_le _, rfl, HU3, HV3, HT3⟩
    case round =>
      obtain ⟨i, hi, rfl, HU, HV, HT⟩ := hrel
      generalize hG : runJ ((modP K l).take i) = G at *
      generalize hG' : runJ ((turnd (modP K l)).take i) = G' at *
      have HG := Lib.hid hG
      have HG' := Lib.hid hG'
      clear hG hG'
      by_cases hlt : i < l.length
      · obtain ⟨⟨x, y⟩, hq⟩ := at_lt hlt
        obtain ⟨g, off, rfl, hg, c1, c2⟩ := (HA.out.turn HT.out) i _ hq
        obtain ⟨hq1, hq2⟩ := HB.out _ (List.mem_of_getElem? hq)
        obtain ⟨j, hj, hjl⟩ : ∃ j : Nat, (l.length : Int) - 1 - (i : Int) = (j : Int) ∧ j = l.length - 1 - i := ⟨l.length - 1 - i, by omega, rfl⟩
        have hjlt : j < l.length := by omega
        obtain ⟨⟨x', y'⟩, hq'⟩ := at_lt hjlt
        obtain ⟨hq1', hq2'⟩ := HB.out _ (List.mem_of_getElem? hq')
        simp only at c1 c2 hq1 hq2 hq1' hq2'
        have HS : Hid (runJ ((modP K l).take (i + 1)) = mg G (x % K) (y % K)) := Lib.hid (by rw [take_snoc (modP_at hq), runJ_snoc, HG.out])
        have HS' : Hid (runJ ((turnd (modP K l)).take (i + 1)) = mg G' (y' % K) (x' % K)) := Lib.hid (by
          rw [take_snoc (turnd_at (by rw [modP_length]; exact hlt) (by rw [modP_length, ← hjl]; exact modP_at hq')), runJ_snoc, HG'.out])
        have HQ' := Lib.hid hq'
        have HJ := Lib.hid hj
        clear hq hq' hj
        obtain ⟨u, hu, hu1⟩ : ∃ u : Nat, x % K = u ∧ u < K := ⟨_, rfl, Nat.mod_lt _ hK0⟩
        obtain ⟨v, hv, hv1⟩ : ∃ v : Nat, y % K = v ∧ v < K := ⟨_, rfl, Nat.mod_lt _ hK0⟩
        obtain ⟨u', hu', hu1'⟩ : ∃ u : Nat, x' % K = u ∧ u < K := ⟨_, rfl, Nat.mod_lt _ hK0⟩
        obtain ⟨v', hv', hv1'⟩ : ∃ v : Nat, y' % K = v ∧ v < K := ⟨_, rfl, Nat.mod_lt _ hK0⟩
        rw [hu, hv] at HS
        rw [hu', hv'] at HS'
        have ex : (x : Int) % (K : Int) = (u : Int) := by rw [← hu]; rfl
        have ey : (y : Int) % (K : Int) = (v : Int) := by rw [← hv]; rfl
        have ex' : (x : Int).tmod (K : Int) = (u : Int) := by rw [← hu]; rfl
        have ey' : (y : Int).tmod (K : Int) = (v : Int) := by rw [← hv]; rfl
        have wx : IntKind.i64.wrap (x : Int) = (x : Int) := IntWalk.i64_in _ (by omega)
        have wy : IntKind.i64.wrap (y : Int) = (y : Int) := IntWalk.i64_in _ (by omega)
        have kz : ((K : Int) == 0) = false := by simp; omega
        have kz' : ¬ (K : Int) = 0 := by omega
        have kn : ¬ K = 0 := by omega
        have HEX : Hid ((x' : Int) % (K : Int) = (u' : Int) ∧ (y' : Int) % (K : Int) = (v' : Int)) := Lib.hid ⟨by rw [← hu']; rfl, by rw [← hv']; rfl⟩
        have HEX' : Hid ((x' : Int).tmod (K : Int) = (u' : Int) ∧ (y' : Int).tmod (K : Int) = (v' : Int)) := Lib.hid ⟨by rw [← hu']; rfl, by rw [← hv']; rfl⟩
        have wu : IntKind.i64.wrap (u : Int) = (u : Int) := IntWalk.i64_in _ (by omega)
        have wv : IntKind.i64.wrap (v : Int) = (v : Int) := IntWalk.i64_in _ (by omega)
        clear hu' hv' hjl
        go_wp2_with fail
        have hK1 := join2_drew b m K G u v wr HU.out hu1 hv1
        have hgm : g ∉ [m] := by
          intro e
          simp at e
          exact HU.out.noCell (by rw [← e]; exact c1)
        go_region_held3 (fun w' => w'.cell? ⟨g, off + i * 2, none⟩ = some (.int .u8 (x : Int)) ∧ w'.cell? ⟨g, off + i * 2 + 1, none⟩ = some (.int .u8 (y : Int)))
          (first | exact ⟨c1, c2⟩ | exact ⟨(ht5.cell (p := ⟨g, off + i * 2, none⟩) hg hgm).trans c1, (ht5.cell (p := ⟨g, off + i * 2 + 1, none⟩) hg hgm).trans c2⟩ | go_keep)
          (first
            | (go_at_call 11; (with_reducible refine hK1.mono ?_); rintro e w5 ⟨rfl, hu5, ht5⟩))
        clear hK1 ex ey ex' ey' wx wy wu wv hu hv c1 c2
        have HU5 := Lib.hid hu5
        have HV5 := Lib.hid (HV.out.turn ht5 (by simp; omega) (by simp; omega))
        have HT5 := Lib.hid (HT.out.trans ht5 (fun g hg => .inr (by simp at hg; omega)))
        clear hu5 ht5 HU HV HT
        obtain ⟨g', off', hA', hg', c1, c2⟩ := (HA.out.turn HT5.out) j _ HQ'.out
        obtain ⟨rfl, rfl⟩ : g = g' ∧ off = off' := by injection hA' with hA'; injection hA' with h1 h2; exact ⟨h1, h2⟩
        simp only at c1 c2
        clear hA'
        have hj := HJ.out
        go_wp2_with fail
        clear hj
        have ex := HEX.out.1
        have ey := HEX.out.2
        have ex' := HEX'.out.1
        have ey' := HEX'.out.2
        have wx : IntKind.i64.wrap (x' : Int) = (x' : Int) := IntWalk.i64_in _ (by omega)
        have wy : IntKind.i64.wrap (y' : Int) = (y' : Int) := IntWalk.i64_in _ (by omega)
        have wu : IntKind.i64.wrap (u' : Int) = (u' : Int) := IntWalk.i64_in _ (by omega)
        have wv : IntKind.i64.wrap (v' : Int) = (v' : Int) := IntWalk.i64_in _ (by omega)
        have hK1 := join2_drew b' m' K G' v' u' w5 HV5.out hv1' hu1'
        have hgm' : g ∉ [m'] := by
          intro e
          simp at e
          exact HV5.out.noCell (by rw [← e]; exact c1)
        go_region_held3 (fun w' => w'.cell? ⟨g, off + j * 2, none⟩ = some (.int .u8 (x' : Int)) ∧ w'.cell? ⟨g, off + j * 2 + 1, none⟩ = some (.int .u8 (y' : Int)))
          (first | exact ⟨c1, c2⟩ | exact ⟨(ht7.cell (p := ⟨g, off + j * 2, none⟩) hg' hgm').trans c1, (ht7.cell (p := ⟨g, off + j * 2 + 1, none⟩) hg' hgm').trans c2⟩ | go_keep)
          (first
            | (go_at_call 11; (with_reducible refine hK1.mono ?_); rintro e w7 ⟨rfl, hv7, ht7⟩))
        clear hK1 ex ey ex' ey' wx wy wu wv c1 c2
        have HV7 := Lib.hid hv7
        have HU7 := Lib.hid (HU5.out.turn ht7 (by simp; omega) (by simp; omega))
        have HT7 := Lib.hid (HT5.out.trans ht7 (fun g hg => .inr (by simp at hg; omega)))
        clear hv7 ht7 HU5 HV5 HT5
        go_wp2_with fail
        go_roundw
        case rel => exact ⟨i + 1, by omega, by go_num, Lib.hid (by rw [HS.out]; exact HU7.out), Lib.hid (by rw [HS'.out]; exact HV7.out), HT7⟩
        case measure => simp [intOf]; omega
      · have HE : Hid (G' = G) := Lib.hid (by
          have h1 := HG.out
          have h2 := HG'.out
          rw [List.take_of_length_le (by rw [modP_length]; omega)] at h1
          rw [List.take_of_length_le (by rw [turnd_length, modP_length]; omega)] at h2
          rw [← h1, ← h2]
          exact runJ_turned (modP_lt hK0 l))
        have hcK := hc_le K G
        go_wp2_with fail
        refine (classes_any b m K G _ HU.out).mono ?_
        rintro e w4 ⟨v4, xs4, rfl, ho4, hu4, ht4⟩
        obtain ⟨A4, c4, hv4, hr4⟩ := ho4.form
        subst hv4
        have HU4 := Lib.hid hu4
        have HV4 := Lib.hid (HV.out.turn ht4 (by simp; omega) (by simp; omega))
        have HT4 := Lib.hid (HT.out.trans ht4 (fun g hg => .inr (by simp at hg; omega)))
        have HO4 := Lib.hid ho4
        have hlm' := HV.out.lt.2
        clear hu4 ht4 ho4 hr4
        go_wp2_with fail
        refine (classes_any b' m' K G' _ HV4.out).mono ?_
        rintro e w5 ⟨v5, xs5, rfl, ho5, hv5, ht5⟩
        obtain ⟨A5, c5, hv5', hr5⟩ := ho5.form
        subst hv5'
        have HV5 := Lib.hid hv5
        have HU5 := Lib.hid (HU4.out.turn ht5 (by simp; omega) (by simp; omega))
        have HT5 := Lib.hid (HT4.out.trans ht5 (fun g hg => .inr (by simp at hg; omega)))
        have HO5 := Lib.hid (HO4.out.off ht5 (fun g hg => by simp at hg; omega))
        have HR5 := Lib.hid hr5
        clear hv5 ht5 ho5 hr5 HU4 HV4 HT4 HO4
        have HR4 : Hid (Rws w5 A4 (clsI G K)) := Lib.hid (by
          obtain ⟨A, c, e, hr⟩ := HO5.out.form
          injection e with e1 e2 e3
          rw [e1]
          exact hr)
        go_wp2_with fail
        refine (lists_any A4 A5 c4 c5 (clsI G K) (clsI G' K) _ HR4.out HR5.out (by rw [clsI_length]; omega) (by rw [clsI_length]; have := hc_le K G'; omega) (clsI_small G (by omega)) (clsI_small G' (by omega))).mono ?_
        rw [HE.out, lsB_self]
        rintro e w6 ⟨rfl, ht6⟩
        have HU6 := Lib.hid (HU5.out.turn' ht6)
        have HV6 := Lib.hid (HV5.out.turn' ht6)
        have HT6 := Lib.hid (HT5.out.trans' ht6)
        clear ht6 HU5 HV5 HT5
        go_wp2_with fail
        refine (count_any b m K G _ HU6.out).mono ?_
        rintro e w7 ⟨rfl, ht7⟩
        have HV7 := Lib.hid (HV6.out.turn' ht7)
        have HT7 := Lib.hid (HT6.out.trans' ht7)
        clear ht7 HU6 HV6 HT6
        go_wp2_with fail
        refine (count_any b' m' K G' _ HV7.out).mono ?_
        rw [HE.out]
        rintro e w8 ⟨rfl, ht8⟩
        have HT8 := Lib.hid (HT7.out.trans' ht8)
        clear ht8
        go_wp2_with fail
        go_ret
        exact ⟨rfl, HT8.out⟩
end Go.Proofs.Ytjgabnphafkgoaa
