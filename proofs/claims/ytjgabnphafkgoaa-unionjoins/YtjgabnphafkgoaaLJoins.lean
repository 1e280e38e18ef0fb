/- The walk of UnionJoins. -/
import Derived.Test.YtjgabnphafkgoaaRCls
import Derived.Test.YtjgabnphafkgoaaLOrder
set_option linter.unusedSimpArgs false
set_option linter.unusedVariables false
namespace Go.Proofs.Ytjgabnphafkgoaa
open Go.RowKit Go.Maps

theorem joinI_count {n : Nat} {G : Nat → Nat} (h : Heads n G) (l : List Int) : joinI n G l = G ∨ hc n (joinI n G l) < hc n G := by
  unfold joinI
  split
  · rename_i hl
    exact joinL_count h _ (all_lt hl)
  · exact .inl rfl
theorem hdL_parts {n : Nat} {G H : Nat → Nat} (h : hc n G < hc n H) : sameB (hdL n G) (hdL n H) = false := by
  have : hdL n G ≠ hdL n H := fun e => by
    have h1 := hdL_inj e
    have h2 : hc n G = hc n H := by
      unfold hc
      exact List.countP_congr (fun x hx => by rw [h1 x (List.mem_range.1 hx)])
    omega
  simp [sameB, this]
theorem sameB_self (l : List Int) : sameB l l = true := by simp [sameB]
/-- Are the first k of the list in one class? -/
def smB (N : Nat) (G : Nat → Nat) (l : List Int) (k : Nat) : Bool := l.all (inB N) && (l.take k).all (fun y => decide (G y.toNat = G (l.headD 0).toNat))
theorem smB_zero (N : Nat) (G : Nat → Nat) (l : List Int) : smB N G l 0 = l.all (inB N) := by simp [smB]
theorem smB_no {N : Nat} {G : Nat → Nat} {l : List Int} {k : Nat} (h : smB N G l k = false) : sameI N G l = false := by
  unfold smB at h
  unfold sameI
  rw [Bool.and_eq_false_iff] at h ⊢
  rcases h with h | h
  · exact .inl h
  · right
    rw [List.all_eq_false] at h ⊢
    obtain ⟨y, hy, hn⟩ := h
    exact ⟨y, List.mem_of_mem_take hy, hn⟩
theorem smB_end {N : Nat} {G : Nat → Nat} {l : List Int} {k : Nat} (h : smB N G l k = true) (hk : l.length ≤ k) : sameI N G l = true := by
  unfold smB at h
  rw [List.take_of_length_le hk] at h
  exact h
theorem smB_step {N : Nat} {G : Nat → Nat} {l : List Int} {k : Nat} {y : Int} (h : smB N G l k = true) (hy : l[k]? = some y) : smB N G l (k + 1) = decide (G y.toNat = G (l.headD 0).toNat) := by
  unfold smB at *
  rw [Bool.and_eq_true] at h
  rw [take_snoc hy, List.all_append, h.1, h.2]
  simp

set_option maxRecDepth 100000 in
set_option maxHeartbeats 8000000 in
theorem joins_law (x : Int) (J : Option Addr) (cj : Nat) (js : List (List Int)) (Ask : Option Addr) (cask : Nat) (ask : List Int) (w : World) (hjl : js.length ≤ 9223372036854775807) (hal : ask.length ≤ 9223372036854775807)
    (hjj : ∀ l ∈ js, l.length ≤ 9223372036854775807) (hJ : Rws w J js) (hA : Ints w Ask ask) :
    Calls Try.prog 3 #[.int .i64 x, .slice J js.length cj, .slice Ask ask.length cask] w fun e w' => e = .returned (.bool true) ∧ Turn [] w w' := by
  have HJs := Lib.hid hJ
  have HAsk := Lib.hid hA
  have HJL := Lib.hid hjj
  clear hJ hA hjj
  by_cases h100 : 100 < x
  · have d1 : decide (100 < x) = true := by simpa using h100
    go_enter Try.func3, Try.ntmps3
    go_wp2_with fail
    refine (awake_any _).mono ?_
    rintro e w1 ⟨rfl, ht1⟩
    have HT1 := Lib.hid ht1
    clear ht1
    go_wp2_with fail
    refine (awake_any _).mono ?_
    rintro e w2 ⟨rfl, ht2⟩
    have HT2 := Lib.hid (HT1.out.trans' ht2)
    clear ht2
    go_wp2_with fail
    go_ret
    exact ⟨rfl, HT2.out⟩
  have d1 : decide (100 < x) = false := by simpa using h100
  by_cases h40 : 40 < js.length
  · have d2 : decide ((40 : Int) < (js.length : Int)) = true := by simp; omega
    go_enter Try.func3, Try.ntmps3
    go_wp2_with fail
    refine (awake_any _).mono ?_
    rintro e w1 ⟨rfl, ht1⟩
    have HT1 := Lib.hid ht1
    clear ht1
    go_wp2_with fail
    refine (awake_any _).mono ?_
    rintro e w2 ⟨rfl, ht2⟩
    have HT2 := Lib.hid (HT1.out.trans' ht2)
    clear ht2
    go_wp2_with fail
    go_ret
    exact ⟨rfl, HT2.out⟩
  have d2 : decide ((40 : Int) < (js.length : Int)) = false := by simp; omega
  by_cases h20 : 20 < ask.length
  · have d3 : decide ((20 : Int) < (ask.length : Int)) = true := by simp; omega
    go_enter Try.func3, Try.ntmps3
    go_wp2_with fail
    refine (awake_any _).mono ?_
    rintro e w1 ⟨rfl, ht1⟩
    have HT1 := Lib.hid ht1
    clear ht1
    go_wp2_with fail
    refine (awake_any _).mono ?_
    rintro e w2 ⟨rfl, ht2⟩
    have HT2 := Lib.hid (HT1.out.trans' ht2)
    clear ht2
    go_wp2_with fail
    go_ret
    exact ⟨rfl, HT2.out⟩
  have d3 : decide ((20 : Int) < (ask.length : Int)) = false := by simp; omega
  by_cases hneg : x < 0
  · have d4 : decide (x < 0) = true := by simpa using hneg
    go_enter Try.func3, Try.ntmps3
    go_wp2_with fail
    refine (awake_any _).mono ?_
    rintro e w1 ⟨rfl, ht1⟩
    have HT1 := Lib.hid ht1
    clear ht1
    go_wp2_with fail
    refine (new_bad x _ (.inl hneg)).mono ?_
    rintro e w' ⟨rfl, rfl⟩
    go_wp2_with fail
    go_ret
    exact ⟨rfl, HT1.out⟩
  obtain ⟨N, rfl⟩ : ∃ N : Nat, x = (N : Int) := ⟨x.toNat, by omega⟩
  have hN : N ≤ 100 := by omega
  have d4 : decide ((N : Int) < 0) = false := by simp
  go_enter Try.func3, Try.ntmps3
  go_wp2_with fail
  refine (awake_any _).mono ?_
  rintro e w1 ⟨rfl, ht1⟩
  have HT1 := Lib.hid ht1
  clear ht1
  go_wp2_with fail
  (with_reducible refine (new_ok N _ (by omega)).mono ?_)
  rintro e w2 ⟨b, m, rfl, hu2, hb2, hm2, ht2⟩
  have hbw : w.heap.size ≤ b := Nat.le_trans HT1.out.size hb2
  have hmw : w.heap.size ≤ m := Nat.le_trans HT1.out.size hm2
  have HU2 := Lib.hid hu2
  have HT2 := Lib.hid (HT1.out.trans' ht2)
  clear hu2 ht2 HT1 hb2 hm2
  go_wp2_with fail
  refine (refNew_any N _ (by omega)).mono ?_
  rintro e w3 ⟨v3, rfl, ho3, ht3⟩
  obtain ⟨A3, c3, hv3, hi3, _⟩ := ho3.form
  rw [hdL_length] at hv3
  subst hv3
  have HI3 := Lib.hid hi3
  have HU3 := Lib.hid (HU2.out.turn' ht3)
  have HT3 := Lib.hid (HT2.out.trans' ht3)
  clear ho3 hi3 ht3 HU2 HT2 d1 d2 d3
  go_wp2_with fail
  go_loopw [9, 10] (fun t9 t10 wr => ∃ (i c' : Nat) (A' : Option Addr) (G : Nat → Nat), i ≤ js.length ∧ t10 = .int .i64 (i : Int) ∧ t9 = .slice A' N c' ∧ Hid (Ints wr A' (hdL N G)) ∧ Hid (Un wr b m N G) ∧ Hid (Turn [] w wr)) (fun _ t _ => js.length - (intOf t).toNat)
  case atStart => exact ⟨0, _, _, _, Nat.zero_le _, rfl, rfl, HI3, HU3, HT3⟩
  case round =>
    obtain ⟨i, c', A', G, hi, rfl, rfl, HIh, HU, HT⟩ := hrel
    clear HI3 HU3 HT3
    by_cases hlt : i < js.length
    · obtain ⟨l, hl⟩ := at_lt hlt
      obtain ⟨gj, oj, Al, cl, rfl, hgj, hcj, hil⟩ := (HJs.out.turn' HT.out) i l hl
      have hll := HJL.out l (List.mem_of_getElem? hl)
      have HIl := Lib.hid hil
      clear hl hil
      by_cases hbig : 20 < l.length
      · have d5 : decide ((20 : Int) < (l.length : Int)) = true := by simp; omega
        go_wp2_with fail
        go_ret
        exact ⟨rfl, HT.out⟩
      · have d5 : decide ((20 : Int) < (l.length : Int)) = false := by simp; omega
        rcases joinI_count HU.out.heads l with he | hlt2
        · have HJE := Lib.hid he
          have HDE : Hid (decide (hc N G < hc N G) = false) := Lib.hid (by simp)
          have HSE := Lib.hid (sameB_self (hdL N G))
          clear he
          go_wp2_with fail
          refine (refJoin_any A' Al N c' cl G l _ HIh.out HIl.out (by omega) (by omega)).mono ?_
          rintro e w2 ⟨v2, rfl, ho2, ht2⟩
          rw [HJE.out] at ho2
          obtain ⟨A2, c2, hv2, hi2, _⟩ := ho2.form
          rw [hdL_length] at hv2
          subst hv2
          have HI2 := Lib.hid hi2
          have HIh2 := Lib.hid (HIh.out.below ht2)
          have HIl2 := Lib.hid (HIl.out.below ht2)
          have HU2 := Lib.hid (HU.out.turn' ht2)
          have HT2 := Lib.hid (HT.out.trans' ht2)
          have hcj2 : w2.cell? ⟨gj, oj + i, none⟩ = some (.slice Al l.length cl) := (ht2.cell (p := ⟨gj, oj + i, none⟩) hgj (by simp)).trans hcj
          clear ho2 ht2 hi2
          go_wp2_with fail
          refine (join_any b m N G Al cl l _ HU2.out HIl2.out (by omega)).mono ?_
          rw [HJE.out, HDE.out]
          rintro e w3 ⟨rfl, hu3, ht3⟩
          have HI3 := Lib.hid (HI2.out.off (fun o v => HU2.out.noCell) ht3)
          have HIh3 := Lib.hid (HIh2.out.off (fun o v => HU2.out.noCell) ht3)
          have HU3 := Lib.hid hu3
          have HT3 := Lib.hid (HT2.out.trans ht3 (fun g hg => .inr (by simp at hg; omega)))
          clear hu3 ht3 HI2 HIh2 HIl2 HU2 HT2 hcj2
          go_wp2_with fail
          refine (refSame_any A2 A' N N c2 c' _ (hdL N G) _ HI3.out HIh3.out (hdL_length _ _).symm (hdL_length _ _).symm (by omega) (by omega)).mono ?_
          rw [HSE.out]
          rintro e w4 ⟨rfl, q, rfl⟩
          have HI4 := Lib.hid (HI3.out.below ((Turn.refl [] w3).drewN q))
          have HU4 := Lib.hid (HU3.out.turn' ((Turn.refl [] w3).drewN q))
          have HT4 := Lib.hid (HT3.out.drewN q)
          clear HI3 HIh3 HU3 HT3
          go_wp2_with fail
          go_roundw
          case rel => exact ⟨i + 1, c2, A2, _, by omega, by go_num, rfl, HI4, HU4, HT4⟩
          case measure => simp [intOf]; omega
        · obtain ⟨G', hG'⟩ : ∃ G', joinI N G l = G' := ⟨_, rfl⟩
          rw [hG'] at hlt2
          have HJE := Lib.hid hG'
          have HDE := Lib.hid (decide_eq_true hlt2)
          have HSE := Lib.hid (hdL_parts hlt2)
          clear hlt2 hG'
          go_wp2_with fail
          refine (refJoin_any A' Al N c' cl G l _ HIh.out HIl.out (by omega) (by omega)).mono ?_
          rintro e w2 ⟨v2, rfl, ho2, ht2⟩
          rw [HJE.out] at ho2
          obtain ⟨A2, c2, hv2, hi2, _⟩ := ho2.form
          rw [hdL_length] at hv2
          subst hv2
          have HI2 := Lib.hid hi2
          have HIh2 := Lib.hid (HIh.out.below ht2)
          have HIl2 := Lib.hid (HIl.out.below ht2)
          have HU2 := Lib.hid (HU.out.turn' ht2)
          have HT2 := Lib.hid (HT.out.trans' ht2)
          have hcj2 : w2.cell? ⟨gj, oj + i, none⟩ = some (.slice Al l.length cl) := (ht2.cell (p := ⟨gj, oj + i, none⟩) hgj (by simp)).trans hcj
          clear ho2 ht2 hi2
          go_wp2_with fail
          refine (join_any b m N G Al cl l _ HU2.out HIl2.out (by omega)).mono ?_
          rw [HJE.out, HDE.out]
          rintro e w3 ⟨rfl, hu3, ht3⟩
          have HI3 := Lib.hid (HI2.out.off (fun o v => HU2.out.noCell) ht3)
          have HIh3 := Lib.hid (HIh2.out.off (fun o v => HU2.out.noCell) ht3)
          have HU3 := Lib.hid hu3
          have HT3 := Lib.hid (HT2.out.trans ht3 (fun g hg => .inr (by simp at hg; omega)))
          clear hu3 ht3 HI2 HIh2 HIl2 HU2 HT2 hcj2
          go_wp2_with fail
          refine (refSame_any A2 A' N N c2 c' _ (hdL N G) _ HI3.out HIh3.out (hdL_length _ _).symm (hdL_length _ _).symm (by omega) (by omega)).mono ?_
          rw [HSE.out]
          rintro e w4 ⟨rfl, q, rfl⟩
          have HI4 := Lib.hid (HI3.out.below ((Turn.refl [] w3).drewN q))
          have HU4 := Lib.hid (HU3.out.turn' ((Turn.refl [] w3).drewN q))
          have HT4 := Lib.hid (HT3.out.drewN q)
          clear HI3 HIh3 HU3 HT3
          go_wp2_with fail
          go_roundw
          case rel => exact ⟨i + 1, c2, A2, _, by omega, by go_num, rfl, HI4, HU4, HT4⟩
          case measure => simp [intOf]; omega
    · go_wp2_with fail
      clear hlt hi
      go_loopw [12] (fun t wr => ∃ z : Int, -1 ≤ z ∧ z ≤ (N : Int) + 1 ∧ t = .int .i64 z ∧ Hid (Ints wr A' (hdL N G)) ∧ Hid (Un wr b m N G) ∧ Hid (Turn [] w wr)) (fun t _ => ((N : Int) + 1 - intOf t).toNat)
      case atStart => exact ⟨-1, by omega, by omega, rfl, HIh, HU, HT⟩
      case round =>
        obtain ⟨z, hz1, hz2, rfl, HIh5, HU5, HT5⟩ := hrel
        clear HIh HU HT
        by_cases hzN : z ≤ (N : Int)
        · have dz : decide (z ≤ (N : Int)) = true := by simpa using hzN
          by_cases hz0 : 0 ≤ z
          · have dz0 : decide (0 ≤ z) = true := by simpa using hz0
            by_cases hzl : z < (N : Int)
            · obtain ⟨k, rfl⟩ : ∃ k : Nat, z = (k : Int) := ⟨z.toNat, by omega⟩
              have hk : k < N := by omega
              obtain ⟨gh, oh, rfl, hgh, hch⟩ := HIh5.out k _ (hdL_at G hk)
              have HIN := Lib.hid (inB_of hk)
              clear hz1 hz0 hzl dz dz0 hzN
              go_wp2_with fail
              refine (head_any b m N G _ _ HU5.out).mono ?_
              rw [if_pos HIN.out, Int.toNat_natCast]
              rintro e w6 ⟨rfl, hu6, ht6⟩
              have HI6 := Lib.hid (HIh5.out.off (fun o v => HU5.out.noCell) ht6)
              have HU6 := Lib.hid hu6
              have HT6 := Lib.hid (HT5.out.trans ht6 (fun g hg => .inr (by simp at hg; omega)))
              clear hu6 ht6
              go_wp2_with fail
              go_roundw
              case rel => exact ⟨(k : Int) + 1, by omega, by omega, rfl, HI6, HU6, HT6⟩
              case measure => simp [intOf]; omega
            · have dzl : decide (z < (N : Int)) = false := by simpa using hzl
              have HIN : Hid (inB N z = false) := Lib.hid (by unfold inB; rw [dzl, Bool.and_false])
              go_wp2_with fail
              refine (head_any b m N G _ _ HU5.out).mono ?_
              rw [HIN.out, if_neg (by simp)]
              rintro e w6 ⟨rfl, hu6, ht6⟩
              have HI6 := Lib.hid (HIh5.out.off (fun o v => HU5.out.noCell) ht6)
              have HU6 := Lib.hid hu6
              have HT6 := Lib.hid (HT5.out.trans ht6 (fun g hg => .inr (by simp at hg; omega)))
              clear hu6 ht6
              go_wp2_with fail
              go_roundw
              case rel => exact ⟨z + 1, by omega, by omega, rfl, HI6, HU6, HT6⟩
              case measure => simp [intOf]; omega
          · have dz0 : decide (0 ≤ z) = false := by simpa using hz0
            have HIN : Hid (inB N z = false) := Lib.hid (by unfold inB; rw [dz0, Bool.false_and])
            go_wp2_with fail
            refine (head_any b m N G _ _ HU5.out).mono ?_
            rw [HIN.out, if_neg (by simp)]
            rintro e w6 ⟨rfl, hu6, ht6⟩
            have HI6 := Lib.hid (HIh5.out.off (fun o v => HU5.out.noCell) ht6)
            have HU6 := Lib.hid hu6
            have HT6 := Lib.hid (HT5.out.trans ht6 (fun g hg => .inr (by simp at hg; omega)))
            clear hu6 ht6
            go_wp2_with fail
            go_roundw
            case rel => exact ⟨z + 1, by omega, by omega, rfl, HI6, HU6, HT6⟩
            case measure => simp [intOf]; omega
        · have dz : decide (z ≤ (N : Int)) = false := by simpa using hzN
          go_wp2_with fail
          clear dz hzN hz1 hz2
          refine (there_any A' Ask N c' cask ask _ (HAsk.out.below HT5.out) (by omega) (by omega)).mono ?_
          rw [← smB_zero N G ask]
          rintro e w6 ⟨rfl, rfl⟩
          obtain ⟨s0, hs0⟩ : ∃ s0, smB N G ask 0 = s0 := ⟨_, rfl⟩
          rw [hs0]
          have HS0 := Lib.hid hs0
          clear hs0
          go_wp2_with fail
          go_loopw [14, 15] (fun t14 t15 wr => ∃ (k : Nat) (s : Bool), k ≤ ask.length ∧ t15 = .int .i64 (k : Int) ∧ t14 = .bool s ∧ Hid (smB N G ask k = s) ∧ Hid (Ints wr A' (hdL N G)) ∧ Hid (Un wr b m N G) ∧ Hid (Turn [] w wr)) (fun _ t _ => ask.length - (intOf t).toNat)
          case atStart => exact ⟨0, s0, Nat.zero_le _, rfl, rfl, HS0, HIh5, HU5, HT5⟩
          case round =>
            obtain ⟨k, s, hk, rfl, rfl, HSk, HIh, HU, HT⟩ := hrel
            clear HIh5 HU5 HT5 HS0
            cases s
            · have HSm := Lib.hid (smB_no HSk.out)
              go_wp2_with fail
              have HAK := Lib.hid (HAsk.out.below HT.out)
              refine (refClasses_any A' N c' G _ HIh.out (by omega)).mono ?_
              rintro e w4 ⟨v4, xs4, rfl, ho4, ht4⟩
              obtain ⟨A4, c4, hv4, hr4⟩ := ho4.form
              rw [clsI_length] at hv4
              subst hv4
              have HU4 := Lib.hid (HU.out.turn' ht4)
              have HT4 := Lib.hid (HT.out.trans' ht4)
              have HO4 := Lib.hid ho4
              have HK4 := Lib.hid (HAK.out.below ht4)
              have hmwr := HU.out.lt.2
              clear ho4 ht4 hr4 HU HT HAK
              go_wp2_with fail
              refine (same_any b m N G Ask cask ask _ HU4.out HK4.out (by omega)).mono ?_
              rw [HSm.out]
              rintro e w5 ⟨rfl, hu5, ht5⟩
              have HU5 := Lib.hid hu5
              have HT5 := Lib.hid (HT4.out.trans ht5 (fun g hg => .inr (by simp at hg; omega)))
              have HO5 := Lib.hid (HO4.out.turn ht5 (fun g hg hm => by simp at hm; have := World.ownsRow.lt HO4.out.row g hg; omega) (fun k u g hu hg hm => by simp at hm; have := HO4.out.lt hu hg; omega))
              clear hu5 ht5 HU4 HT4 HO4
              go_wp2_with fail
              refine (count_any b m N G _ HU5.out).mono ?_
              rintro e w6 ⟨rfl, ht6⟩
              have HU6 := Lib.hid (HU5.out.turn' ht6)
              have HT6 := Lib.hid (HT5.out.trans' ht6)
              have HO6 := Lib.hid (HO5.out.turn' ht6)
              clear ht6 HU5 HT5 HO5
              go_wp2_with fail
              refine (classes_any b m N G _ HU6.out).mono ?_
              rintro e w7 ⟨v7, xs7, rfl, ho7, hu7, ht7⟩
              obtain ⟨A7, c7, hv7, hr7⟩ := ho7.form
              rw [clsI_length] at hv7
              subst hv7
              have HT7 := Lib.hid (HT6.out.trans ht7 (fun g hg => .inr (by simp at hg; omega)))
              have HO7 := Lib.hid (HO6.out.turn ht7 (fun g hg hm => by simp at hm; have := World.ownsRow.lt HO6.out.row g hg; omega) (fun k u g hu hg hm => by simp at hm; have := HO6.out.lt hu hg; omega))
              have HR7 := Lib.hid hr7
              have HR4 : Hid (Rws w7 A4 (clsI G N)) := Lib.hid (by
                obtain ⟨A, c, e, hr⟩ := HO7.out.form
                injection e with e1 e2 e3
                rw [e1]
                exact hr)
              clear ho7 hu7 ht7 hr7 HU6 HT6 HO6
              have hcN := hc_le N G
              have hlists := lists_any A7 A4 c7 c4 (clsI G N) (clsI G N) w7 HR7.out HR4.out (by rw [clsI_length]; omega) (by rw [clsI_length]; omega) (clsI_small G (by omega)) (clsI_small G (by omega))
              rw [clsI_length, lsB_self] at hlists
              go_wp2_with fail
              refine hlists.mono ?_
              rintro e w8 ⟨rfl, ht8⟩
              have HT8 := Lib.hid (HT7.out.trans' ht8)
              clear ht8 hlists
              go_wp2_with fail
              go_ret
              exact ⟨rfl, HT8.out⟩
            · by_cases hlt : k < ask.length
              · obtain ⟨y, hy⟩ := at_lt hlt
                have hall : ask.all (inB N) = true := by
                  have := HSk.out
                  unfold smB at this
                  rw [Bool.and_eq_true] at this
                  exact this.1
                obtain ⟨z, rfl, hzN, hzt⟩ := inB_nat (List.all_eq_true.1 hall y (List.mem_of_getElem? hy))
                obtain ⟨a0, ha0⟩ := at_lt (show 0 < ask.length by omega)
                obtain ⟨a, rfl, haN, hat⟩ := inB_nat (List.all_eq_true.1 hall a0 (List.mem_of_getElem? ha0))
                have hhd : (ask.headD 0).toNat = a := by
                  cases ask with
                  | nil => simp at hlt
                  | cons q t => simp at ha0; subst ha0; rfl
                obtain ⟨ga, oa, rfl, hga, hck⟩ := (HAsk.out.below HT.out) k _ hy
                obtain ⟨ga', oa', hA', _, hc0⟩ := (HAsk.out.below HT.out) 0 _ ha0
                obtain ⟨rfl, rfl⟩ : ga = ga' ∧ oa = oa' := by injection hA' with hA'; injection hA' with h1 h2; exact ⟨h1, h2⟩
                rw [Nat.add_zero] at hc0
                obtain ⟨gh, oh, rfl, hgh, hcz⟩ := HIh.out z _ (hdL_at G hzN)
                obtain ⟨gh', oh', hA'', _, hca⟩ := HIh.out a _ (hdL_at G haN)
                obtain ⟨rfl, rfl⟩ : gh = gh' ∧ oh = oh' := by injection hA'' with hA''; injection hA'' with h1 h2; exact ⟨h1, h2⟩
                have HST := Lib.hid ((smB_step HSk.out hy).trans (by rw [hhd, Int.toNat_natCast] : decide (G (z : Int).toNat = G (ask.headD 0).toNat) = decide (G z = G a)))
                clear hy ha0 hall hA' hA'' hzt hat hhd
                have hp0 : 0 < ask.length := by omega
                have hp1 : (0 : Int) < (ask.length : Int) := by omega
                by_cases hza : G z = G a
                · have HST' : Hid (smB N G ask (k + 1) = true) := Lib.hid (by rw [HST.out]; simp [hza])
                  rw [hza] at hcz
                  clear HST hza
                  go_wp2_with fail
                  go_quiet (fail)
                  go_wp2_with fail
                  go_roundw
                  case rel => exact ⟨k + 1, true, by omega, by go_num, rfl, HST', Lib.hid (HIh.out.below ((Turn.refl [] wr).drewN nq)), Lib.hid (HU.out.turn' ((Turn.refl [] wr).drewN nq)), Lib.hid (HT.out.drewN nq)⟩
                  case measure => simp [intOf]; omega
                · have HST' : Hid (smB N G ask (k + 1) = false) := Lib.hid (by rw [HST.out]; simp [hza])
                  have dq : ((G z : Int) == (G a : Int)) = false := by simp; omega
                  clear HST hza
                  go_wp2_with fail
                  go_quiet (fail)
                  go_wp2_with fail
                  go_roundw
                  case rel => exact ⟨k + 1, false, by omega, by go_num, rfl, HST', Lib.hid (HIh.out.below ((Turn.refl [] wr).drewN nq)), Lib.hid (HU.out.turn' ((Turn.refl [] wr).drewN nq)), Lib.hid (HT.out.drewN nq)⟩
                  case measure => simp [intOf]; omega
              · have HSm := Lib.hid (smB_end HSk.out (by omega))
                go_wp2_with fail
                have HAK := Lib.hid (HAsk.out.below HT.out)
                refine (refClasses_any A' N c' G _ HIh.out (by omega)).mono ?_
                rintro e w4 ⟨v4, xs4, rfl, ho4, ht4⟩
                obtain ⟨A4, c4, hv4, hr4⟩ := ho4.form
                rw [clsI_length] at hv4
                subst hv4
                have HU4 := Lib.hid (HU.out.turn' ht4)
                have HT4 := Lib.hid (HT.out.trans' ht4)
                have HO4 := Lib.hid ho4
                have HK4 := Lib.hid (HAK.out.below ht4)
                have hmwr := HU.out.lt.2
                clear ho4 ht4 hr4 HU HT HAK
                go_wp2_with fail
                refine (same_any b m N G Ask cask ask _ HU4.out HK4.out (by omega)).mono ?_
                rw [HSm.out]
                rintro e w5 ⟨rfl, hu5, ht5⟩
                have HU5 := Lib.hid hu5
                have HT5 := Lib.hid (HT4.out.trans ht5 (fun g hg => .inr (by simp at hg; omega)))
                have HO5 := Lib.hid (HO4.out.turn ht5 (fun g hg hm => by simp at hm; have := World.ownsRow.lt HO4.out.row g hg; omega) (fun k u g hu hg hm => by simp at hm; have := HO4.out.lt hu hg; omega))
                clear hu5 ht5 HU4 HT4 HO4
                go_wp2_with fail
                refine (count_any b m N G _ HU5.out).mono ?_
                rintro e w6 ⟨rfl, ht6⟩
                have HU6 := Lib.hid (HU5.out.turn' ht6)
                have HT6 := Lib.hid (HT5.out.trans' ht6)
                have HO6 := Lib.hid (HO5.out.turn' ht6)
                clear ht6 HU5 HT5 HO5
                go_wp2_with fail
                refine (classes_any b m N G _ HU6.out).mono ?_
                rintro e w7 ⟨v7, xs7, rfl, ho7, hu7, ht7⟩
                obtain ⟨A7, c7, hv7, hr7⟩ := ho7.form
                rw [clsI_length] at hv7
                subst hv7
                have HT7 := Lib.hid (HT6.out.trans ht7 (fun g hg => .inr (by simp at hg; omega)))
                have HO7 := Lib.hid (HO6.out.turn ht7 (fun g hg hm => by simp at hm; have := World.ownsRow.lt HO6.out.row g hg; omega) (fun k u g hu hg hm => by simp at hm; have := HO6.out.lt hu hg; omega))
                have HR7 := Lib.hid hr7
                have HR4 : Hid (Rws w7 A4 (clsI G N)) := Lib.hid (by
                  obtain ⟨A, c, e, hr⟩ := HO7.out.form
                  injection e with e1 e2 e3
                  rw [e1]
                  exact hr)
                clear ho7 hu7 ht7 hr7 HU6 HT6 HO6
                have hcN := hc_le N G
                have hlists := lists_any A7 A4 c7 c4 (clsI G N) (clsI G N) w7 HR7.out HR4.out (by rw [clsI_length]; omega) (by rw [clsI_length]; omega) (clsI_small G (by omega)) (clsI_small G (by omega))
                rw [clsI_length, lsB_self] at hlists
                go_wp2_with fail
                refine hlists.mono ?_
                rintro e w8 ⟨rfl, ht8⟩
                have HT8 := Lib.hid (HT7.out.trans' ht8)
                clear ht8 hlists
                go_wp2_with fail
                go_ret
                exact ⟨rfl, HT8.out⟩
end Go.Proofs.Ytjgabnphafkgoaa
