/- The reference's Join. -/
import Derived.Test.YtjgabnphafkgoaaRef
set_option linter.unusedSimpArgs false
set_option linter.unusedVariables false
namespace Go.Proofs.Ytjgabnphafkgoaa
open Go.RowKit Go.Maps

/-- Below k the new heads, from k on the old ones. -/
def mix (G M : Nat → Nat) (k : Nat) : Nat → Nat := fun j => if j < k then M j else G j
theorem mix_zero (G M : Nat → Nat) (i : Nat) : mix G M 0 i = G i := by simp [mix]
theorem mix_at (G M : Nat → Nat) {k j : Nat} (h : k ≤ j) : mix G M k j = G j := by unfold mix; rw [if_neg (by omega)]
theorem mix_full (G M : Nat → Nat) {n j : Nat} (h : j < n) : mix G M n j = M j := by unfold mix; rw [if_pos h]
theorem mix_set {G M : Nat → Nat} {n k : Nat} (hk : k < n) : hdL n (mix G M (k + 1)) = (hdL n (mix G M k)).set k (M k : Int) := by
  apply List.ext_getElem?
  intro i
  rw [List.getElem?_set, hdL_length]
  by_cases e : k = i
  · subst e
    rw [if_pos rfl, if_pos hk, hdL_at _ hk]
    unfold mix
    rw [if_pos (by omega)]
  · rw [if_neg e]
    by_cases hi : i < n
    · rw [hdL_at _ hi, hdL_at _ hi]
      unfold mix
      by_cases h : i < k
      · rw [if_pos (by omega), if_pos h]
      · rw [if_neg (by omega), if_neg h]
    · rw [List.getElem?_eq_none (by rw [hdL_length]; omega), List.getElem?_eq_none (by rw [hdL_length]; omega)]

section
variable {w : World} {B g n c : Nat} {H : Nat → Nat}
theorem own_cell (h : OwnI w B (.slice (some ⟨g, 0, none⟩) n c) (hdL n H)) {k : Nat} (hk : k < n) : w.cell? ⟨g, k, none⟩ = some (.int .i64 (H k : Int)) := by
  have h1 : w.ownsRow B 3 1 (.slice (some ⟨g, 0, none⟩) n c) n ((hdL n H).map (Value.int .i64)) := by have := h; unfold OwnI at this; rw [hdL_length] at this; exact this
  rw [World.ownsRow.cellAt h1 k (by omega), List.getElem?_map, hdL_at H hk]
  rfl
theorem own_frozen (h : OwnI w B (.slice (some ⟨g, 0, none⟩) n c) (hdL n H)) {k : Nat} : w.frozen? ⟨g, k, none⟩ = false := by
  have h1 : w.ownsRow B 3 1 (.slice (some ⟨g, 0, none⟩) n c) n ((hdL n H).map (Value.int .i64)) := by have := h; unfold OwnI at this; rw [hdL_length] at this; exact this
  exact World.ownsRow.frozenAt h1 k
theorem own_put (h : OwnI w B (.slice (some ⟨g, 0, none⟩) n c) (hdL n H)) (k : Nat) (y : Int) : OwnI (w.setCell ⟨g, k, none⟩ (.int .i64 y)) B (.slice (some ⟨g, 0, none⟩) n c) ((hdL n H).set k y) := by
  have h1 : w.ownsRow B 3 1 (.slice (some ⟨g, 0, none⟩) n c) n ((hdL n H).map (Value.int .i64)) := by have := h; unfold OwnI at this; rw [hdL_length] at this; exact this
  have := (World.ownsRow.stored h1 k (.int .i64 y)).1
  unfold OwnI
  rw [List.length_set, hdL_length, List.map_set]
  exact this
end
theorem OwnI.shapeN {w : World} {B n : Nat} {v : Value} {l : List Int} (h : OwnI w B v l) (hn : l.length = n) (h0 : 0 < n) : ∃ g c, v = .slice (some ⟨g, 0, none⟩) n c ∧ B ≤ g := by
  obtain ⟨g, c, e, h1, _⟩ := World.ownsRow.form h (by omega)
  exact ⟨g, c, by rw [e, hn], h1⟩

theorem joinL_head (H : Nat → Nat) (l : List Nat) (x : Nat) (hx : l.headD x = x) : joinL H l = joinTo H x (l.drop 1) := by
  cases l with
  | nil => rfl
  | cons y t =>
    simp at hx
    subst hx
    rw [joinL_cons]
    rfl
theorem joinI_small {n : Nat} {H : Nat → Nat} {l : List Int} (h : l.length ≤ 1) : joinI n H l = H := by
  unfold joinI
  split
  · match l, h with
    | [], _ => rfl
    | [x], _ => show joinL H [x.toNat] = H; rw [joinL_cons]; rfl
  · rfl

set_option maxRecDepth 100000 in
set_option maxHeartbeats 2000000 in
theorem refJoin_any (A D : Option Addr) (n c d : Nat) (H : Nat → Nat) (l : List Int) (w : World) (hA : Ints w A (hdL n H)) (hD : Ints w D l) (hn : n ≤ 100000) (hl : l.length ≤ 100000) :
    Calls Try.prog 10 #[.slice A n c, .slice D l.length d] w fun e w' => ∃ v, e = .returned v ∧ OwnI w' w.heap.size v (hdL n (joinI n H l)) ∧ Turn [] w w' := by
  have HA := Lib.hid hA
  have HD := Lib.hid hD
  clear hA hD
  go_enter Try.func10, Try.ntmps10
  go_upto_region 3 with (at_builtin; refine wpList_appAll rfl (.tmp 10) (.tmp 11) rfl w w.heap.size (.slice none 0 0) [] (hdL n H) A n c rfl (OwnI.nil _ _) rfl HA.out (hdL_length _ _).symm (by simp) (by rw [hdL_length]; omega) (Nat.le_refl _) ?_; intro v1 w1 ho1 ht1 hb1)
  rw [List.nil_append] at ho1
  have HO1 := Lib.hid ho1
  have HT1 : Hid (Turn [] w w1) := Lib.hid (ht1.more (by simp [Value.ownBlock]))
  clear ho1 ht1 hb1
  go_wp2_with fail
  refine (there_any _ D n c d l _ (HD.out.below HT1.out) (by omega) hn).mono ?_
  by_cases hall : l.all (inB n) = true
  · rw [hall]
    rintro e w' ⟨rfl, rfl⟩
    by_cases hl1 : l.length ≤ 1
    · have d1 : decide ((1 : Int) < (l.length : Int)) = false := by simp; omega
      go_wp2_with fail
      refine wp_loop_rounds 1 ?_
      rw [rounds_succ]
      go_wp2_with fail
      go_ret
      exact ⟨_, rfl, by rw [joinI_small hl1]; exact HO1.out, HT1.out⟩
    · obtain ⟨x0, hx0⟩ := at_lt (show 0 < l.length by omega)
      obtain ⟨x, rfl, hxn, hxt⟩ := inB_nat (List.all_eq_true.1 hall x0 (List.mem_of_getElem? hx0))
      have HJ : Hid (joinI n H l = joinTo H x ((l.map Int.toNat).drop 1)) := Lib.hid (by
        unfold joinI
        rw [if_pos hall]
        refine joinL_head H _ x ?_
        cases l with
        | nil => simp at hx0
        | cons y t => simp at hx0; subst hx0; rfl)
      have HALL := Lib.hid hall
      have HX0 := Lib.hid hx0
      clear hall hx0 hxt
      have hn0 : 0 < n := by omega
      obtain ⟨g, c1, rfl, hgB⟩ := HO1.out.shapeN (hdL_length _ _) hn0
      go_wp2_with fail
      go_loopw [6] (fun t wr => ∃ i : Nat, 1 ≤ i ∧ i ≤ l.length ∧ t = .int .i64 (i : Int) ∧ Hid (OwnI wr w.heap.size (.slice (some ⟨g, 0, none⟩) n c1) (hdL n (joinTo H x (((l.map Int.toNat).drop 1).take (i - 1))))) ∧ Hid (Turn [] w wr)) (fun t _ => l.length - (intOf t).toNat)
      case atStart => exact ⟨1, by omega, by omega, rfl, HO1, HT1⟩
      case round =>
        obtain ⟨i, hi1, hi, rfl, HO, HT⟩ := hrel
        generalize hG : joinTo H x (((l.map Int.toNat).drop 1).take (i - 1)) = G at *
        have HG := Lib.hid hG
        clear hG
        by_cases hlt : i < l.length
        · obtain ⟨y, hy⟩ := at_lt hlt
          obtain ⟨z, rfl, hzn, hzt⟩ := inB_nat (List.all_eq_true.1 HALL.out y (List.mem_of_getElem? hy))
          have HS : Hid (joinTo H x (((l.map Int.toNat).drop 1).take (i + 1 - 1)) = mg G x z) := Lib.hid (by
            have e : (((l.map Int.toNat).drop 1))[i - 1]? = some z := by
              rw [List.getElem?_drop, show 1 + (i - 1) = i by omega, List.getElem?_map, hy]
              rfl
            rw [show i + 1 - 1 = (i - 1) + 1 by omega, take_snoc e, joinTo_snoc, HG.out])
          obtain ⟨gd, od, rfl, hgd, hci⟩ := (HD.out.below HT.out) i _ hy
          obtain ⟨gd', od', hA', _, hc0⟩ := (HD.out.below HT.out) 0 _ HX0.out
          obtain ⟨rfl, rfl⟩ : gd = gd' ∧ od = od' := by injection hA' with hA'; injection hA' with h1 h2; exact ⟨h1, h2⟩
          rw [Nat.add_zero] at hc0
          have hcx := own_cell HO.out hxn
          have hcz := own_cell HO.out hzn
          obtain ⟨p, hp⟩ : ∃ p, G x = p := ⟨_, rfl⟩
          obtain ⟨r, hr⟩ : ∃ r, G z = r := ⟨_, rfl⟩
          rw [hp] at hcx
          rw [hr] at hcz
          have hp0 : 0 < l.length := by omega
          have hp1 : (0 : Int) < (l.length : Int) := by omega
          have HP := Lib.hid hp
          have HR := Lib.hid hr
          clear hy hA' hzt hp hr
          rcases Nat.lt_or_ge r p with hlt2 | hge2
          · have e1 : decide ((r : Int) < (p : Int)) = true := by simp; omega
            have e2 : decide (r < p) = true := by simp; omega
            have HMX : Hid (max (G x) (G z) = p) := Lib.hid (by rw [HP.out, HR.out]; omega)
            have HMN : Hid (min (G x) (G z) = r) := Lib.hid (by rw [HP.out, HR.out]; omega)
            go_wp2_with fail
            go_quiet (fail)
            have HO' := Lib.hid (HO.out.turn' ((Turn.refl [] wr).drewN nq))
            have HT' := Lib.hid (HT.out.drewN nq)
            clear hc0 hci hcx hcz
            generalize wr.drewN nq = wq at *
            go_wp2_with fail
            go_loopw [9] (fun t wr2 => ∃ k : Nat, k ≤ n ∧ t = .int .i64 (k : Int) ∧ Hid (OwnI wr2 w.heap.size (.slice (some ⟨g, 0, none⟩) n c1) (hdL n (mix G (mg G x z) k))) ∧ Hid (Turn [] w wr2)) (fun t _ => n - (intOf t).toNat)
            case atStart => exact ⟨0, Nat.zero_le _, rfl, Lib.hid (by rw [hdL_congr (fun i _ => mix_zero G _ i)]; exact HO'.out), HT'⟩
            case round =>
              obtain ⟨k, hk, rfl, HO2, HT2⟩ := hrel
              by_cases hkn : k < n
              · have hck := own_cell HO2.out hkn
                have hfk := own_frozen HO2.out (k := k)
                rw [mix_at G (mg G x z) (Nat.le_refl k)] at hck
                by_cases hm : G k = p
                · rw [hm] at hck
                  have HM : Hid (hdL n (mix G (mg G x z) (k + 1)) = (hdL n (mix G (mg G x z) k)).set k (r : Int)) := Lib.hid (by
                    rw [mix_set hkn]
                    congr 1
                    unfold mg
                    rw [HMX.out, HMN.out, if_pos hm])
                  clear hm
                  go_wp2_with fail
                  go_roundw
                  case rel => exact ⟨k + 1, by omega, by go_num, Lib.hid (by rw [HM.out]; exact own_put HO2.out k _), Lib.hid (HT2.out.setCell (.inr hgB) _)⟩
                  case measure => simp [intOf]; omega
                · have d1 : ((G k : Int) == (p : Int)) = false := by simp; omega
                  have HM : Hid (hdL n (mix G (mg G x z) (k + 1)) = hdL n (mix G (mg G x z) k)) := Lib.hid (hdL_congr (fun j _ => by
                    unfold mix
                    by_cases e : j = k
                    · subst e
                      rw [if_pos (by omega), if_neg (by omega)]
                      unfold mg
                      rw [HMX.out, HMN.out, if_neg hm]
                    · by_cases e2 : j < k
                      · rw [if_pos (by omega), if_pos e2]
                      · rw [if_neg (by omega), if_neg e2]))
                  clear hm
                  go_wp2_with fail
                  go_roundw
                  case rel => exact ⟨k + 1, by omega, by go_num, Lib.hid (by rw [HM.out]; exact HO2.out), HT2⟩
                  case measure => simp [intOf]; omega
              · obtain rfl : k = n := by omega
                go_wp2_with fail
                go_roundw
                case rel => exact ⟨i + 1, by omega, by omega, by go_num, Lib.hid (by rw [HS.out, ← hdL_congr (fun j hj => mix_full G (mg G x z) hj)]; exact HO2.out), HT2⟩
                case measure => simp [intOf]; omega

          · have e1 : decide ((r : Int) < (p : Int)) = false := by simp; omega
            have e2 : decide (r < p) = false := by simp; omega
            have HMX : Hid (max (G x) (G z) = r) := Lib.hid (by rw [HP.out, HR.out]; omega)
            have HMN : Hid (min (G x) (G z) = p) := Lib.hid (by rw [HP.out, HR.out]; omega)
            go_wp2_with fail
            go_quiet (fail)
            have HO' := Lib.hid (HO.out.turn' ((Turn.refl [] wr).drewN nq))
            have HT' := Lib.hid (HT.out.drewN nq)
            clear hc0 hci hcx hcz
            generalize wr.drewN nq = wq at *
            go_wp2_with fail
            go_loopw [9] (fun t wr2 => ∃ k : Nat, k ≤ n ∧ t = .int .i64 (k : Int) ∧ Hid (OwnI wr2 w.heap.size (.slice (some ⟨g, 0, none⟩) n c1) (hdL n (mix G (mg G x z) k))) ∧ Hid (Turn [] w wr2)) (fun t _ => n - (intOf t).toNat)
            case atStart => exact ⟨0, Nat.zero_le _, rfl, Lib.hid (by rw [hdL_congr (fun i _ => mix_zero G _ i)]; exact HO'.out), HT'⟩
            case round =>
              obtain ⟨k, hk, rfl, HO2, HT2⟩ := hrel
              by_cases hkn : k < n
              · have hck := own_cell HO2.out hkn
                have hfk := own_frozen HO2.out (k := k)
                rw [mix_at G (mg G x z) (Nat.le_refl k)] at hck
                by_cases hm : G k = r
                · rw [hm] at hck
                  have HM : Hid (hdL n (mix G (mg G x z) (k + 1)) = (hdL n (mix G (mg G x z) k)).set k (p : Int)) := Lib.hid (by
                    rw [mix_set hkn]
                    congr 1
                    unfold mg
                    rw [HMX.out, HMN.out, if_pos hm])
                  clear hm
                  go_wp2_with fail
                  go_roundw
                  case rel => exact ⟨k + 1, by omega, by go_num, Lib.hid (by rw [HM.out]; exact own_put HO2.out k _), Lib.hid (HT2.out.setCell (.inr hgB) _)⟩
                  case measure => simp [intOf]; omega
                · have d1 : ((G k : Int) == (r : Int)) = false := by simp; omega
                  have HM : Hid (hdL n (mix G (mg G x z) (k + 1)) = hdL n (mix G (mg G x z) k)) := Lib.hid (hdL_congr (fun j _ => by
                    unfold mix
                    by_cases e : j = k
                    · subst e
                      rw [if_pos (by omega), if_neg (by omega)]
                      unfold mg
                      rw [HMX.out, HMN.out, if_neg hm]
                    · by_cases e2 : j < k
                      · rw [if_pos (by omega), if_pos e2]
                      · rw [if_neg (by omega), if_neg e2]))
                  clear hm
                  go_wp2_with fail
                  go_roundw
                  case rel => exact ⟨k + 1, by omega, by go_num, Lib.hid (by rw [HM.out]; exact HO2.out), HT2⟩
                  case measure => simp [intOf]; omega
              · obtain rfl : k = n := by omega
                go_wp2_with fail
                go_roundw
                case rel => exact ⟨i + 1, by omega, by omega, by go_num, Lib.hid (by rw [HS.out, ← hdL_congr (fun j hj => mix_full G (mg G x z) hj)]; exact HO2.out), HT2⟩
                case measure => simp [intOf]; omega

        · go_wp2_with fail
          go_ret
          refine ⟨_, rfl, ?_, HT.out⟩
          rw [HJ.out]
          have := HG.out
          rw [List.take_of_length_le (by simp; omega)] at this
          rw [this]
          exact HO.out
  · have hf : l.all (inB n) = false := by simpa using hall
    rw [hf]
    rintro e w' ⟨rfl, rfl⟩
    have E0 : Hid (joinI n H l = H) := Lib.hid (by unfold joinI; rw [if_neg hall])
    clear hall hf
    go_wp2_with fail
    go_ret
    exact ⟨_, rfl, by rw [E0.out]; exact HO1.out, HT1.out⟩
end Go.Proofs.Ytjgabnphafkgoaa
