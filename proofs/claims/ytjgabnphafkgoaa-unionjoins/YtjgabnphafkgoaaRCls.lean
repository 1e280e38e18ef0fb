/- The reference's Classes. -/
import Derived.Test.YtjgabnphafkgoaaRJoin
set_option linter.unusedSimpArgs false
set_option linter.unusedVariables false
namespace Go.Proofs.Ytjgabnphafkgoaa
open Go.RowKit Go.Maps

/-- The classes whose heads are below h. -/
def rcl (H : Nat → Nat) (n h : Nat) : List (List Int) := ((hds H h).map (cl H n)).map toI
theorem rcl_full (H : Nat → Nat) (n : Nat) : rcl H n n = clsI H n := rfl
theorem rcl_head {H : Nat → Nat} (n : Nat) {h : Nat} (hh : H h = h) : rcl H n (h + 1) = rcl H n h ++ [toI (cl H n h)] := by
  unfold rcl
  rw [hds_succ, if_pos hh, List.map_append, List.map_append]
  rfl
theorem rcl_other {H : Nat → Nat} (n : Nat) {h : Nat} (hh : H h ≠ h) : rcl H n (h + 1) = rcl H n h := by
  unfold rcl
  rw [hds_succ, if_neg hh, List.append_nil]
theorem rcl_length (H : Nat → Nat) (n h : Nat) : (rcl H n h).length ≤ h := by
  unfold rcl
  rw [List.length_map, List.length_map, hds_length]
  exact hc_le h H
theorem toI_hit {H : Nat → Nat} {k h : Nat} (e : H k = h) : toI (cl H (k + 1) h) = toI (cl H k h) ++ [(k : Int)] := by
  rw [cl_succ, if_pos e]
  unfold toI
  rw [List.map_append]
  rfl
theorem toI_miss {H : Nat → Nat} {k h : Nat} (e : H k ≠ h) : toI (cl H (k + 1) h) = toI (cl H k h) := by
  rw [cl_succ, if_neg e, List.append_nil]

set_option maxRecDepth 100000 in
set_option maxHeartbeats 2000000 in
theorem refClasses_any (A : Option Addr) (n c : Nat) (H : Nat → Nat) (w : World) (hA : Ints w A (hdL n H)) (hn : n ≤ 100000) :
    Calls Try.prog 15 #[.slice A n c] w fun e w' => ∃ v xs, e = .returned v ∧ OwnLL w' w.heap.size v (clsI H n) xs ∧ Turn [] w w' := by
  have HA := Lib.hid hA
  clear hA
  go_enter Try.func15, Try.ntmps15
  go_wp2_with fail
  go_loopw [3, 4] (fun t i wr => ∃ (h : Nat) (xs : List Value), h ≤ n ∧ i = .int .i64 (h : Int) ∧ Hid (OwnLL wr w.heap.size t (rcl H n h) xs) ∧ Hid (Turn [] w wr)) (fun _ i _ => n - (intOf i).toNat)
  case atStart => exact ⟨0, [], Nat.zero_le _, rfl, Lib.hid (OwnLL.nil _ _), Lib.hid (Turn.refl _ _)⟩
  case round =>
    obtain ⟨h, xs, hh, rfl, HO, HT⟩ := hrel
    have hs := HT.out.size
    by_cases hlt : h < n
    · obtain ⟨ga, oa, rfl, hga, hca⟩ := (HA.out.below HT.out) h _ (hdL_at H hlt)
      by_cases hhd : H h = h
      · rw [hhd] at hca
        have HR := Lib.hid (rcl_head n hhd)
        clear hhd
        obtain ⟨W0, hW0⟩ : ∃ W0, W0 = wr := ⟨_, rfl⟩
        subst hW0
        go_wp2_with fail
        go_loopw [5, 6] (fun t i wr => ∃ k : Nat, k ≤ n ∧ i = .int .i64 (k : Int) ∧ Hid (OwnI wr W0.heap.size t (toI (cl H k h))) ∧ Hid (Turn [] W0 wr)) (fun _ i _ => n - (intOf i).toNat)
        case atStart => exact ⟨0, Nat.zero_le _, rfl, Lib.hid (OwnI.nil _ _), Lib.hid (Turn.refl _ _)⟩
        case round =>
          obtain ⟨k, hk, rfl, HO2, HT2⟩ := hrel
          have hs2 := HT2.out.size
          have hcl := cl_length H k h
          by_cases hkn : k < n
          · obtain ⟨ga', oa', hA', _, hck⟩ := (HA.out.below (HT.out.trans' HT2.out)) k _ (hdL_at H hkn)
            obtain ⟨rfl, rfl⟩ : ga = ga' ∧ oa = oa' := by injection hA' with hA'; injection hA' with h1 h2; exact ⟨h1, h2⟩
            clear hA'
            by_cases hm : H k = h
            · rw [hm] at hck
              have HM := Lib.hid (toI_hit hm)
              clear hm
              go_wp2_with (at_builtin
                           refine wpList_app1 rfl (.tmp 31) (.tmp 33) rfl wr W0.heap.size u5 (toI (cl H k h)) (k : Int) 1 rfl HO2.out rfl (by omega) hs2 ?_
                           intro v1 w1 ho1 ht1 hb1
                           have HO3 := Lib.hid ho1
                           have HT3 := Lib.hid ht1
                           clear ho1 ht1 hb1)
              go_roundw
              case rel => exact ⟨k + 1, by omega, by go_num, Lib.hid (by rw [HM.out]; exact HO3.out), Lib.hid (HT2.out.trans HT3.out (fun g hg => .inr (OwnI.lt HO2.out g (by simpa using hg)).1))⟩
              case measure => simp [intOf]; omega
            · have d1 : ((H k : Int) == (h : Int)) = false := by simp; omega
              have HM := Lib.hid (toI_miss hm)
              clear hm
              go_wp2_with fail
              go_roundw
              case rel => exact ⟨k + 1, by omega, by go_num, Lib.hid (by rw [HM.out]; exact HO2.out), HT2⟩
              case measure => simp [intOf]; omega
          · obtain rfl : k = n := by omega
            obtain ⟨A5, c5, hu5, _, _⟩ := HO2.out.form
            subst hu5
            have HO4 := Lib.hid (HO.out.turn' HT2.out)
            have hrl := rcl_length H k h
            go_wp2_with (at_builtin
                         refine wpList_appRow rfl (.tmp 35) (.tmp 37) rfl wr w.heap.size u3 (rcl H k h) xs A5 c5 (toI (cl H k h)) 1 rfl HO4.out (HO2.out.mono hs) (fun g hg e => by
                           have h1 := OwnI.lt HO2.out g hg
                           have h2 := World.ownsRow.lt HO.out.row g e
                           omega) (fun j u' g hu' hg' hg => by
                           have h1 := OwnI.lt HO2.out g hg
                           have h2 := HO.out.lt hu' hg'
                           omega) rfl (by omega) (by omega) ?_
                         intro v1 w1 ho1 ht1 hb1
                         have HO5 := Lib.hid ho1
                         have HT5 := Lib.hid ht1
                         clear ho1 ht1 hb1)
            go_roundw
            case rel => exact ⟨h + 1, _, by omega, by go_num, Lib.hid (by rw [HR.out]; exact HO5.out), Lib.hid ((HT.out.trans' HT2.out).trans HT5.out (fun g hg => .inr (World.ownsRow.lt HO.out.row g (by simpa using hg)).1))⟩
            case measure => simp [intOf]; omega
      · have d1 : ((H h : Int) != (h : Int)) = true := by simp; omega
        have d2 : ((H h : Int) == (h : Int)) = false := by simp; omega
        have HR := Lib.hid (rcl_other n hhd)
        clear hhd
        go_wp2_with fail
        go_roundw
        case rel => exact ⟨h + 1, xs, by omega, by go_num, Lib.hid (by rw [HR.out]; exact HO.out), HT⟩
        case measure => simp [intOf]; omega
    · obtain rfl : h = n := by omega
      go_wp2_with fail
      go_ret
      exact ⟨_, xs, rfl, HO.out, HT.out⟩
end Go.Proofs.Ytjgabnphafkgoaa
