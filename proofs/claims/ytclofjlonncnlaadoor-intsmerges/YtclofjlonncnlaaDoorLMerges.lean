/- The walk of IntsMerges: whatever the two slices of ints, the law returns true and nothing that was there before is changed, if the table of math/bits lies in memory. -/
import Derived.Test.YtclofjlonncnlaaDoorLd
set_option linter.unusedSimpArgs false
set_option linter.unusedVariables false
namespace Go.Proofs.YtclofjlonncnlaaDoor
open Go.RowKit

set_option maxRecDepth 100000 in
set_option maxHeartbeats 4000000 in
theorem merges_law (A A' : Option Addr) (n c m d : Nat) (a t : List Int) (w : World) (h : Ints w A a) (hn : n = a.length) (hl : n ≤ 9223372036854775807) (h' : Ints w A' t) (hm : m = t.length) (hl' : m ≤ 9223372036854775807) (hT : Tab w) :
    Calls Tryd.prog 5 #[.slice A n c, .slice A' m d] w fun e w' => e = .returned (.bool true) ∧ Turn [] w w' := by
  have HN := Lib.hid hn
  have H := Lib.hid h
  have HN' := Lib.hid hm
  have H' := Lib.hid h'
  have HTab := Lib.hid hT
  have hpos := hT.pos
  clear hn h hT hm h'
  by_cases h60 : 60 < n
  · have hd : decide ((60 : Int) < (n : Int)) = true := by simp; omega
    go_enter Tryd.func5, Tryd.ntmps5
    go_wp2_with fail
    refine (awake_any _ HTab.out).mono ?_
    rintro e w1 ⟨rfl, ht1⟩
    have HT1 := Lib.hid ht1
    clear ht1
    go_wp2_with fail
    refine (awake_any _ (HTab.out.turn' HT1.out)).mono ?_
    rintro e w2 ⟨rfl, ht2⟩
    have HT2 := Lib.hid ht2
    clear ht2
    go_wp2_with fail
    go_ret
    exact ⟨rfl, HT1.out.trans' HT2.out⟩
  have hd : decide ((60 : Int) < (n : Int)) = false := by simp; omega
  by_cases h61 : 60 < m
  · have hd' : decide ((60 : Int) < (m : Int)) = true := by simp; omega
    go_enter Tryd.func5, Tryd.ntmps5
    go_wp2_with fail
    refine (awake_any _ HTab.out).mono ?_
    rintro e w1 ⟨rfl, ht1⟩
    have HT1 := Lib.hid ht1
    clear ht1
    go_wp2_with fail
    refine (awake_any _ (HTab.out.turn' HT1.out)).mono ?_
    rintro e w2 ⟨rfl, ht2⟩
    have HT2 := Lib.hid ht2
    clear ht2
    go_wp2_with fail
    go_ret
    exact ⟨rfl, HT1.out.trans' HT2.out⟩
  · have hd' : decide ((60 : Int) < (m : Int)) = false := by simp; omega
    obtain ⟨xs, HX⟩ : ∃ xs, Hid (ofL a = xs) := ⟨_, Lib.hid rfl⟩
    obtain ⟨ys, HY⟩ : ∃ ys, Hid (ofL t = ys) := ⟨_, Lib.hid rfl⟩
    obtain ⟨ms, HM⟩ : ∃ ms, Hid (minusL ys xs = ms) := ⟨_, Lib.hid rfl⟩
    obtain ⟨us, HU⟩ : ∃ us, Hid (unionL xs ys = us) := ⟨_, Lib.hid rfl⟩
    have hxl : xs.length ≤ 60 := by rw [← HX.out]; exact length_ofL_le (by have := HN.out; omega)
    have hyl : ys.length ≤ 60 := by rw [← HY.out]; exact length_ofL_le (by have := HN'.out; omega)
    have hml : ms.length ≤ ys.length := by rw [← HM.out]; exact length_minusL _ _
    have F1 : Hid (minusL ys us = []) := Lib.hid (by rw [← HU.out]; exact minusL_union _ _ (by rw [← HY.out]; exact okB_ofL))
    have F2 : Hid (unionL us ys = us) := Lib.hid (by rw [← HU.out]; exact unionL_again _ _)
    go_enter Tryd.func5, Tryd.ntmps5
    go_wp2_with fail
    refine (awake_any _ HTab.out).mono ?_
    rintro e w1 ⟨rfl, ht1⟩
    have HT1 := Lib.hid ht1
    clear ht1
    go_wp2_with fail
    -- s, t
    refine (of_any A n c a _ (H.out.below HT1.out) HN.out (by omega)).mono ?_
    rintro e w2 ⟨b2, v2, rs2, rfl, hs2, hn2, hb2, hv2, ht2⟩
    have i2 : w.heap.size ≤ b2 ∧ b2 < w2.heap.size := ⟨Nat.le_trans HT1.out.size hb2, hs2.lt⟩
    have I2 : Hid (∀ g, v2.ownBlock = some g → w.heap.size ≤ g ∧ g < w2.heap.size) := Lib.hid (fun g hg => ⟨Nat.le_trans HT1.out.size (hv2 g hg), (SetV.lt (.inr ⟨b2, rfl, hs2⟩)).2 g hg⟩)
    have HS2 := Lib.hid hs2
    have HN2 := Lib.hid (hn2.trans HX.out)
    have HT2 := Lib.hid (HT1.out.trans' ht2)
    clear hs2 hn2 ht2 hv2 hb2
    go_wp2_with fail
    refine (of_any A' m d t _ (H'.out.below HT2.out) HN'.out (by omega)).mono ?_
    rintro e w3 ⟨b3, v3, rs3, rfl, hs3, hn3, hb3, hv3, ht3⟩
    have i3 : w2.heap.size ≤ b3 ∧ b3 < w3.heap.size := ⟨hb3, hs3.lt⟩
    have I3 : Hid (∀ g, v3.ownBlock = some g → w2.heap.size ≤ g ∧ g < w3.heap.size) := Lib.hid (fun g hg => ⟨hv3 g hg, (SetV.lt (.inr ⟨b3, rfl, hs3⟩)).2 g hg⟩)
    have HT3 := Lib.hid (HT2.out.trans' ht3)
    have HS3 := Lib.hid (HS2.out.turn' ht3)
    have HR3 := Lib.hid hs3
    have HN3 := Lib.hid (hn3.trans HY.out)
    have z3 := ht3.size
    clear hs3 hn3 ht3 hv3 hb3 HS2
    go_wp2_with fail
    -- x, y
    refine (refOf_any A n c a _ (H.out.below HT3.out) HN.out (by omega)).mono ?_
    rintro e w4 ⟨vx, rfl, hox, ht4⟩
    rw [HX.out] at hox
    have HT4 := Lib.hid (HT3.out.trans' ht4)
    have HS4 := Lib.hid (HS3.out.turn' ht4)
    have HR4 := Lib.hid (HR3.out.turn' ht4)
    have HX4 := Lib.hid hox
    have z4 := ht4.size
    have IX : Hid (∀ g, vx.ownBlock = some g → w3.heap.size ≤ g ∧ g < w4.heap.size) := Lib.hid hox.lt
    clear hox ht4 HS3 HR3
    go_wp2_with fail
    refine (refOf_any A' m d t _ (H'.out.below HT4.out) HN'.out (by omega)).mono ?_
    rintro e w5 ⟨vy, rfl, hoy, ht5⟩
    rw [HY.out] at hoy
    have HT5 := Lib.hid (HT4.out.trans' ht5)
    have HS5 := Lib.hid (HS4.out.turn' ht5)
    have HR5 := Lib.hid (HR4.out.turn' ht5)
    have HX5 := Lib.hid (HX4.out.turn' ht5)
    have HY5 := Lib.hid hoy
    have z5 := ht5.size
    have IY : Hid (∀ g, vy.ownBlock = some g → w4.heap.size ≤ g ∧ g < w5.heap.size) := Lib.hid hoy.lt
    clear hoy ht5 HS4 HR4 HX4
    go_wp2_with fail
    -- u
    refine (union_any _ v2 rs2 _ v3 rs3 _ (.inr ⟨b2, rfl, HS5.out⟩) (.inr ⟨b3, rfl, HR5.out⟩)).mono ?_
    rintro e w6 ⟨b6, v6, rs6, rfl, hs6, hn6, hb6, hv6, ht6⟩
    have i6 : w5.heap.size ≤ b6 ∧ b6 < w6.heap.size := ⟨hb6, hs6.lt⟩
    have I6 : Hid (∀ g, v6.ownBlock = some g → w5.heap.size ≤ g ∧ g < w6.heap.size) := Lib.hid (fun g hg => ⟨hv6 g hg, (SetV.lt (.inr ⟨b6, rfl, hs6⟩)).2 g hg⟩)
    have HT6 := Lib.hid (HT5.out.trans' ht6)
    have HS6 := Lib.hid (HS5.out.turn' ht6)
    have HR6 := Lib.hid (HR5.out.turn' ht6)
    have HX6 := Lib.hid (HX5.out.turn' ht6)
    have HY6 := Lib.hid (HY5.out.turn' ht6)
    have HU6 := Lib.hid hs6
    have HN6 : Hid (nums rs6 = us) := Lib.hid (by rw [hn6, HN2.out, HN3.out, HU.out])
    have z6 := ht6.size
    clear hs6 hn6 ht6 hv6 hb6 HS5 HR5 HX5 HY5
    go_wp2_with fail
    -- s.Merge(t)
    refine (merge_any b2 v2 rs2 _ v3 rs3 _ HS6.out (.inr ⟨b3, rfl, HR6.out⟩) (HTab.out.turn' HT6.out) (by omega) (fun g hg => by have := I2.out g hg; omega)).mono ?_
    rintro e w7 ⟨vl, v7, rs7, rfl, hol, hs7, hn7, ht7, hm7⟩
    have HT7 := Lib.hid (HT6.out.trans ht7 (newIn i2.1 (fun k hk => (I2.out k hk).1)))
    have I7 : Hid (∀ g, v7.ownBlock = some g → (w.heap.size ≤ g ∧ g < w2.heap.size) ∨ w6.heap.size ≤ g) := Lib.hid (fun g hg => by
      rcases hm7 with e | ⟨k, e1, e2⟩
      · exact .inl (I2.out g (e ▸ hg))
      · rw [e1] at hg; injection hg with hg; exact .inr (hg ▸ e2))
    have HR7 := Lib.hid (HR6.out.turn ht7 (notIn (by omega) (fun k hk => by have := I2.out k hk; omega)) (fun g hg => by have := I3.out g hg; exact notIn (by omega) (fun k hk => by have := I2.out k hk; omega)))
    have HX7 := Lib.hid (HX6.out.turn ht7 (fun g hg => by have := IX.out g hg; exact notIn (by omega) (fun k hk => by have := I2.out k hk; omega)))
    have HY7 := Lib.hid (HY6.out.turn ht7 (fun g hg => by have := IY.out g hg; exact notIn (by omega) (fun k hk => by have := I2.out k hk; omega)))
    have HU7 := Lib.hid (HU6.out.turn ht7 (notIn (by omega) (fun k hk => by have := I2.out k hk; omega)) (fun g hg => by have := I6.out g hg; exact notIn (by omega) (fun k hk => by have := I2.out k hk; omega)))
    have HS7 := Lib.hid hs7
    have HN7 : Hid (nums rs7 = us) := Lib.hid (by rw [hn7, HN2.out, HN3.out, HU.out])
    rw [HN2.out, HN3.out, HM.out] at hol
    have HL7 := Lib.hid hol
    have z7 := ht7.size
    clear hol hs7 hn7 ht7 hm7 HR6 HX6 HY6 HU6 HS6
    go_wp2_with fail
    -- Minus(y, x), Same
    refine (ownMinus _ _ vy vx ys xs _ HY7.out HX7.out (by omega) (by omega)).mono ?_
    rintro e w8 ⟨vm, rfl, hom, ht8⟩
    rw [HM.out] at hom
    have HT8 := Lib.hid (HT7.out.trans' ht8)
    have HS8 := Lib.hid (HS7.out.turn' ht8)
    have HR8 := Lib.hid (HR7.out.turn' ht8)
    have HX8 := Lib.hid (HX7.out.turn' ht8)
    have HY8 := Lib.hid (HY7.out.turn' ht8)
    have HU8 := Lib.hid (HU7.out.turn' ht8)
    have HL8 := Lib.hid (HL7.out.turn' ht8)
    have HM8 := Lib.hid hom
    have z8 := ht8.size
    clear hom ht8 HS7 HR7 HX7 HY7 HU7 HL7
    go_wp2_with fail
    refine (ownSame _ _ vl vm ms ms _ HL8.out HM8.out (by omega) (by omega)).mono ?_
    rw [sameB_self]
    rintro e w9 ⟨rfl, ht9⟩
    have HT9 := Lib.hid (HT8.out.trans' ht9)
    have HS9 := Lib.hid (HS8.out.turn' ht9)
    have HR9 := Lib.hid (HR8.out.turn' ht9)
    have HX9 := Lib.hid (HX8.out.turn' ht9)
    have HY9 := Lib.hid (HY8.out.turn' ht9)
    have HU9 := Lib.hid (HU8.out.turn' ht9)
    have z9 := ht9.size
    clear ht9 HS8 HR8 HX8 HY8 HU8 HL8 HM8
    go_wp2_with fail
    -- s.Same(u)
    refine (sameL_any _ v7 rs7 _ v6 rs6 _ (.inr ⟨b2, rfl, HS9.out⟩) (.inr ⟨b6, rfl, HU9.out⟩)).mono ?_
    rw [HN7.out, HN6.out, sameB_self]
    rintro e w10 ⟨rfl, ht10⟩
    have HT10 := Lib.hid (HT9.out.trans' ht10)
    have HS10 := Lib.hid (HS9.out.turn' ht10)
    have HR10 := Lib.hid (HR9.out.turn' ht10)
    have HX10 := Lib.hid (HX9.out.turn' ht10)
    have HY10 := Lib.hid (HY9.out.turn' ht10)
    have z10 := ht10.size
    clear ht10 HS9 HR9 HX9 HY9 HU9
    go_wp2_with fail
    -- s.Merge(t), again
    refine (merge_any b2 v7 rs7 _ v3 rs3 _ HS10.out (.inr ⟨b3, rfl, HR10.out⟩) (HTab.out.turn' HT10.out) (by omega) (fun g hg => by have := I7.out g hg; omega)).mono ?_
    rintro e w11 ⟨vl', v11, rs11, rfl, hol, hs11, hn11, ht11, hm11⟩
    have HT11 := Lib.hid (HT10.out.trans ht11 (newIn i2.1 (fun k hk => by have := I7.out k hk; omega)))
    have I11 : Hid (∀ g, v11.ownBlock = some g → (w.heap.size ≤ g ∧ g < w2.heap.size) ∨ w6.heap.size ≤ g) := Lib.hid (fun g hg => by
      rcases hm11 with e | ⟨k, e1, e2⟩
      · exact I7.out g (e ▸ hg)
      · rw [e1] at hg; injection hg with hg; exact .inr (by omega))
    have HR11 := Lib.hid (HR10.out.turn ht11 (notIn (by omega) (fun k hk => by have := I7.out k hk; omega)) (fun g hg => by have := I3.out g hg; exact notIn (by omega) (fun k hk => by have := I7.out k hk; omega)))
    have HX11 := Lib.hid (HX10.out.turn ht11 (fun g hg => by have := IX.out g hg; exact notIn (by omega) (fun k hk => by have := I7.out k hk; omega)))
    have HY11 := Lib.hid (HY10.out.turn ht11 (fun g hg => by have := IY.out g hg; exact notIn (by omega) (fun k hk => by have := I7.out k hk; omega)))
    have HS11 := Lib.hid hs11
    have HN11 : Hid (nums rs11 = us) := Lib.hid (by rw [hn11, HN7.out, HN3.out, F2.out])
    rw [HN7.out, HN3.out, F1.out] at hol
    obtain ⟨Al, cl, hvl, _, _⟩ := hol.form
    subst hvl
    have z11 := ht11.size
    clear hol hs11 hn11 ht11 hm11 HR10 HX10 HY10 HS10
    go_wp2_with fail
    -- t.List, Same
    refine (list_any _ v3 rs3 _ (.inr ⟨b3, rfl, HR11.out⟩) (HTab.out.turn' HT11.out)).mono ?_
    rintro e w12 ⟨vL, rfl, hoL, ht12⟩
    rw [HN3.out] at hoL
    have HT12 := Lib.hid (HT11.out.trans' ht12)
    have HS12 := Lib.hid (HS11.out.turn' ht12)
    have HR12 := Lib.hid (HR11.out.turn' ht12)
    have HX12 := Lib.hid (HX11.out.turn' ht12)
    have HY12 := Lib.hid (HY11.out.turn' ht12)
    have HL12 := Lib.hid hoL
    have z12 := ht12.size
    clear hoL ht12 HS11 HR11 HX11 HY11
    go_wp2_with fail
    refine (ownSame _ _ vL vy ys ys _ HL12.out HY12.out (by omega) (by omega)).mono ?_
    rw [sameB_self]
    rintro e w13 ⟨rfl, ht13⟩
    have HT13 := Lib.hid (HT12.out.trans' ht13)
    have HS13 := Lib.hid (HS12.out.turn' ht13)
    have HR13 := Lib.hid (HR12.out.turn' ht13)
    have HX13 := Lib.hid (HX12.out.turn' ht13)
    have HY13 := Lib.hid (HY12.out.turn' ht13)
    have z13 := ht13.size
    clear ht13 HS12 HR12 HX12 HY12 HL12
    go_wp2_with fail
    -- t.Add(12345)
    refine (add_any b3 v3 rs3 12345 _ HR13.out).mono ?_
    rintro e w14 ⟨rfl, v14, rs14, hs14, hn14, ht14, hm14⟩
    have HT14 := Lib.hid (HT13.out.trans ht14 (newIn (by omega) (fun k hk => by have := I3.out k hk; omega)))
    have HS14 := Lib.hid (HS13.out.turn ht14 (notIn (by omega) (fun k hk => by have := I3.out k hk; omega)) (fun g hg => by have := I11.out g hg; exact notIn (by omega) (fun k hk => by have := I3.out k hk; omega)))
    have HX14 := Lib.hid (HX13.out.turn ht14 (fun g hg => by have := IX.out g hg; exact notIn (by omega) (fun k hk => by have := I3.out k hk; omega)))
    have HY14 := Lib.hid (HY13.out.turn ht14 (fun g hg => by have := IY.out g hg; exact notIn (by omega) (fun k hk => by have := I3.out k hk; omega)))
    have z14 := ht14.size
    clear hs14 hn14 ht14 hm14 HS13 HR13 HX13 HY13
    generalize (okB 12345 && !hasB (nums rs3) 12345) = bb
    go_wp2_with fail
    -- s.Has(12345)
    refine (hasL_any _ v11 rs11 12345 _ (.inr ⟨b2, rfl, HS14.out⟩)).mono ?_
    rw [HN11.out]
    rintro e w15 ⟨rfl, ht15⟩
    have HT15 := Lib.hid (HT14.out.trans' ht15)
    have HX15 := Lib.hid (HX14.out.turn' ht15)
    have HY15 := Lib.hid (HY14.out.turn' ht15)
    have z15 := ht15.size
    clear ht15 HS14 HX14 HY14
    obtain ⟨Ay, cy, hvy, hiy, _⟩ := HY15.out.form
    subst hvy
    have HIy := Lib.hid hiy
    clear hiy
    go_wp2_with (at_builtin; (refine wpList_appAll rfl (.tmp 66) (.tmp 67) rfl w15 w3.heap.size vx xs ys Ay ys.length cy rfl HX15.out rfl HIy.out rfl (by omega) (by omega) (by omega) ?_); intro v16 w16 hv16 ht16 hat16)
    have HT16 := Lib.hid (HT15.out.trans ht16 (newIn' (fun k hk => by have := IX.out k hk; omega)))
    have HV16 := Lib.hid hv16
    clear hv16 ht16 hat16
    go_wp2_with fail
    refine (ownOf _ v16 (xs ++ ys) _ HV16.out (by simp; omega)).mono ?_
    rintro e w17 ⟨v17, rfl, ho17, ht17⟩
    have HT17 := Lib.hid (HT16.out.trans' ht17)
    have HO17 : Hid (OwnI w17 w16.heap.size v17 us) := Lib.hid (by rw [← HU.out]; exact ho17)
    clear ho17 ht17
    have hul : us.length ≤ 120 := by
      rw [← HU.out]; exact length_ofL_le (by simp; omega)
    go_wp2_with fail
    refine (ownHas _ v17 us 12345 _ HO17.out (by omega)).mono ?_
    rintro e w' ⟨rfl, rfl⟩
    go_wp2_with fail
    go_ret
    refine ⟨ret_bool ?_, HT17.out⟩
    simp
end Go.Proofs.YtclofjlonncnlaaDoor
