/- The walk of IntsParts: whatever the two slices of ints, the law returns true and nothing that was there before is changed, if the table of math/bits lies in memory. -/
import Derived.Test.YtclofjlonncnlaaDoorLc
set_option linter.unusedSimpArgs false
set_option linter.unusedVariables false
namespace Go.Proofs.YtclofjlonncnlaaDoor
open Go.RowKit

theorem meetL_minus (x y : List Int) : meetL (minusL x y) y = false := by
  unfold meetL
  rw [decide_eq_false_iff_not, minusL_lt]
  rintro ⟨z, hz, hz'⟩
  exact ((mem_minusL x y z).1 hz).2 hz'
theorem unionL_minus (x y : List Int) : unionL (minusL x y) y = unionL x y := by
  unfold unionL
  refine sd_ext (sd_ofL _) (sd_ofL _) (fun z => ?_)
  rw [mem_ofL, mem_ofL, List.mem_append, List.mem_append, mem_minusL]
  by_cases hz : z ∈ y <;> simp [hz]
theorem length_unionL (a b : List Int) : (unionL (ofL a) (ofL b)).length = (minusL (ofL a) (ofL b)).length + (ofL b).length := by
  refine length_parts (sd_ofL _) (sd_filter (sd_ofL _) _) (sd_ofL _) (fun z hz => ((mem_minusL _ _ z).1 hz).2) (fun z => ?_)
  unfold unionL
  rw [mem_ofL, List.mem_append, mem_minusL]
  constructor
  · rintro ⟨h1 | h1, h2⟩
    · by_cases hz : z ∈ ofL b
      · exact .inr hz
      · exact .inl ⟨h1, hz⟩
    · exact .inr h1
  · rintro (⟨h1, h2⟩ | h1)
    · exact ⟨.inl h1, ((mem_ofL _ _).1 h1).2⟩
    · exact ⟨.inr h1, ((mem_ofL _ _).1 h1).2⟩
theorem length_minusL (x y : List Int) : (minusL x y).length ≤ x.length := List.length_filter_le _ _
theorem meetL_eq (x y : List Int) : meetL x y = decide (((minusL x y).length : Int) < (x.length : Int)) := by
  unfold meetL
  rw [decide_eq_decide]
  omega

set_option maxRecDepth 100000 in
set_option maxHeartbeats 4000000 in
theorem parts_law (A A' : Option Addr) (n c m d : Nat) (a t : List Int) (w : World) (h : Ints w A a) (hn : n = a.length) (hl : n ≤ 9223372036854775807) (h' : Ints w A' t) (hm : m = t.length) (hl' : m ≤ 9223372036854775807) (hT : Tab w) :
    Calls Tryd.prog 7 #[.slice A n c, .slice A' m d] w fun e w' => e = .returned (.bool true) ∧ Turn [] w w' := by
  have HN := Lib.hid hn
  have H := Lib.hid h
  have HN' := Lib.hid hm
  have H' := Lib.hid h'
  have HTab := Lib.hid hT
  have hpos := hT.pos
  clear hn h hT hm h'
  by_cases h60 : 60 < n
  · have hd : decide ((60 : Int) < (n : Int)) = true := by simp; omega
    go_enter Tryd.func7, Tryd.ntmps7
    go_wp2_with fail
    refine (awake_any _ HTab.out).mono ?_
    rintro e w1 ⟨rfl, ht1⟩
    have HT1 := Lib.hid ht1
    clear ht1
    go_wp2_with fail
    refine (awake_any _ (HTab.out.turn' HT1.out)).mono ?_
    rintro e w2 ⟨rfl, ht2⟩
    have HT2 := Lib.hid ht2
    clear ht2
    go_wp2_with fail
    go_ret
    exact ⟨rfl, HT1.out.trans' HT2.out⟩
  have hd : decide ((60 : Int) < (n : Int)) = false := by simp; omega
  by_cases h61 : 60 < m
  · have hd' : decide ((60 : Int) < (m : Int)) = true := by simp; omega
    go_enter Tryd.func7, Tryd.ntmps7
    go_wp2_with fail
    refine (awake_any _ HTab.out).mono ?_
    rintro e w1 ⟨rfl, ht1⟩
    have HT1 := Lib.hid ht1
    clear ht1
    go_wp2_with fail
    refine (awake_any _ (HTab.out.turn' HT1.out)).mono ?_
    rintro e w2 ⟨rfl, ht2⟩
    have HT2 := Lib.hid ht2
    clear ht2
    go_wp2_with fail
    go_ret
    exact ⟨rfl, HT1.out.trans' HT2.out⟩
  · have hd' : decide ((60 : Int) < (m : Int)) = false := by simp; omega
    obtain ⟨xs, HX⟩ : ∃ xs, Hid (ofL a = xs) := ⟨_, Lib.hid rfl⟩
    obtain ⟨ys, HY⟩ : ∃ ys, Hid (ofL t = ys) := ⟨_, Lib.hid rfl⟩
    obtain ⟨ms, HM⟩ : ∃ ms, Hid (minusL xs ys = ms) := ⟨_, Lib.hid rfl⟩
    obtain ⟨us, HU⟩ : ∃ us, Hid (unionL xs ys = us) := ⟨_, Lib.hid rfl⟩
    have hxl : xs.length ≤ 60 := by rw [← HX.out]; exact length_ofL_le (by have := HN.out; omega)
    have hyl : ys.length ≤ 60 := by rw [← HY.out]; exact length_ofL_le (by have := HN'.out; omega)
    have hml : ms.length ≤ xs.length := by rw [← HM.out]; exact length_minusL _ _
    have hul : us.length = ms.length + ys.length := by
      rw [← HM.out, ← HU.out, ← HX.out, ← HY.out]; exact length_unionL _ _
    have F1 : Hid (meetL ms ys = false) := Lib.hid (by rw [← HM.out]; exact meetL_minus _ _)
    have F2 : Hid (unionL ms ys = us) := Lib.hid (by rw [← HM.out, ← HU.out]; exact unionL_minus _ _)
    have F3 : Hid (meetL xs ys = decide ((ms.length : Int) < (xs.length : Int))) := Lib.hid (by rw [← HM.out]; exact meetL_eq _ _)
    have HUL := Lib.hid hul
    have hu120 : us.length ≤ 120 := by omega
    clear hul
    go_enter Tryd.func7, Tryd.ntmps7
    go_wp2_with fail
    refine (awake_any _ HTab.out).mono ?_
    rintro e w1 ⟨rfl, ht1⟩
    have HT1 := Lib.hid ht1
    clear ht1
    go_wp2_with fail
    refine (of_any A n c a _ (H.out.below HT1.out) HN.out (by omega)).mono ?_
    rintro e w2 ⟨b2, v2, rs2, rfl, hs2, hn2, hb2, hv2, ht2⟩
    have HS2 := Lib.hid hs2
    have HN2 := Lib.hid (hn2.trans HX.out)
    have HT2 := Lib.hid (HT1.out.trans' ht2)
    clear hs2 hn2 ht2 hv2 hb2
    go_wp2_with fail
    refine (of_any A' m d t _ (H'.out.below HT2.out) HN'.out (by omega)).mono ?_
    rintro e w3 ⟨b3, v3, rs3, rfl, hs3, hn3, hb3, hv3, ht3⟩
    have HT3 := Lib.hid (HT2.out.trans' ht3)
    have HS3 := Lib.hid (HS2.out.turn' ht3)
    have HR3 := Lib.hid hs3
    have HN3 := Lib.hid (hn3.trans HY.out)
    clear hs3 hn3 ht3 hv3 hb3 HS2
    go_wp2_with fail
    refine (minusL_any _ v2 rs2 _ v3 rs3 _ (.inr ⟨b2, rfl, HS3.out⟩) (.inr ⟨b3, rfl, HR3.out⟩)).mono ?_
    rintro e w4 ⟨b4, v4, rs4, rfl, hs4, hn4, _, _, ht4⟩
    have HT4 := Lib.hid (HT3.out.trans' ht4)
    have HS4 := Lib.hid (HS3.out.turn' ht4)
    have HR4 := Lib.hid (HR3.out.turn' ht4)
    have HM4 := Lib.hid hs4
    have HN4 : Hid (nums rs4 = ms) := Lib.hid (by rw [hn4, HN2.out, HN3.out, HM.out])
    clear hs4 hn4 ht4 HS3 HR3
    go_wp2_with fail
    -- m.Meets(t)
    refine (meetsL_any _ v4 rs4 _ v3 rs3 _ (.inr ⟨b4, rfl, HM4.out⟩) (.inr ⟨b3, rfl, HR4.out⟩)).mono ?_
    rw [HN4.out, HN3.out, F1.out]
    rintro e w5 ⟨rfl, ht5⟩
    have HT5 := Lib.hid (HT4.out.trans' ht5)
    have HS5 := Lib.hid (HS4.out.turn' ht5)
    have HR5 := Lib.hid (HR4.out.turn' ht5)
    have HM5 := Lib.hid (HM4.out.turn' ht5)
    clear ht5 HS4 HR4 HM4
    go_wp2_with fail
    -- m.Union(t)
    refine (union_any _ v4 rs4 _ v3 rs3 _ (.inr ⟨b4, rfl, HM5.out⟩) (.inr ⟨b3, rfl, HR5.out⟩)).mono ?_
    rintro e w6 ⟨b6, v6, rs6, rfl, hs6, hn6, _, _, ht6⟩
    have HT6 := Lib.hid (HT5.out.trans' ht6)
    have HS6 := Lib.hid (HS5.out.turn' ht6)
    have HR6 := Lib.hid (HR5.out.turn' ht6)
    have HM6 := Lib.hid (HM5.out.turn' ht6)
    have HU6 := Lib.hid hs6
    have HN6 : Hid (nums rs6 = us) := Lib.hid (by rw [hn6, HN4.out, HN3.out, F2.out])
    clear hs6 hn6 ht6 HS5 HR5 HM5
    go_wp2_with fail
    -- s.Union(t)
    refine (union_any _ v2 rs2 _ v3 rs3 _ (.inr ⟨b2, rfl, HS6.out⟩) (.inr ⟨b3, rfl, HR6.out⟩)).mono ?_
    rintro e w7 ⟨b7, v7, rs7, rfl, hs7, hn7, _, _, ht7⟩
    have HT7 := Lib.hid (HT6.out.trans' ht7)
    have HS7 := Lib.hid (HS6.out.turn' ht7)
    have HR7 := Lib.hid (HR6.out.turn' ht7)
    have HM7 := Lib.hid (HM6.out.turn' ht7)
    have HU7 := Lib.hid (HU6.out.turn' ht7)
    have HV7 := Lib.hid hs7
    have HN7 : Hid (nums rs7 = us) := Lib.hid (by rw [hn7, HN2.out, HN3.out, HU.out])
    clear hs7 hn7 ht7 HS6 HR6 HM6 HU6
    go_wp2_with fail
    refine (sameL_any _ v6 rs6 _ v7 rs7 _ (.inr ⟨b6, rfl, HU7.out⟩) (.inr ⟨b7, rfl, HV7.out⟩)).mono ?_
    rw [HN6.out, HN7.out, sameB_self]
    rintro e w8 ⟨rfl, ht8⟩
    have HT8 := Lib.hid (HT7.out.trans' ht8)
    have HS8 := Lib.hid (HS7.out.turn' ht8)
    have HR8 := Lib.hid (HR7.out.turn' ht8)
    have HM8 := Lib.hid (HM7.out.turn' ht8)
    clear ht8 HS7 HR7 HM7
    go_wp2_with fail
    -- m.Len() + t.Len() == s.Union(t).Len()
    refine (lenL_any _ v4 rs4 _ (.inr ⟨b4, rfl, HM8.out⟩)).mono ?_
    rw [HN4.out]
    rintro e w' ⟨rfl, rfl⟩
    go_wp2_with fail
    refine (lenL_any _ v3 rs3 _ (.inr ⟨b3, rfl, HR8.out⟩)).mono ?_
    rw [HN3.out]
    rintro e w' ⟨rfl, rfl⟩
    go_wp2_with fail
    refine (union_any _ v2 rs2 _ v3 rs3 _ (.inr ⟨b2, rfl, HS8.out⟩) (.inr ⟨b3, rfl, HR8.out⟩)).mono ?_
    rintro e w9 ⟨b9, v9, rs9, rfl, hs9, hn9, _, _, ht9⟩
    have HT9 := Lib.hid (HT8.out.trans' ht9)
    have HS9 := Lib.hid (HS8.out.turn' ht9)
    have HR9 := Lib.hid (HR8.out.turn' ht9)
    have HM9 := Lib.hid (HM8.out.turn' ht9)
    have HV9 := Lib.hid hs9
    have HN9 : Hid (nums rs9 = us) := Lib.hid (by rw [hn9, HN2.out, HN3.out, HU.out])
    clear hs9 hn9 ht9 HS8 HR8 HM8
    go_wp2_with fail
    refine (lenL_any _ v9 rs9 _ (.inr ⟨b9, rfl, HV9.out⟩)).mono ?_
    rw [HN9.out, HUL.out, Int.natCast_add]
    rintro e w' ⟨rfl, rfl⟩
    go_wp2_with fail
    -- s.Meets(t) == (m.Len() < s.Len())
    refine (meetsL_any _ v2 rs2 _ v3 rs3 _ (.inr ⟨b2, rfl, HS9.out⟩) (.inr ⟨b3, rfl, HR9.out⟩)).mono ?_
    rw [HN2.out, HN3.out, F3.out]
    rintro e w10 ⟨rfl, ht10⟩
    have HT10 := Lib.hid (HT9.out.trans' ht10)
    have HS10 := Lib.hid (HS9.out.turn' ht10)
    have HM10 := Lib.hid (HM9.out.turn' ht10)
    clear ht10 HS9 HM9
    go_wp2_with fail
    refine (lenL_any _ v4 rs4 _ (.inr ⟨b4, rfl, HM10.out⟩)).mono ?_
    rw [HN4.out]
    rintro e w' ⟨rfl, rfl⟩
    go_wp2_with fail
    refine (lenL_any _ v2 rs2 _ (.inr ⟨b2, rfl, HS10.out⟩)).mono ?_
    rw [HN2.out]
    rintro e w' ⟨rfl, rfl⟩
    go_wp2_with fail
    go_ret
    refine ⟨ret_bool ?_, HT10.out⟩
    simp
end Go.Proofs.YtclofjlonncnlaaDoor
