/- The walk of IntsNone. -/
import Derived.Test.YtclofjlonncnlaaDoorLc
set_option linter.unusedSimpArgs false
set_option linter.unusedVariables false
namespace Go.Proofs.YtclofjlonncnlaaDoor
open Go.RowKit

theorem nil_test (xs : List Int) : (decide (xs = []) == ((xs.length : Int) == 0)) = true := by
  cases xs with
  | nil => rfl
  | cons y t =>
    have h1 : decide (y :: t = []) = false := by simp
    have h2 : (((y :: t).length : Int) == 0) = false := by
      rw [beq_eq_false_iff_ne]
      simp only [List.length_cons]
      omega
    rw [h1, h2]
    rfl
set_option maxRecDepth 100000 in
set_option maxHeartbeats 4000000 in
theorem none_law (A : Option Addr) (n c : Nat) (a : List Int) (x : Int) (w : World) (h : Ints w A a) (hn : n = a.length) (hl : n ≤ 9223372036854775807) (hT : Tab w) :
    Calls Tryd.prog 6 #[.slice A n c, .int .i64 x] w fun e w' => e = .returned (.bool true) ∧ Turn [] w w' := by
  have HN := Lib.hid hn
  have H := Lib.hid h
  have HTab := Lib.hid hT
  have hpos := hT.pos
  clear hn h hT
  by_cases h60 : 60 < n
  · have hd : decide ((60 : Int) < (n : Int)) = true := by simp; omega
    go_enter Tryd.func6, Tryd.ntmps6
    go_wp2_with fail
    refine (awake_any _ HTab.out).mono ?_
    rintro e w1 ⟨rfl, ht1⟩
    have HT1 := Lib.hid ht1
    clear ht1
    go_wp2_with fail
    refine (awake_any _ (HTab.out.turn' HT1.out)).mono ?_
    rintro e w2 ⟨rfl, ht2⟩
    have HT2 := Lib.hid ht2
    clear ht2
    go_wp2_with fail
    go_ret
    exact ⟨rfl, HT1.out.trans' HT2.out⟩
  · have hd : decide ((60 : Int) < (n : Int)) = false := by simp; omega
    go_enter Tryd.func6, Tryd.ntmps6
    go_wp2_with fail
    refine (awake_any _ HTab.out).mono ?_
    rintro e w1 ⟨rfl, ht1⟩
    have HT1 := Lib.hid ht1
    clear ht1
    go_wp2_with fail
    refine (of_any A n c a _ (H.out.below HT1.out) HN.out (by omega)).mono ?_
    rintro e w2 ⟨b, v, rs, rfl, hs, hnu, hb, hv, ht2⟩
    have hbw : w.heap.size ≤ b := Nat.le_trans HT1.out.size hb
    have hvw : ∀ g, v.ownBlock = some g → w.heap.size ≤ g := fun g hg => Nat.le_trans HT1.out.size (hv g hg)
    have HS := Lib.hid hs
    have HNu := Lib.hid hnu
    have HV := Lib.hid hvw
    have HT2 := Lib.hid (HT1.out.trans' ht2)
    clear hs hnu hb hv ht2 hvw
    go_wp2_with fail
    refine (refOf_any A n c a _ (H.out.below HT2.out) HN.out (by omega)).mono ?_
    rintro e w3 ⟨vx, rfl, hox, ht3⟩
    obtain ⟨Ax, cx, hvx, hix, _⟩ := hox.form
    subst hvx
    have hlx : (ofL a).length ≤ 60 := length_ofL_le (by have := HN.out; omega)
    generalize hxx : ofL a = xs at *
    have HXX := Lib.hid hxx
    have HT3 := Lib.hid (HT2.out.trans' ht3)
    have HS3 := Lib.hid (HS.out.turn' ht3)
    clear hox hix ht3 hxx HS
    -- z.Add, z.Has, z.Len
    go_wp2_with fail
    refine (add_nil x _).mono ?_
    rintro e w' ⟨rfl, rfl⟩
    go_wp2_with fail
    refine (hasL_any _ _ [] x _ (nilSet _)).mono ?_
    rw [nums_nil, hasB_nil]
    rintro e w4 ⟨rfl, ht4⟩
    have HT4 := Lib.hid (HT3.out.trans' ht4)
    have HS4 := Lib.hid (HS3.out.turn' ht4)
    clear ht4 HS3 HT3
    go_wp2_with fail
    refine (lenL_any _ _ [] _ (nilSet _)).mono ?_
    rw [nums_nil]
    rintro e w' ⟨rfl, rfl⟩
    -- z.List
    go_wp2_with fail
    refine (list_any _ _ [] _ (nilSet _) (HTab.out.turn' HT4.out)).mono ?_
    rintro e w5 ⟨v5, rfl, ho5, ht5⟩
    rw [nums_nil] at ho5
    obtain ⟨A5, c5, hv5, _, _⟩ := ho5.form
    subst hv5
    have HT5 := Lib.hid (HT4.out.trans' ht5)
    have HS5 := Lib.hid (HS4.out.turn' ht5)
    clear ht5 HS4 HT4 ho5
    -- z.Merge(s)
    go_wp2_with fail
    refine (merge_nil _ _).mono ?_
    rintro e w' ⟨rfl, rfl⟩
    -- s.Merge(z)
    go_wp2_with fail
    refine (merge_any b v rs _ _ [] _ HS5.out (nilSet _) (HTab.out.turn' HT5.out) (by omega) (fun g hg => by have := HV.out g hg; omega)).mono ?_
    rintro e w6 ⟨vl, v6, rs6, rfl, hol, hs6, hn6, ht6, hm6⟩
    rw [nums_nil, minusL_nil_left] at hol
    obtain ⟨A6, c6, hv6, _, _⟩ := hol.form
    subst hv6
    have hn6' : nums rs6 = xs := by
      have e := HXX.out
      rw [hn6, nums_nil, HNu.out, ← e, unionL_nil_right]
    have hT6 : Turn [] w w6 := HT5.out.trans ht6 (fun g hg => by
      rcases List.mem_cons.1 hg with e | e
      · exact .inr (by omega)
      · exact .inr (HV.out g (by simpa using e)))
    have HT6 := Lib.hid hT6
    have HS6 := Lib.hid hs6
    have HN6 := Lib.hid hn6'
    clear hol hs6 hn6 ht6 hm6 hn6' hT6 HS5 HT5
    -- s.Union(z).Same(s)
    go_wp2_with fail
    refine (union_any _ v6 rs6 _ _ [] _ (.inr ⟨b, rfl, HS6.out⟩) (nilSet _)).mono ?_
    rintro e w7 ⟨b7, v7, rs7, rfl, hs7, hn7, _, _, ht7⟩
    have hn7' : nums rs7 = xs := by
      have e := HXX.out
      rw [hn7, nums_nil, HN6.out, ← e, unionL_nil_right]
    have HT7 := Lib.hid (HT6.out.trans' ht7)
    have HS7 := Lib.hid (HS6.out.turn' ht7)
    have HU7 := Lib.hid hs7
    have HN7 := Lib.hid hn7'
    clear hs7 hn7 ht7 hn7' HS6 HT6
    go_wp2_with fail
    refine (sameL_any _ v7 rs7 _ v6 rs6 _ (.inr ⟨b7, rfl, HU7.out⟩) (.inr ⟨b, rfl, HS7.out⟩)).mono ?_
    rw [HN7.out, HN6.out, sameB_self]
    rintro e w8 ⟨rfl, ht8⟩
    have HT8 := Lib.hid (HT7.out.trans' ht8)
    have HS8 := Lib.hid (HS7.out.turn' ht8)
    clear ht8 HS7 HT7
    -- z.Union(s).Same(s)
    go_wp2_with fail
    refine (union_any _ _ [] _ v6 rs6 _ (nilSet _) (.inr ⟨b, rfl, HS8.out⟩)).mono ?_
    rintro e w9 ⟨b9, v9, rs9, rfl, hs9, hn9, _, _, ht9⟩
    have hn9' : nums rs9 = xs := by
      have e := HXX.out
      rw [hn9, nums_nil, HN6.out, ← e, unionL_nil_left]
    have HT9 := Lib.hid (HT8.out.trans' ht9)
    have HS9 := Lib.hid (HS8.out.turn' ht9)
    have HU9 := Lib.hid hs9
    have HN9 := Lib.hid hn9'
    clear hs9 hn9 ht9 hn9' HS8 HT8
    go_wp2_with fail
    refine (sameL_any _ v9 rs9 _ v6 rs6 _ (.inr ⟨b9, rfl, HU9.out⟩) (.inr ⟨b, rfl, HS9.out⟩)).mono ?_
    rw [HN9.out, HN6.out, sameB_self]
    rintro e w10 ⟨rfl, ht10⟩
    have HT10 := Lib.hid (HT9.out.trans' ht10)
    have HS10 := Lib.hid (HS9.out.turn' ht10)
    clear ht10 HS9 HT9
    -- s.Minus(z).Same(s)
    go_wp2_with fail
    refine (minusL_any _ v6 rs6 _ _ [] _ (.inr ⟨b, rfl, HS10.out⟩) (nilSet _)).mono ?_
    rintro e w11 ⟨b11, v11, rs11, rfl, hs11, hn11, _, _, ht11⟩
    rw [nums_nil, minusL_nil_right, HN6.out] at hn11
    have HT11 := Lib.hid (HT10.out.trans' ht11)
    have HS11 := Lib.hid (HS10.out.turn' ht11)
    have HU11 := Lib.hid hs11
    have HN11 := Lib.hid hn11
    clear hs11 hn11 ht11 HS10 HT10
    go_wp2_with fail
    refine (sameL_any _ v11 rs11 _ v6 rs6 _ (.inr ⟨b11, rfl, HU11.out⟩) (.inr ⟨b, rfl, HS11.out⟩)).mono ?_
    rw [HN11.out, HN6.out, sameB_self]
    rintro e w12 ⟨rfl, ht12⟩
    have HT12 := Lib.hid (HT11.out.trans' ht12)
    have HS12 := Lib.hid (HS11.out.turn' ht12)
    clear ht12 HS11 HT11
    -- z.Minus(s).Len
    go_wp2_with fail
    refine (minusL_any _ _ [] _ v6 rs6 _ (nilSet _) (.inr ⟨b, rfl, HS12.out⟩)).mono ?_
    rintro e w13 ⟨b13, v13, rs13, rfl, hs13, hn13, _, _, ht13⟩
    rw [nums_nil, minusL_nil_left] at hn13
    have HT13 := Lib.hid (HT12.out.trans' ht13)
    have HS13 := Lib.hid (HS12.out.turn' ht13)
    have HU13 := Lib.hid hs13
    have HN13 := Lib.hid hn13
    clear hs13 hn13 ht13 HS12 HT12
    go_wp2_with fail
    refine (lenL_any _ v13 rs13 _ (.inr ⟨b13, rfl, HU13.out⟩)).mono ?_
    rw [HN13.out]
    rintro e w' ⟨rfl, rfl⟩
    -- z.Meets(s), s.Meets(z)
    go_wp2_with fail
    refine (meetsL_any _ _ [] _ v6 rs6 _ (nilSet _) (.inr ⟨b, rfl, HS13.out⟩)).mono ?_
    rw [nums_nil, meetL_nil_left]
    rintro e w14 ⟨rfl, ht14⟩
    have HT14 := Lib.hid (HT13.out.trans' ht14)
    have HS14 := Lib.hid (HS13.out.turn' ht14)
    clear ht14 HS13 HT13
    go_wp2_with fail
    refine (meetsL_any _ v6 rs6 _ _ [] _ (.inr ⟨b, rfl, HS14.out⟩) (nilSet _)).mono ?_
    rw [nums_nil, meetL_nil_right]
    rintro e w15 ⟨rfl, ht15⟩
    have HT15 := Lib.hid (HT14.out.trans' ht15)
    have HS15 := Lib.hid (HS14.out.turn' ht15)
    clear ht15 HS14 HT14
    -- z.Same(s)
    go_wp2_with fail
    refine (sameL_any _ _ [] _ v6 rs6 _ (nilSet _) (.inr ⟨b, rfl, HS15.out⟩)).mono ?_
    rw [nums_nil, HN6.out, sameB_nil]
    rintro e w16 ⟨rfl, ht16⟩
    have HT16 := Lib.hid (HT15.out.trans' ht16)
    clear ht16 HS15 HT15
    go_wp2_with fail
    go_ret
    refine ⟨ret_bool ?_, HT16.out⟩
    exact nil_test xs
end Go.Proofs.YtclofjlonncnlaaDoor
