/- The walk of IntsPairs: whatever the two slices of ints, the law returns true and nothing that was there before is changed, if the table of math/bits lies in memory. -/
import Derived.Test.YtclofjlonncnlaaDoorLd
set_option linter.unusedSimpArgs false
set_option linter.unusedVariables false
namespace Go.Proofs.YtclofjlonncnlaaDoor
open Go.RowKit

/-- append of a whole slice of ints (nil let in) onto a slice of the program's own, where the operation is guarded and wanted. -/
theorem wpList_appAllG {ops : Array Oper} {rest : List Oper} {o : Oper} {a : Act} {Q : Exit → Act → World → Prop} (hw : Region.wanted o (yielded ops a.tmps) = true) (s x : Operand)
    (ho : o.op = .call { callee := .builtin .append, args := #[s, x], argTypes := #[22, 22] })
    (W : World) (B : Nat) (v : Value) (l t : List Int) (A : Option Addr) (m c : Nat) (hs : a.eval s = v) (hown : OwnI W B v l) (hx : a.eval x = .slice A m c) (hr : Ints W A t) (hm : m = t.length)
    (hl : l.length ≤ 1000000) (ht : t.length ≤ 1000000) (hB : B ≤ W.heap.size)
    (h : ∀ v' w', OwnI w' B v' (l ++ t) → Turn v.ownBlock.toList W w' → wpList Tryd.prog ops Q rest (a.put o.dst v') w') :
    wpList Tryd.prog ops Q (o :: rest) a W := by
  subst hm
  obtain ⟨i0, hi0, hz0, hz1, hz2⟩ := info_parts int_info
  refine wpList_step fun K hK => ?_
  rw [if_pos hw]
  by_cases h0 : t = [] ∧ A = none
  · obtain ⟨rfl, rfl⟩ := h0
    have hrun := run_append_off_nil (P := Tryd.prog) W B 22 o.type 3 i0 1 Tryd.underlying22 hi0 v l.length _ hown c
    unfold Oper.wp execOp
    simp only [ho, resolve, invoke, builtin, Sem.run_bind, Sem.run_pure, Result.andThen_ok, List.map_toArray, List.map_cons, List.map_nil, hs, hx, List.length_nil, hrun]
    exact hK _ _ (h v W (by simpa using hown) (Turn.refl _ _))
  · have hA : ∃ ad, A = some ad ∧ ∀ k y, t[k]? = some y → W.cell? (ad.add k) = some (.int .i64 y) := by
      rcases A with _ | ad
      · rcases t with _ | ⟨y, t⟩
        · exact absurd ⟨rfl, rfl⟩ h0
        · obtain ⟨b, off, e, _⟩ := hr 0 y rfl
          cases e
      · refine ⟨ad, rfl, fun k y hy => ?_⟩
        obtain ⟨b, off, e, _, hc⟩ := hr k y hy
        injection e with e
        subst e
        rw [Addr.add_lit]
        exact hc
    obtain ⟨ad, rfl, hcell⟩ := hA
    obtain ⟨v', w', hrun, h1, h2, _, _⟩ := run_append_own_at (P := Tryd.prog) W B 22 o.type 3 i0 _ 1 8 Tryd.underlying22 hi0 hz0 hz1 hz2 rfl (by omega) v l.length (l.map (Value.int .i64))
      hown ad t.length c (t.map (Value.int .i64)) (by simp) (fun j u hj => by
        rw [List.getElem?_map] at hj
        cases hy : t[j]? with
        | none => rw [hy] at hj; cases hj
        | some y =>
          rw [hy] at hj
          injection hj with hj
          subst hj
          exact hcell j y hy) (fun u hu => by
        obtain ⟨y, _, rfl⟩ := List.mem_map.1 hu
        rfl) (by simp only [maxLen]; omega) (by omega) hB
    unfold Oper.wp execOp
    simp only [ho, resolve, invoke, builtin, Sem.run_bind, Sem.run_pure, Result.andThen_ok, List.map_toArray, List.map_cons, List.map_nil, hs, hx, hrun]
    refine hK _ _ (h v' w' ?_ ((Turn.refl _ W).grown h2 (fun k hk => .inl (by simp [hk]))))
    unfold OwnI
    rw [List.length_append, List.map_append]
    exact h1
theorem OwnI.ints {w : World} {B n c : Nat} {A : Option Addr} {l : List Int} (h : OwnI w B (.slice A n c) l) : Ints w A l := by
  obtain ⟨A', c', e, hi, _⟩ := h.form
  injection e with e1 e2 e3
  subst e1
  exact hi
/-- A slice literal without elements. -/
theorem OwnI.blank (w : World) (B : Nat) (hB : B ≤ w.heap.size) : OwnI (w.alloc (.cells #[] 3)) B (.slice (some ⟨w.heap.size, 0, none⟩) 0 0) [] :=
  ⟨by simp, .inr ⟨w.heap.size, 0, #[], rfl, hB, heap_alloc_new w _, by simp, by simp [maxLen], by simp, by simp⟩⟩

set_option maxRecDepth 100000 in
set_option maxHeartbeats 4000000 in
theorem pairs_law (A A' : Option Addr) (n c m d : Nat) (a t : List Int) (w : World) (h : Ints w A a) (hn : n = a.length) (hl : n ≤ 9223372036854775807) (h' : Ints w A' t) (hm : m = t.length) (hl' : m ≤ 9223372036854775807) (hT : Tab w) :
    Calls Tryd.prog 4 #[.slice A n c, .slice A' m d] w fun e w' => e = .returned (.bool true) ∧ Turn [] w w' := by
  have HN := Lib.hid hn
  have H := Lib.hid h
  have HN' := Lib.hid hm
  have H' := Lib.hid h'
  have HTab := Lib.hid hT
  have hpos := hT.pos
  clear hn h hT hm h'
  by_cases h60 : 60 < n
  · have hd : decide ((60 : Int) < (n : Int)) = true := by simp; omega
    go_enter Tryd.func4, Tryd.ntmps4
    go_wp2_with fail
    refine (awake_any _ HTab.out).mono ?_
    rintro e w1 ⟨rfl, ht1⟩
    have HT1 := Lib.hid ht1
    clear ht1
    go_wp2_with fail
    refine (awake_any _ (HTab.out.turn' HT1.out)).mono ?_
    rintro e w2 ⟨rfl, ht2⟩
    have HT2 := Lib.hid ht2
    clear ht2
    go_wp2_with fail
    go_ret
    exact ⟨rfl, HT1.out.trans' HT2.out⟩
  have hd : decide ((60 : Int) < (n : Int)) = false := by simp; omega
  by_cases h61 : 60 < m
  · have hd' : decide ((60 : Int) < (m : Int)) = true := by simp; omega
    go_enter Tryd.func4, Tryd.ntmps4
    go_wp2_with fail
    refine (awake_any _ HTab.out).mono ?_
    rintro e w1 ⟨rfl, ht1⟩
    have HT1 := Lib.hid ht1
    clear ht1
    go_wp2_with fail
    refine (awake_any _ (HTab.out.turn' HT1.out)).mono ?_
    rintro e w2 ⟨rfl, ht2⟩
    have HT2 := Lib.hid ht2
    clear ht2
    go_wp2_with fail
    go_ret
    exact ⟨rfl, HT1.out.trans' HT2.out⟩
  · have hd' : decide ((60 : Int) < (m : Int)) = false := by simp; omega
    obtain ⟨xs, HX⟩ : ∃ xs, Hid (ofL a = xs) := ⟨_, Lib.hid rfl⟩
    obtain ⟨ys, HY⟩ : ∃ ys, Hid (ofL t = ys) := ⟨_, Lib.hid rfl⟩
    obtain ⟨ms, HM⟩ : ∃ ms, Hid (minusL xs ys = ms) := ⟨_, Lib.hid rfl⟩
    obtain ⟨us, HU⟩ : ∃ us, Hid (unionL xs ys = us) := ⟨_, Lib.hid rfl⟩
    have hxl : xs.length ≤ 60 := by rw [← HX.out]; exact length_ofL_le (by have := HN.out; omega)
    have hyl : ys.length ≤ 60 := by rw [← HY.out]; exact length_ofL_le (by have := HN'.out; omega)
    have hml : ms.length ≤ xs.length := by rw [← HM.out]; exact length_minusL _ _
    have hul : us.length ≤ 120 := by
      rw [← HU.out]; exact length_ofL_le (by simp; omega)
    have F3 : Hid (meetL xs ys = decide ((ms.length : Int) < (xs.length : Int))) := Lib.hid (by rw [← HM.out]; exact meetL_eq _ _)
    go_enter Tryd.func4, Tryd.ntmps4
    go_wp2_with fail
    refine (awake_any _ HTab.out).mono ?_
    rintro e w1 ⟨rfl, ht1⟩
    have HT1 := Lib.hid ht1
    clear ht1
    go_wp2_with fail
    -- s, t
    refine (of_any A n c a _ (H.out.below HT1.out) HN.out (by omega)).mono ?_
    rintro e w2 ⟨b2, v2, rs2, rfl, hs2, hn2, hb2, hv2, ht2⟩
    have HS2 := Lib.hid hs2
    have HN2 := Lib.hid (hn2.trans HX.out)
    have HT2 := Lib.hid (HT1.out.trans' ht2)
    clear hs2 hn2 ht2 hv2 hb2
    go_wp2_with fail
    refine (of_any A' m d t _ (H'.out.below HT2.out) HN'.out (by omega)).mono ?_
    rintro e w3 ⟨b3, v3, rs3, rfl, hs3, hn3, hb3, hv3, ht3⟩
    have HT3 := Lib.hid (HT2.out.trans' ht3)
    have HS3 := Lib.hid (HS2.out.turn' ht3)
    have HR3 := Lib.hid hs3
    have HN3 := Lib.hid (hn3.trans HY.out)
    have z3 := ht3.size
    clear hs3 hn3 ht3 hv3 hb3 HS2
    go_wp2_with fail
    -- x, y
    refine (refOf_any A n c a _ (H.out.below HT3.out) HN.out (by omega)).mono ?_
    rintro e w4 ⟨vx, rfl, hox, ht4⟩
    rw [HX.out] at hox
    obtain ⟨Ax, cx, hvx, _, _⟩ := hox.form
    subst hvx
    have HT4 := Lib.hid (HT3.out.trans' ht4)
    have HS4 := Lib.hid (HS3.out.turn' ht4)
    have HR4 := Lib.hid (HR3.out.turn' ht4)
    have HX4 := Lib.hid hox
    have z4 := ht4.size
    clear hox ht4 HS3 HR3
    go_wp2_with fail
    refine (refOf_any A' m d t _ (H'.out.below HT4.out) HN'.out (by omega)).mono ?_
    rintro e w5 ⟨vy, rfl, hoy, ht5⟩
    rw [HY.out] at hoy
    obtain ⟨Ay, cy, hvy, _, _⟩ := hoy.form
    subst hvy
    have HT5 := Lib.hid (HT4.out.trans' ht5)
    have hs5 := HS4.out.turn' ht5
    have hr5 := HR4.out.turn' ht5
    have hx5 := HX4.out.turn' ht5
    have z5 := ht5.size
    have z05 := HT5.out.size
    have i2 : b2 < w5.heap.size := hs5.lt
    have I2 : Hid (∀ g, v2.ownBlock = some g → g < w5.heap.size) := Lib.hid (SetV.lt (.inr ⟨b2, rfl, hs5⟩)).2
    have i3 : b3 < w5.heap.size := hr5.lt
    have I3 : Hid (∀ g, v3.ownBlock = some g → g < w5.heap.size) := Lib.hid (SetV.lt (.inr ⟨b3, rfl, hr5⟩)).2
    have IX : Hid (∀ g, (Value.slice Ax xs.length cx).ownBlock = some g → g < w5.heap.size) := Lib.hid (fun g hg => (hx5.lt g hg).2)
    have IY : Hid (∀ g, (Value.slice Ay ys.length cy).ownBlock = some g → g < w5.heap.size) := Lib.hid (fun g hg => (hoy.lt g hg).2)
    have HS5 := Lib.hid hs5
    have HR5 := Lib.hid hr5
    have HX5 := Lib.hid hx5
    have HY5 := Lib.hid hoy
    clear hoy ht5 hs5 hr5 hx5 HS4 HR4 HX4
    go_wp2_with fail
    -- u, m
    refine (union_any _ v2 rs2 _ v3 rs3 _ (.inr ⟨b2, rfl, HS5.out⟩) (.inr ⟨b3, rfl, HR5.out⟩)).mono ?_
    rintro e w6 ⟨b6, v6, rs6, rfl, hs6, hn6, hb6, hv6, ht6⟩
    have i6 : w5.heap.size ≤ b6 ∧ b6 < w6.heap.size := ⟨hb6, hs6.lt⟩
    have I6 : Hid (∀ g, v6.ownBlock = some g → w5.heap.size ≤ g ∧ g < w6.heap.size) := Lib.hid (fun g hg => ⟨hv6 g hg, (SetV.lt (.inr ⟨b6, rfl, hs6⟩)).2 g hg⟩)
    have HT6 := Lib.hid (HT5.out.trans' ht6)
    have HS6 := Lib.hid (HS5.out.turn' ht6)
    have HR6 := Lib.hid (HR5.out.turn' ht6)
    have HX6 := Lib.hid (HX5.out.turn' ht6)
    have HY6 := Lib.hid (HY5.out.turn' ht6)
    have HU6 := Lib.hid hs6
    have HN6 : Hid (nums rs6 = us) := Lib.hid (by rw [hn6, HN2.out, HN3.out, HU.out])
    have z6 := ht6.size
    clear hs6 hn6 ht6 hv6 hb6 HS5 HR5 HX5 HY5
    go_wp2_with fail
    refine (minusL_any _ v2 rs2 _ v3 rs3 _ (.inr ⟨b2, rfl, HS6.out⟩) (.inr ⟨b3, rfl, HR6.out⟩)).mono ?_
    rintro e w7 ⟨b7, v7, rs7, rfl, hs7, hn7, hb7, hv7, ht7⟩
    have i7 : w6.heap.size ≤ b7 := hb7
    have I7 : Hid (∀ g, v7.ownBlock = some g → w6.heap.size ≤ g) := Lib.hid hv7
    have HT7 := Lib.hid (HT6.out.trans' ht7)
    have HS7 := Lib.hid (HS6.out.turn' ht7)
    have HR7 := Lib.hid (HR6.out.turn' ht7)
    have HX7 := Lib.hid (HX6.out.turn' ht7)
    have HY7 := Lib.hid (HY6.out.turn' ht7)
    have HU7 := Lib.hid (HU6.out.turn' ht7)
    have HM7 := Lib.hid hs7
    have HN7 : Hid (nums rs7 = ms) := Lib.hid (by rw [hn7, HN2.out, HN3.out, HM.out])
    have z7 := ht7.size
    clear hs7 hn7 ht7 hv7 hb7 HS6 HR6 HX6 HY6 HU6
    go_wp2_with fail
    -- u.List()
    refine (list_any _ v6 rs6 _ (.inr ⟨b6, rfl, HU7.out⟩) (HTab.out.turn' HT7.out)).mono ?_
    rintro e w8 ⟨v8, rfl, ho8, ht8⟩
    rw [HN6.out] at ho8
    have HT8 := Lib.hid (HT7.out.trans' ht8)
    have HS8 := Lib.hid (HS7.out.turn' ht8)
    have HR8 := Lib.hid (HR7.out.turn' ht8)
    have HX8 := Lib.hid (HX7.out.turn' ht8)
    have HY8 := Lib.hid (HY7.out.turn' ht8)
    have HU8 := Lib.hid (HU7.out.turn' ht8)
    have HM8 := Lib.hid (HM7.out.turn' ht8)
    have HL8 := Lib.hid ho8
    have z8 := ht8.size
    have z80 := HT8.out.size
    have HIx := Lib.hid (HX8.out.ints.below ((Turn.refl [] w8).alloc (.cells #[] 3)))
    clear ho8 ht8 HS7 HR7 HX7 HY7 HU7 HM7
    go_wp2_with (first
      | (at_builtin; refine wpList_appAllG rfl (.tmp 47) (.tmp 48) rfl (w8.alloc (.cells #[] 3)) w8.heap.size (.slice (some ⟨w8.heap.size, 0, none⟩) 0 0) [] xs Ax xs.length cx rfl (OwnI.blank w8 _ (Nat.le_refl _)) rfl HIx.out rfl (by simp) (by omega) (by simp) ?_
         intro v9 w9 hv9 ht9
         have hT9 : Turn [] w8 w9 := ((Turn.refl [] w8).alloc _).trans ht9 (newIn' (fun k hk => by simp [Value.ownBlock] at hk; omega))
         rw [List.nil_append] at hv9
         have HV9 := Lib.hid hv9
         have HT9 := Lib.hid hT9
         have HIy := Lib.hid (HY8.out.ints.below hT9)
         have z9 := hT9.size
         clear hv9 ht9 hT9)
      | (at_builtin; refine wpList_appAllG rfl (.tmp 49) (.tmp 50) rfl w9 w8.heap.size v9 xs ys Ay ys.length cy rfl HV9.out rfl HIy.out rfl (by omega) (by omega) (by omega) ?_
         intro v10 w10 hv10 ht10
         have hT10 : Turn [] w8 w10 := HT9.out.trans ht10 (newIn' (fun k hk => (HV9.out.lt k hk).1))
         have HV10 := Lib.hid hv10
         have HT10 := Lib.hid hT10
         clear hv10 ht10 hT10))
    refine (ownOf _ v10 (xs ++ ys) _ HV10.out (by simp; omega)).mono ?_
    rintro e w11 ⟨v11, rfl, ho11, ht11⟩
    have hT11 : Turn [] w8 w11 := HT10.out.trans' ht11
    have HO11 : Hid (OwnI w11 w10.heap.size v11 us) := Lib.hid (by rw [← HU.out]; exact ho11)
    have HL11 := Lib.hid (HL8.out.turn' hT11)
    have HT11 := Lib.hid (HT8.out.trans' hT11)
    have HS11 := Lib.hid (HS8.out.turn' hT11)
    have HR11 := Lib.hid (HR8.out.turn' hT11)
    have HX11 := Lib.hid (HX8.out.turn' hT11)
    have HY11 := Lib.hid (HY8.out.turn' hT11)
    have HU11 := Lib.hid (HU8.out.turn' hT11)
    have HM11 := Lib.hid (HM8.out.turn' hT11)
    clear ho11 ht11 hT11 HT9 HT10 HV9 HV10 HIx HIy HL8 HS8 HR8 HX8 HY8 HU8 HM8
    go_wp2_with fail
    refine (ownSame _ _ v8 v11 us us _ HL11.out HO11.out (by omega) (by omega)).mono ?_
    rw [sameB_self]
    rintro e w12 ⟨rfl, ht12⟩
    have HT12 := Lib.hid (HT11.out.trans' ht12)
    have HS12 := Lib.hid (HS11.out.turn' ht12)
    have HR12 := Lib.hid (HR11.out.turn' ht12)
    have HX12 := Lib.hid (HX11.out.turn' ht12)
    have HY12 := Lib.hid (HY11.out.turn' ht12)
    have HU12 := Lib.hid (HU11.out.turn' ht12)
    have HM12 := Lib.hid (HM11.out.turn' ht12)
    clear ht12 HL11 HO11 HS11 HR11 HX11 HY11 HU11 HM11
    go_wp2_with fail
    -- m.List(), Minus(x, y), Same
    refine (list_any _ v7 rs7 _ (.inr ⟨b7, rfl, HM12.out⟩) (HTab.out.turn' HT12.out)).mono ?_
    rintro e w13 ⟨v13, rfl, ho13, ht13⟩
    rw [HN7.out] at ho13
    have HL13 := Lib.hid ho13
    have HT13 := Lib.hid (HT12.out.trans' ht13)
    have HS13 := Lib.hid (HS12.out.turn' ht13)
    have HR13 := Lib.hid (HR12.out.turn' ht13)
    have HX13 := Lib.hid (HX12.out.turn' ht13)
    have HY13 := Lib.hid (HY12.out.turn' ht13)
    have HU13 := Lib.hid (HU12.out.turn' ht13)
    have HM13 := Lib.hid (HM12.out.turn' ht13)
    clear ht13 ho13 HS12 HR12 HX12 HY12 HU12 HM12
    go_wp2_with fail
    refine (ownMinus _ _ _ _ xs ys _ HX13.out HY13.out (by omega) (by omega)).mono ?_
    rintro e w14 ⟨v14, rfl, ho14, ht14⟩
    rw [HM.out] at ho14
    have HO14 := Lib.hid ho14
    have HL14 := Lib.hid (HL13.out.turn' ht14)
    have HT14 := Lib.hid (HT13.out.trans' ht14)
    have HS14 := Lib.hid (HS13.out.turn' ht14)
    have HR14 := Lib.hid (HR13.out.turn' ht14)
    have HX14 := Lib.hid (HX13.out.turn' ht14)
    have HY14 := Lib.hid (HY13.out.turn' ht14)
    have HU14 := Lib.hid (HU13.out.turn' ht14)
    have HM14 := Lib.hid (HM13.out.turn' ht14)
    clear ht14 ho14 HL13 HS13 HR13 HX13 HY13 HU13 HM13
    go_wp2_with fail
    refine (ownSame _ _ v13 v14 ms ms _ HL14.out HO14.out (by omega) (by omega)).mono ?_
    rw [sameB_self]
    rintro e w15 ⟨rfl, ht15⟩
    have HT15 := Lib.hid (HT14.out.trans' ht15)
    have HS15 := Lib.hid (HS14.out.turn' ht15)
    have HR15 := Lib.hid (HR14.out.turn' ht15)
    have HX15 := Lib.hid (HX14.out.turn' ht15)
    have HY15 := Lib.hid (HY14.out.turn' ht15)
    have HU15 := Lib.hid (HU14.out.turn' ht15)
    have HM15 := Lib.hid (HM14.out.turn' ht15)
    clear ht15 HL14 HO14 HS14 HR14 HX14 HY14 HU14 HM14
    go_wp2_with fail
    -- s.Same(t) != Same(x, y)
    refine (sameL_any _ v2 rs2 _ v3 rs3 _ (.inr ⟨b2, rfl, HS15.out⟩) (.inr ⟨b3, rfl, HR15.out⟩)).mono ?_
    rw [HN2.out, HN3.out]
    rintro e w16 ⟨rfl, ht16⟩
    have HT16 := Lib.hid (HT15.out.trans' ht16)
    have HS16 := Lib.hid (HS15.out.turn' ht16)
    have HR16 := Lib.hid (HR15.out.turn' ht16)
    have HX16 := Lib.hid (HX15.out.turn' ht16)
    have HY16 := Lib.hid (HY15.out.turn' ht16)
    have HU16 := Lib.hid (HU15.out.turn' ht16)
    have HM16 := Lib.hid (HM15.out.turn' ht16)
    clear ht16 HS15 HR15 HX15 HY15 HU15 HM15
    obtain ⟨q, HQ⟩ : ∃ q, Hid (sameB xs ys = q) := ⟨_, Lib.hid rfl⟩
    rw [HQ.out]
    go_wp2_with fail
    refine (ownSame _ _ _ _ xs ys _ HX16.out HY16.out (by omega) (by omega)).mono ?_
    rw [HQ.out]
    rintro e w17 ⟨rfl, ht17⟩
    have HT17 := Lib.hid (HT16.out.trans' ht17)
    have HS17 := Lib.hid (HS16.out.turn' ht17)
    have HR17 := Lib.hid (HR16.out.turn' ht17)
    have HX17 := Lib.hid (HX16.out.turn' ht17)
    have HY17 := Lib.hid (HY16.out.turn' ht17)
    have HU17 := Lib.hid (HU16.out.turn' ht17)
    have HM17 := Lib.hid (HM16.out.turn' ht17)
    clear ht17 HS16 HR16 HX16 HY16 HU16 HM16
    have hqq : (q != q) = false := by simp
    go_wp2_with fail
    -- s.Meets(t) != (len(Minus(x, y)) < len(x))
    refine (meetsL_any _ v2 rs2 _ v3 rs3 _ (.inr ⟨b2, rfl, HS17.out⟩) (.inr ⟨b3, rfl, HR17.out⟩)).mono ?_
    rw [HN2.out, HN3.out, F3.out]
    rintro e w18 ⟨rfl, ht18⟩
    have HT18 := Lib.hid (HT17.out.trans' ht18)
    have HS18 := Lib.hid (HS17.out.turn' ht18)
    have HR18 := Lib.hid (HR17.out.turn' ht18)
    have HX18 := Lib.hid (HX17.out.turn' ht18)
    have HY18 := Lib.hid (HY17.out.turn' ht18)
    have HU18 := Lib.hid (HU17.out.turn' ht18)
    have HM18 := Lib.hid (HM17.out.turn' ht18)
    clear ht18 HS17 HR17 HX17 HY17 HU17 HM17
    go_wp2_with fail
    refine (ownMinus _ _ _ _ xs ys _ HX18.out HY18.out (by omega) (by omega)).mono ?_
    rintro e w19 ⟨v19, rfl, ho19, ht19⟩
    rw [HM.out] at ho19
    obtain ⟨A19, c19, hv19, _, _⟩ := ho19.form
    subst hv19
    have HT19 := Lib.hid (HT18.out.trans' ht19)
    have HS19 := Lib.hid (HS18.out.turn' ht19)
    have HR19 := Lib.hid (HR18.out.turn' ht19)
    have HX19 := Lib.hid (HX18.out.turn' ht19)
    have HY19 := Lib.hid (HY18.out.turn' ht19)
    have HU19 := Lib.hid (HU18.out.turn' ht19)
    have HM19 := Lib.hid (HM18.out.turn' ht19)
    have z19 := HT19.out.size
    clear ht19 ho19 HS18 HR18 HX18 HY18 HU18 HM18
    go_wp2_with fail
    -- u.Add(7), m.Add(9)
    refine (add_any b6 v6 rs6 7 _ HU19.out).mono ?_
    rintro e w20 ⟨rfl, v20, rs20, hs20, hn20, ht20, hm20⟩
    have HT20 := Lib.hid (HT19.out.trans ht20 (newIn (by omega) (fun k hk => by have := I6.out k hk; omega)))
    have HS20 := Lib.hid (HS19.out.turn ht20 (notIn (by omega) (fun k hk => by have := I6.out k hk; omega)) (fun g hg => by have := I2.out g hg; exact notIn (by omega) (fun k hk => by have := I6.out k hk; omega)))
    have HR20 := Lib.hid (HR19.out.turn ht20 (notIn (by omega) (fun k hk => by have := I6.out k hk; omega)) (fun g hg => by have := I3.out g hg; exact notIn (by omega) (fun k hk => by have := I6.out k hk; omega)))
    have HM20 := Lib.hid (HM19.out.turn ht20 (notIn (by omega) (fun k hk => by have := I6.out k hk; omega)) (fun g hg => by have := I7.out g hg; exact notIn (by omega) (fun k hk => by have := I6.out k hk; omega)))
    have HX20 := Lib.hid (HX19.out.turn ht20 (fun g hg => by have := IX.out g hg; exact notIn (by omega) (fun k hk => by have := I6.out k hk; omega)))
    have HY20 := Lib.hid (HY19.out.turn ht20 (fun g hg => by have := IY.out g hg; exact notIn (by omega) (fun k hk => by have := I6.out k hk; omega)))
    clear hs20 hn20 ht20 hm20 HS19 HR19 HX19 HY19 HU19 HM19
    generalize (okB 7 && !hasB (nums rs6) 7) = bb
    go_wp2_with fail
    refine (add_any b7 v7 rs7 9 _ HM20.out).mono ?_
    rintro e w21 ⟨rfl, v21, rs21, hs21, hn21, ht21, hm21⟩
    have HT21 := Lib.hid (HT20.out.trans ht21 (newIn (by omega) (fun k hk => by have := I7.out k hk; omega)))
    have HS21 := Lib.hid (HS20.out.turn ht21 (notIn (by omega) (fun k hk => by have := I7.out k hk; omega)) (fun g hg => by have := I2.out g hg; exact notIn (by omega) (fun k hk => by have := I7.out k hk; omega)))
    have HR21 := Lib.hid (HR20.out.turn ht21 (notIn (by omega) (fun k hk => by have := I7.out k hk; omega)) (fun g hg => by have := I3.out g hg; exact notIn (by omega) (fun k hk => by have := I7.out k hk; omega)))
    have HX21 := Lib.hid (HX20.out.turn ht21 (fun g hg => by have := IX.out g hg; exact notIn (by omega) (fun k hk => by have := I7.out k hk; omega)))
    have HY21 := Lib.hid (HY20.out.turn ht21 (fun g hg => by have := IY.out g hg; exact notIn (by omega) (fun k hk => by have := I7.out k hk; omega)))
    clear hs21 hn21 ht21 hm21 HS20 HR20 HX20 HY20 HM20
    generalize (okB 9 && !hasB (nums rs7) 9) = bc
    go_wp2_with fail
    -- s.List(), t.List()
    refine (list_any _ v2 rs2 _ (.inr ⟨b2, rfl, HS21.out⟩) (HTab.out.turn' HT21.out)).mono ?_
    rintro e w22 ⟨v22, rfl, ho22, ht22⟩
    rw [HN2.out] at ho22
    have HL22 := Lib.hid ho22
    have HT22 := Lib.hid (HT21.out.trans' ht22)
    have HR22 := Lib.hid (HR21.out.turn' ht22)
    have HX22 := Lib.hid (HX21.out.turn' ht22)
    have HY22 := Lib.hid (HY21.out.turn' ht22)
    clear ho22 ht22 HS21 HR21 HX21 HY21
    go_wp2_with fail
    refine (ownSame _ _ v22 _ xs xs _ HL22.out HX22.out (by omega) (by omega)).mono ?_
    rw [sameB_self]
    rintro e w23 ⟨rfl, ht23⟩
    have HT23 := Lib.hid (HT22.out.trans' ht23)
    have HR23 := Lib.hid (HR22.out.turn' ht23)
    have HY23 := Lib.hid (HY22.out.turn' ht23)
    clear ht23 HL22 HX22 HR22 HY22
    go_wp2_with fail
    refine (list_any _ v3 rs3 _ (.inr ⟨b3, rfl, HR23.out⟩) (HTab.out.turn' HT23.out)).mono ?_
    rintro e w24 ⟨v24, rfl, ho24, ht24⟩
    rw [HN3.out] at ho24
    have HL24 := Lib.hid ho24
    have HT24 := Lib.hid (HT23.out.trans' ht24)
    have HY24 := Lib.hid (HY23.out.turn' ht24)
    clear ho24 ht24 HR23 HY23
    go_wp2_with fail
    refine (ownSame _ _ v24 _ ys ys _ HL24.out HY24.out (by omega) (by omega)).mono ?_
    rw [sameB_self]
    rintro e w25 ⟨rfl, ht25⟩
    have HT25 := Lib.hid (HT24.out.trans' ht25)
    clear ht25 HL24 HY24
    go_wp2_with fail
    go_ret
    exact ⟨rfl, HT25.out⟩
end Go.Proofs.YtclofjlonncnlaaDoor
