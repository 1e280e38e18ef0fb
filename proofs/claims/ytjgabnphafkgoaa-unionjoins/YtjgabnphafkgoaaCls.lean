/- Classes of the union. -/
import Derived.Test.YtjgabnphafkgoaaSame
import Derived.Test.YtjgabnphafkgoaaLL
import Derived.Test.YtjgabnphafkgoaaThC
import Derived.Deep.DeepCutAuto
set_option linter.unusedSimpArgs false
set_option linter.unusedVariables false
namespace Go.Proofs.Ytjgabnphafkgoaa
open Go.RowKit Go.Maps

def toI (l : List Nat) : List Int := l.map (fun k : Nat => (k : Int))
def clsI (H : Nat → Nat) (j : Nat) : List (List Int) := (cls H j).map toI
theorem clsI_length (H : Nat → Nat) (j : Nat) : (clsI H j).length = hc j H := by unfold clsI; rw [List.length_map, cls_length]
theorem clsI_head {n : Nat} {H : Nat → Nat} (hH : Heads n H) {j : Nat} (hj : H j = j) : clsI H (j + 1) = (clsI H j ++ [[]]).set (hc j H) ([] ++ [(j : Int)]) := by
  rw [List.set_append_right _ _ (by rw [clsI_length]; exact Nat.le_refl _), clsI_length, Nat.sub_self]
  unfold clsI
  rw [cls_head hH hj, List.map_append]
  rfl
theorem clsI_other {n : Nat} {H : Nat → Nat} (hH : Heads n H) {j : Nat} (hj : H j ≠ j) : clsI H (j + 1) = (clsI H j).set (hc (H j) H) (toI (cl H j (H j)) ++ [(j : Int)]) := by
  unfold clsI
  rw [cls_other hH hj, List.map_set]
  unfold toI
  rw [List.map_append]
  rfl
theorem clsI_at {n : Nat} {H : Nat → Nat} (hH : Heads n H) {j : Nat} (hj : H j ≠ j) : (clsI H j)[hc (H j) H]? = some (toI (cl H j (H j))) := by
  unfold clsI
  rw [List.getElem?_map, cls_at (by have := hH.le j; omega) (hH.twice j)]
  rfl
theorem cl_length (H : Nat → Nat) (j h : Nat) : (toI (cl H j h)).length ≤ j := by
  unfold toI cl
  rw [List.length_map]
  have := List.length_filter_le (fun k => decide (H k = h)) (List.range j)
  rw [List.length_range] at this
  exact this

theorem run_makeMap_hint (w : World) (k : Nat) : (Instr.makeMap 43 (some (.int .i64 (k : Int)))).run Try.prog w = .ok (.map (some w.heap.size)) (w.alloc (.map #[] 0)) := by
  simp [Instr.makeMap, run_underlying Try.underlying43, asInt, asIntOf, Result.andThen]

set_option maxRecDepth 100000 in
set_option maxHeartbeats 2000000 in
theorem classes_any (b m n : Nat) (H : Nat → Nat) (w : World) (h : Un w b m n H) :
    Calls Try.prog 19 #[.pointer (some ⟨b, 0, none⟩)] w fun e w' => ∃ v xs, e = .returned v ∧ OwnLL w' w.heap.size v (clsI H n) xs ∧ Un w' b m n H ∧ Turn [m] w w' := by
  have HU := Lib.hid h
  have HH := Lib.hid h.heads
  have hle := h.le
  have hcn := hc_le n H
  obtain ⟨hlb, hlm⟩ := h.lt
  clear h
  obtain ⟨i0, hi0, hz0, hz1, hz2⟩ := info_parts row_info
  have hmh := run_makeMap_hint
  have HI0 := Lib.hid hi0
  have HZ0 := Lib.hid hz0
  have HZ1 := Lib.hid hz1
  have HZ2 := Lib.hid hz2
  clear hi0 hz0 hz1 hz2
  go_enter Try.func19, Try.ntmps19
  go_wp2_with fail
  refine (count_any b m n H _ HU.out).mono ?_
  rintro e w1 ⟨rfl, ht1⟩
  have HT1 := Lib.hid ht1
  have hs1 := ht1.size
  clear ht1
  go_wp2_with (at_make; refine wpList_make_own _ rfl _ _ 22 rfl w.heap.size 23 i0 _ 1 Try.underlying22 HI0.out HZ0.out HZ1.out _ _ _ (hc n H) rfl rfl rfl (by rw [HZ2.out]; omega) (by simp only [maxLen]; omega) hs1 ?_; intro w2 hown2 hg2; have HO2 := Lib.hid hown2; have HT2 := Lib.hid (HT1.out.grown hg2 (fun k hk => by cases hk)); clear hown2 hg2)
  refine (count_any b m n H _ (HU.out.turn' HT2.out)).mono ?_
  rintro e w3 ⟨rfl, ht3⟩
  have HO3 := Lib.hid (Turn.owns ht3 HO2.out (by simp))
  have HT3 := Lib.hid (HT2.out.trans' ht3)
  have hs3 := HT3.out.size
  clear ht3 HO2 HT2
  go_wp2_with fail
  have HU4 := Lib.hid (HU.out.turn' (HT3.out.alloc (.map #[] 0)))
  have HM4 := Lib.hid (MapF.made w3)
  have HT4 := Lib.hid (HT3.out.alloc (.map #[] 0))
  have HO4 : Hid (OwnLL (w3.alloc (.map #[] 0)) w.heap.size (.slice (some ⟨w1.heap.size, 0, none⟩) 0 (hc n H)) [] []) := Lib.hid
    ⟨Turn.owns ((Turn.refl [] w3).alloc _) HO3.out (by simp), rfl, fun k u l hu => by simp at hu, fun i j u u' g _ hu => by simp at hu, fun k u g hu => by simp at hu⟩
  refine (numbers_any b m n H _ HU4.out).mono ?_
  rintro e w' ⟨rfl, rfl⟩
  generalize hq : w3.heap.size = q at *
  generalize hW : w3.alloc (.map #[] 0) = w4 at *
  clear hW hq HT3 HO3 hmh
  go_wp2_with fail
  go_loopw [3, 16] (fun t i wr => ∃ (j g c s : Nat) (xs : List Value), j ≤ n ∧ i = .int .i64 (j : Int) ∧ t = .slice (some ⟨g, 0, none⟩) (hc j H) c ∧ Hid (OwnLL wr w.heap.size (.slice (some ⟨g, 0, none⟩) (hc j H) c) (clsI H j) xs) ∧ Hid (MapF wr q s (plc H j)) ∧ s ≤ j ∧ Hid (Un wr b m n H) ∧ Hid (Turn [m] w wr)) (fun _ i _ => n - (intOf i).toNat)
  case atStart => exact ⟨0, _, _, 0, [], Nat.zero_le _, rfl, rfl, HO4, Lib.hid (HM4.out.congr (fun i => by simp [plc])), Nat.le_refl _, HU4, Lib.hid (HT4.out.more (by simp))⟩
  case round =>
    obtain ⟨j, g, c, s, xs, hj, rfl, rfl, HO, HM, hs, HW, HT⟩ := hrel
    by_cases hlt : j < n
    · go_wp2_with fail
      refine (climb_any b m n H j _ HW.out hlt).mono ?_
      rintro e w5 ⟨rfl, hu5, ht5⟩
      have HO5 := Lib.hid (HO.out.off ht5 (fun g hg => by simp at hg; omega))
      have HM5 := Lib.hid (HM.out.turn ht5 (by simp; omega))
      have HU5 := Lib.hid hu5
      have HT5 := Lib.hid (HT.out.trans ht5 (by simp))
      have hs5 := HT5.out.size
      clear hu5 ht5 HO HM HW HT
      have hlen5 : (clsI H j).length = hc j H := clsI_length H j
      have hkj : hc j H ≤ j := hc_le j H
      have HL5 := Lib.hid hlen5
      clear hlen5
      by_cases hjj : H j = j
      · have HK1 : Hid (hc (j + 1) H = hc j H + 1) := Lib.hid (by rw [hc_succ, if_pos hjj])
        have HCL : Hid (clsI H (j + 1) = (clsI H j ++ [[]]).set (hc j H) ([] ++ [(j : Int)])) := Lib.hid (clsI_head HH.out hjj)
        have HP : Hid (plc H (j + 1) j = some (hc j H)) := Lib.hid (plc_at (by omega) hjj)
        have HP0 : Hid (plc H j j = none) := Lib.hid (by simp [plc])
        have HPP : Hid (∀ i, updF (plc H j) j (hc j H) i = plc H (j + 1) i) := Lib.hid (fun i => plc_head hjj i)
        rw [hjj]
        clear hjj
        generalize hK : hc j H = K at *
        clear hK
        have hx1 : (0 : Int) ≤ (K : Int) := by omega
        have hx2 : (K : Int) < ((K + 1 : Nat) : Int) := by omega
        have hx3 : (K : Int) < (K : Int) + 1 := by omega
        go_upto_region 9 with (at_mapUpdate; refine wpList_storeF _ rfl _ _ _ rfl q s (plc H j) rfl HM5.out (by omega) j K rfl rfl (by omega) (by omega) ?_; intro w6 hm6 ht6)
        rw [HP0.out] at hm6
        have HM6 : Hid (MapF w6 q (s + 1) (plc H (j + 1))) := Lib.hid (hm6.congr HPP.out)
        have HO6 : Hid (OwnLL w6 w.heap.size (.slice (some ⟨g, 0, none⟩) K c) (clsI H j) xs) := Lib.hid (by obtain ⟨D, ⟨es, clock, hb, _⟩, _⟩ := HM5.out; exact HO5.out.offMap hb ht6)
        have HT6 := Lib.hid (HT5.out.trans ht6 (fun g hg => .inr (by simp at hg; omega)))
        have hs6 := HT6.out.size
        have HB6 := Lib.hid (HU5.out.turn ht6 (by simp; omega) (by simp; omega))
        clear hm6 ht6
        go_upto_region 10 with (at_builtin; refine wpList_appRowS rfl (.tmp 29) (.tmp 30) rfl w6 w.heap.size (.slice (some ⟨g, 0, none⟩) K c) (clsI H j) xs none 0 0 [] 1 rfl HO6.out rfl (OwnI.nil _ _) (fun g hg => by cases hg) (fun k u' g _ _ hg => by cases hg) rfl (by rw [HL5.out]; omega) hs6 K HL5.out ?_; intro g7 c7 w7 ho7 ht7)
        have HO7 := Lib.hid ho7
        have htq : ∀ x ∈ (Value.ownBlock (.slice (some ⟨g, 0, none⟩) K c)).toList, w.heap.size ≤ x := fun x hx => (World.ownsRow.lt HO6.out.row x (by simpa using hx)).1
        have HT7 := Lib.hid (HT6.out.trans ht7 (fun x hx => .inr (htq x hx)))
        have HB7 := Lib.hid (HB6.out.turn ht7 (fun hm => by have := htq _ hm; omega) (fun hm => by have := htq _ hm; omega))
        have HM7 := Lib.hid (HM6.out.turn ht7 (fun hm => by
          obtain ⟨D, ⟨es, clock, hb, _⟩, _⟩ := HM6.out
          obtain ⟨cs, t', f, hc⟩ := ownsRow_cells HO6.out.row (show Value.ownBlock (.slice (some ⟨g, 0, none⟩) K c) = some q by simpa using hm)
          rw [hb] at hc
          cases hc))
        have hs7 := HT7.out.size
        have HX : Hid (xs.length = K ∧ (xs ++ [Value.slice none 0 0]).length = K + 1) := Lib.hid (by
          have := HO6.out.len
          rw [HL5.out] at this
          simp [this])
        have hc7 : w7.cell? ⟨g7, K, none⟩ = some (.slice none 0 0) := by
          have e := World.ownsRow.cellAt (g := g7) (cap := c7) (by have := HO7.out.row; rw [HX.out.2] at this; exact this) K (by omega)
          rw [e, ← HX.out.1]
          simp
        clear ho7 ht7 htq
        go_upto_region 11 with (at_lookup; refine wpList_lookF _ rfl _ _ rfl q _ _ rfl HM7.out j rfl (by omega) ?_; rw [HP.out])
        go_wp2_with (at_builtin
                     refine wpList_app1S rfl (.tmp 40) (.tmp 42) rfl w7 w.heap.size (.slice none 0 0) [] (j : Int) 1 rfl (OwnI.nil _ _) rfl (by simp) hs7 0 rfl ?_
                     intro g8 c8 w8 ho8 ht8 hb8
                     have HO8 := Lib.hid ho8
                     have HT8 := Lib.hid ht8
                     have HB8 := Lib.hid hb8
                     have hf8 : w8.frozen? ⟨g7, K, none⟩ = false := by
                       have h1 := Turn.owns HT8.out HO7.out.row (by simp [Value.ownBlock])
                       rw [HX.out.2] at h1
                       exact World.ownsRow.frozenAt (n := K + 1) (cap := c7) h1 K
                     have hc8 : w8.cell? ⟨g7, K, none⟩ = some (.slice none 0 0) := (HT8.out.cell (p := ⟨g7, K, none⟩) (World.ownsRow.lt HO7.out.row g7 rfl).2 (by simp [Value.ownBlock])).trans hc7
                     clear ho8 ht8 hb8)
        have h8 : Turn [m] w w8 := HT7.out.trans HT8.out (fun x hx => by simp [Value.ownBlock] at hx)
        have hg7 : w.heap.size ≤ g7 := (World.ownsRow.lt HO7.out.row g7 rfl).1
        have hset : Turn [m] w (w8.setCell ⟨g7, K, none⟩ (.slice (some ⟨g8, 0, none⟩) (0 + 1) c8)) := h8.setCell (.inr hg7) _
        have t87 : Turn [g7] w8 (w8.setCell ⟨g7, K, none⟩ (.slice (some ⟨g8, 0, none⟩) (0 + 1) c8)) := (Turn.refl _ _).setCell (.inl (by simp)) _
        have hqg : q ≠ g7 := fun e => by
          obtain ⟨D, ⟨es, clock, hb, _⟩, _⟩ := HM7.out
          obtain ⟨cs, t', f, hc⟩ := ownsRow_cells HO7.out.row (show Value.ownBlock (.slice (some ⟨g7, 0, none⟩) (K + 1) c7) = some q by rw [e]; rfl)
          rw [hb] at hc
          cases hc
        have HM9 := Lib.hid ((HM7.out.turn HT8.out (by simp [Value.ownBlock])).turn t87 (by simpa using hqg))
        have HU9 := Lib.hid ((HB7.out.turn HT8.out (by simp [Value.ownBlock]) (by simp [Value.ownBlock])).turn t87 (by simp; omega) (by simp; omega))
        have HO9 := Lib.hid (OwnLL.put HO7.out HX.out.2.symm (at_ := K) (u := .slice none 0 0) (by rw [← HX.out.1]; simp) HT8.out HO8.out HB8.out)
        have HT9 := Lib.hid hset
        clear h8 hset t87
        go_roundw
        case rel =>
          refine ⟨j + 1, g7, c7, s + 1, (xs ++ [Value.slice none 0 0]).set K (.slice (some ⟨g8, 0, none⟩) (0 + 1) c8), by omega, by go_num, by rw [HK1.out], Lib.hid ?_, HM9, by omega, HU9, HT9⟩
          rw [HK1.out, HCL.out]
          exact HO9.out
        case measure => simp [intOf]; omega
      · have HK1 : Hid (hc (j + 1) H = hc j H) := Lib.hid (by rw [hc_succ, if_neg hjj]; rfl)
        have hle5 := HH.out.le j
        have hhj : H j < j := by omega
        have HCL := Lib.hid (clsI_other HH.out hjj)
        have HP : Hid (plc H j (H j) = some (hc (H j) H)) := Lib.hid (plc_at hhj (HH.out.twice j))
        have HPP : Hid (∀ i, plc H j i = plc H (j + 1) i) := Lib.hid (fun i => plc_other hjj i)
        have hat := clsI_at HH.out hjj
        have hR : hc (H j) H < hc j H := by have := (List.getElem?_eq_some_iff.1 hat).1; rw [HL5.out] at this; exact this
        have hll := cl_length H j (H j)
        obtain ⟨u, hu, ho⟩ := HO5.out.at hat
        have HXU := Lib.hid hu
        have HOU := Lib.hid ho
        clear hjj hat hu ho hle5
        generalize toI (cl H j (H j)) = l at *
        obtain ⟨Au, cu, rfl, _, _⟩ := HOU.out.form
        generalize hc (H j) H = R at *
        generalize H j = h at *
        generalize hc j H = K at *
        have HX : Hid (xs.length = K) := Lib.hid (by have := HO5.out.len; rw [HL5.out] at this; exact this)
        have hx1 : (0 : Int) ≤ (R : Int) := by omega
        have hx2 : (R : Int) < (K : Int) := by omega
        have d1 : ((h : Int) == (j : Int)) = false := by simp; omega
        have hc5 : w5.cell? ⟨g, R, none⟩ = some (.slice Au l.length cu) := by
          have e := World.ownsRow.cellAt (g := g) (cap := c) (by have := HO5.out.row; rw [HX.out] at this; exact this) R (by omega)
          rw [e, HXU.out]
        have hg5 := World.ownsRow.lt HO5.out.row g rfl
        go_upto_region 10 with fail
        go_upto_region 11 with (at_lookup; refine wpList_lookF _ rfl _ _ rfl q _ _ rfl HM5.out h rfl (by omega) ?_; rw [HP.out])
        have hnb : ∀ x ∈ (Value.ownBlock (.slice Au l.length cu)).toList, w.heap.size ≤ x ∧ x ≠ g ∧ x ≠ q := by
          intro x hx
          have hx' : Value.ownBlock (.slice Au l.length cu) = some x := by simpa using hx
          refine ⟨(OwnI.lt HOU.out x hx').1, fun e => HO5.out.outer R _ x HXU.out hx' (by rw [e]; rfl), fun e => ?_⟩
          obtain ⟨D, ⟨es, clock, hb, _⟩, _⟩ := HM5.out
          obtain ⟨cs, t', f, hc⟩ := HOU.out.cells hx'
          rw [e, hb] at hc
          cases hc
        have HNB := Lib.hid hnb
        clear hnb
        go_wp2_with (at_builtin
                     refine wpList_app1S rfl (.tmp 40) (.tmp 42) rfl w5 w.heap.size (.slice Au l.length cu) l (j : Int) 1 rfl HOU.out rfl (by omega) hs5 l.length rfl ?_
                     intro g8 c8 w8 ho8 ht8 hb8
                     have HO8 := Lib.hid ho8
                     have HT8 := Lib.hid ht8
                     have HB8 := Lib.hid hb8
                     have hf8 : w8.frozen? ⟨g, R, none⟩ = false := by
                       have h1 := Turn.owns HT8.out HO5.out.row (fun g' hg' hm => (HNB.out g' hm).2.1 (by injection hg' with hg'; exact hg'.symm))
                       rw [HX.out] at h1
                       exact World.ownsRow.frozenAt (n := K) (cap := c) h1 R
                     have hc8 : w8.cell? ⟨g, R, none⟩ = some (.slice Au l.length cu) := (HT8.out.cell (p := ⟨g, R, none⟩) hg5.2 (fun hm => (HNB.out g hm).2.1 rfl)).trans hc5
                     clear ho8 ht8 hb8)
        have h8 : Turn [m] w w8 := HT5.out.trans HT8.out (fun x hx => .inr (HNB.out x hx).1)
        have hset : Turn [m] w (w8.setCell ⟨g, R, none⟩ (.slice (some ⟨g8, 0, none⟩) (l.length + 1) c8)) := h8.setCell (.inr hg5.1) _
        have t87 : Turn [g] w8 (w8.setCell ⟨g, R, none⟩ (.slice (some ⟨g8, 0, none⟩) (l.length + 1) c8)) := (Turn.refl _ _).setCell (.inl (by simp)) _
        have hqg : q ≠ g := fun e => by
          obtain ⟨D, ⟨es, clock, hb, _⟩, _⟩ := HM5.out
          obtain ⟨cs, t', f, hc⟩ := ownsRow_cells HO5.out.row (show Value.ownBlock (.slice (some ⟨g, 0, none⟩) K c) = some q by rw [e]; rfl)
          rw [hb] at hc
          cases hc
        have HM9 := Lib.hid (((HM5.out.turn HT8.out (fun hm => (HNB.out q hm).2.2 rfl)).turn t87 (by simpa using hqg)).congr HPP.out)
        have HU9 := Lib.hid ((HU5.out.turn HT8.out (fun hm => by have := (HNB.out b hm).1; omega) (fun hm => by have := (HNB.out m hm).1; omega)).turn t87 (by simp; omega) (by simp; omega))
        have HO9 := Lib.hid (OwnLL.put HO5.out HX.out.symm (at_ := R) HXU.out HT8.out HO8.out HB8.out)
        have HT9 := Lib.hid hset
        clear h8 hset t87
        go_roundw
        case rel =>
          refine ⟨j + 1, g, c, s, xs.set R (.slice (some ⟨g8, 0, none⟩) (l.length + 1) c8), by omega, by go_num, by rw [HK1.out], Lib.hid ?_, HM9, by omega, HU9, HT9⟩
          rw [HK1.out, HCL.out]
          exact HO9.out
        case measure => simp [intOf]; omega
    · obtain rfl : j = n := by omega
      go_wp2_with fail
      go_ret
      exact ⟨_, xs, rfl, HO.out, HW.out, HT.out⟩
end Go.Proofs.Ytjgabnphafkgoaa
