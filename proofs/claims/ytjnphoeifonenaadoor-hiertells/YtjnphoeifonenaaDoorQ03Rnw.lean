import Derived.Test.YtjnphoeifonenaaDoorQ02Tbl
import Derived.WalkSmall
import Derived.Lib.BufferWrite
import Derived.Lib.UnsafeStr
import Derived.Laws.MakeOwn
import Derived.BigQuiet

/- round, whole. -/
set_option linter.unusedSimpArgs false
set_option linter.unusedVariables false
set_option maxRecDepth 100000
namespace Go.Proofs.YtjnphoeifonenaaDoor
open Go.RowKit
attribute [local go_sem] fldE0 fldE1 fldE2 fldE3

/-- How it stands: k of those that climbed put down are left. -/
def Rw (Es : List En) (r bb : Nat) (V D : Value) (xs : List Value) (d : List Int) (w wr : World) (k : Nat) (first ans : Int) : Prop :=
  ∃ F l, StR r bb Es V xs wr F l ∧ OwnI wr (bb + 2) D d ∧ (∀ g, D.ownBlock = some g → g ∉ F) ∧ Turn [] w wr ∧ roundL Es (d.take k).reverse l first = ans
theorem take_rev {d : List Int} {k : Nat} {x : Int} (h : d[k]? = some x) : (d.take (k + 1)).reverse = x :: (d.take k).reverse := by
  rw [take_snoc h]
  simp
theorem ints_one (W : World) (T : TypeId) (x : Int) : Ints (W.alloc (.cells #[.int .i64 x] T)) (some ⟨W.heap.size, 0, none⟩) [x] := fun k y hy => by
  cases k with
  | zero =>
    simp at hy
    subst hy
    exact ⟨W.heap.size, 0, rfl, by simp, cell_of_row _ _ 0 _ _ _ (heap_alloc_new W _)⟩
  | succ k => simp at hy

theorem goL_inv {n : Nat} (hn : n ≤ 1000000) (nx : Nat → List Nat) : ∀ (f k : Nat) {l L : List Int}, InvL n l L → InvL n (goL n nx f k l L).1 (goL n nx f k l L).2
  | 0, k, l, L, h => h
  | f + 1, k, l, L, h => by
    rw [goL]
    cases hk : L[k]? with
    | none => exact h
    | some i => exact goL_inv hn nx f (k + 1) (meetL_inv hn _ h)
theorem reachL_inv {n : Nat} (hn : n ≤ 1000000) (nx : Nat → List Nat) (is l : List Int) : InvL n (reachL n nx is l).1 (reachL n nx is l).2 :=
  goL_inv hn nx _ _ (meetL_inv hn is ⟨by simp, by simp, by simp⟩)
theorem Rw.keep {Es : List En} {r bb : Nat} {V D : Value} {xs : List Value} {d : List Int} {w wr w' : World} {k : Nat} {first ans : Int} (h : Rw Es r bb V D xs d w wr k first ans) (t : Turn [] wr w') : Rw Es r bb V D xs d w w' k first ans := by
  obtain ⟨F, l, h1, h2, h3, h4, h5⟩ := h
  exact ⟨F, l, h1.turn t (by simp), h2.turn' t, h3, h4.trans' t, h5⟩


set_option maxHeartbeats 12800000 in
theorem round_any {A : Nat → Prop} {t : Nat} {M V0 : Value} {Es : List En} {w : World} (h : Tl w A t M V0 Es) (hok : EsOk Es) :
    Calls Tryd.prog 29 #[.pointer (some ⟨t, 0, none⟩)] w fun e w' => (∃ s, climbTo Es Es.length s ∧ e = .returned (.int .i64 (roundL Es s.d.reverse [] (-1)))) ∧ Turn [] w w' := by
  have hmf : ∀ (fn : Fn) (first cap : Array Value) (w : World), (Instr.makeFunc fn first cap).run Tryd.prog w = .ok (.func fn first cap) w := fun _ _ _ _ => rfl
  have HB := Lib.hid (below_any h hok)
  have HH := Lib.hid h
  have HOK := Lib.hid hok
  obtain ⟨r, hr⟩ : ∃ r, w.heap.size = r := ⟨_, rfl⟩
  rw [hr] at HB
  have HR := Lib.hid hr
  clear h hok hr
  go_enter Tryd.func29, Tryd.ntmps29
  go_wp2_with fail
  refine HB.out.mono ?_
  rintro e w1 ⟨U, xs, rfl, hU, t1⟩
  obtain ⟨AU, cU, rfl, _⟩ := OwnLL.form hU
  obtain ⟨n1, hn1⟩ : ∃ n1, (belowL Es).length = n1 := ⟨_, rfl⟩
  rw [hn1] at hU ⊢
  have hnB : n1 ≤ 1000 := by rw [← hn1, belowL_len]; exact HOK.out.n
  obtain ⟨bb, hbb⟩ : ∃ bb, w1.heap.size = bb := ⟨_, rfl⟩
  obtain ⟨W2, hW2⟩ : ∃ W, (w1.alloc (.cells #[.slice AU n1 cU] 75)).alloc (.cells #[.slice none 0 0] 88) = W := ⟨_, rfl⟩
  have t2 : Turn [] w1 W2 := by rw [← hW2]; exact ((Turn.refl [] w1).alloc _).alloc _
  have s2 : W2.heap.size = bb + 2 := by rw [← hW2, ← hbb]; simp
  have b0 : W2.heap[bb]? = some (.cells #[.slice AU n1 cU] 75 (0, 0)) := by rw [← hW2, ← hbb]; exact ((Turn.refl [] _).alloc _).heap (heap_alloc_new w1 _) (by simp)
  have b1 : W2.heap[bb + 1]? = some (.cells #[.slice none 0 0] 88 (0, 0)) := by
    rw [← hW2, ← hbb]
    have := heap_alloc_new (w1.alloc (.cells #[.slice AU n1 cU] 75)) (.cells #[.slice none 0 0] 88)
    rwa [World.size_alloc] at this
  have hvB : ∀ g, (Value.slice AU n1 cU).ownBlock = some g → g < bb := fun g hg => by
    rw [← hbb]
    obtain ⟨cs, ty, fz, hx⟩ := ownsRow_cells hU.row hg
    exact (Array.getElem?_eq_some_iff.1 hx).1
  have hst : StR r bb Es (.slice AU n1 cU) xs W2 [bb + 1] [] :=
    ⟨.inl ⟨b1, rfl, rfl⟩, cell_of_row W2 bb 0 _ _ _ b0, by omega, hU.turn' t2, hvB, fun k u g hu hg => by have := (hU.lt hu hg).2; omega, by simp, by omega⟩
  have HC := Lib.hid (climbed_any ((HH.out.turn' t1).turn' t2) HOK.out)
  rw [s2] at HC
  have HST := Lib.hid hst
  have HT2 := Lib.hid (t1.trans' t2)
  have HW2 := Lib.hid hW2
  have HBB := Lib.hid hbb
  obtain ⟨V, hV⟩ : ∃ V, Value.slice AU n1 cU = V := ⟨_, rfl⟩
  rw [hV] at HST
  have hr1 : r ≤ w1.heap.size := by have := t1.size; have := HR.out; omega
  have HRB : Hid (r ≤ bb) := Lib.hid (by omega)
  have HV := Lib.hid hV
  clear hV hU t1 t2 hn1 HB b0 b1 hvB hst hW2 s2 hbb hr1
  go_wp2_with fail
  rw [HBB.out, HW2.out]
  refine HC.out.mono ?_
  rintro e w3 ⟨D, s, rfl, hD, hto, hso, t3⟩
  obtain ⟨AD, cD, rfl, hDi, hDc⟩ := hD.form
  obtain ⟨m, hm⟩ : ∃ m, s.d.length = m := ⟨_, rfl⟩
  obtain ⟨Dv, hDv⟩ : ∃ Dv, Value.slice AD s.d.length cD = Dv := ⟨_, rfl⟩
  have hm1 : m ≤ 1000 := by have := hso.small; have := HOK.out.n; omega
  obtain ⟨ans, hans⟩ : ∃ ans, roundL Es s.d.reverse [] (-1) = ans := ⟨_, rfl⟩
  have HS0 : Hid (Rw Es r bb V Dv xs s.d w w3 m (-1) ans) := Lib.hid ⟨_, _, HST.out.turn t3 (by simp), by rw [← hDv]; exact hD, fun g hg => by
    rw [← hDv] at hg
    have := (hD.lt g hg).1
    simp
    omega, HT2.out.trans' t3, by rw [← hans, ← hm, List.take_length]⟩
  have HA := Lib.hid (And.intro hto hans)
  have HSO := Lib.hid hso
  have HM := Lib.hid hm
  have HDv : Hid (Dv = .slice AD m cD) := Lib.hid (by rw [← hDv, hm])
  rw [hm] at hDc ⊢
  clear hD hto hso t3 hDi hDv hm hans HC HST HT2 HW2
  go_wp2_with fail
  go_loopw [6, 8] (fun v6 v8 wr => ∃ (k : Nat) (first : Int), k ≤ m ∧ v8 = .int .i64 ((k : Int) - 1) ∧ v6 = .int .i64 first ∧ Hid (Rw Es r bb V Dv xs s.d w wr k first ans)) (fun _ v8 _ => (intOf v8 + 1).toNat)
  case atStart => exact ⟨m, -1, Nat.le_refl _, by go_num, rfl, HS0⟩
  case round =>
    obtain ⟨k, first, hk, rfl, rfl, HK⟩ := hrel
    cases k with
    | zero =>
      have d1 : decide ((0 : Int) ≤ ((0 : Nat) : Int) - 1) = false := by simp
      have d2 : ¬ (0 : Int) ≤ ((0 : Nat) : Int) - 1 := by omega
      have HE : Hid (first = ans ∧ Turn [] w wr) := Lib.hid (by
        obtain ⟨F, l, h1, h2, h3, h4, h5⟩ := HK.out
        exact ⟨h5, h4⟩)
      clear HK HS0
      go_wp2_with fail
      go_ret
      refine ⟨⟨s, HA.out.1, ?_⟩, HE.out.2⟩
      rw [HA.out.2, HE.out.1]
      rfl
    | succ k =>
      have ek : ((k + 1 : Nat) : Int) - 1 = (k : Int) := by omega
      rw [ek]
      obtain ⟨F, l, hst, hD, hDF, hT, hfin⟩ := HK.out
      obtain ⟨x, hx⟩ := at_lt (show k < s.d.length by have := HM.out; omega)
      have hxr := HSO.out.lo x (by simp [List.mem_of_getElem? hx])
      rw [take_rev hx, roundL] at hfin
      have hDe := hD
      rw [HDv.out] at hDe
      obtain ⟨g0, c0, hDs, _, hg0, _, hcell, _⟩ := hDe.slot (by have := HM.out; omega)
      injection hDs with e1 e2 e3
      subst e1
      have cx := hcell k x hx
      have d1 : decide ((0 : Int) ≤ (k : Int)) = true := by simp
      have d2 : (0 : Int) ≤ (k : Int) := by omega
      have d3 : (k : Int) < (m : Int) := by omega
      obtain ⟨W3, hW3⟩ : ∃ W, wr.alloc (.cells #[.int .i64 x] 3) = W := ⟨_, rfl⟩
      obtain ⟨q, hq⟩ : ∃ q, wr.heap.size = q := ⟨_, rfl⟩
      have t3 : Turn [] wr W3 := by rw [← hW3]; exact (Turn.refl [] wr).alloc _
      have s3 : W3.heap.size = q + 1 := by rw [← hW3, ← hq]; simp
      have hi3 : Ints W3 (some ⟨q, 0, none⟩) [x] := by rw [← hW3, ← hq]; exact ints_one wr _ x
      have hFl := hst.wd.lt.2
      have hn6 : Es.length ≤ 1000000 := by have := HOK.out.n; omega
      have HC := Lib.hid (reach_any (entR HOK.out.n) (nxB Es) (fun g => g < bb) hn6 (nxB_few HOK.out) (fun i _ a ha => nxB_lt HOK.out i a ha)
        (enters_of Tryd.func48 (by kernel_rfl) rfl) (fun W F l i hs hi => round1_any HOK.out i hs hi) (fun W F l hs g hg ha => by have := hs.fB g hg; omega)
        (some ⟨q, 0, none⟩) 1 1 [x] W3 F l (hst.turn t3 (by simp)) (by have := hst.wB; have := t3.size; omega) (fun g hg => by have := hst.xl; have := t3.size; omega) hi3 rfl (by omega)
        (fun i hi => by simp at hi; subst hi; exact hxr) (fun b off e _ => by
          injection e with e
          injection e with e1 e2
          subst e1
          exact ⟨fun hh => by have := hFl _ hh; omega, by omega⟩))
      have hinv := reachL_inv hn6 (nxB Es) [x] l
      obtain ⟨G, hG⟩ : ∃ G, reachL Es.length (nxB Es) [x] l = G := ⟨_, rfl⟩
      rw [hG] at HC hinv hfin
      obtain ⟨l', g⟩ := G
      simp only at HC hinv hfin
      have hgl := nodup_le Es.length g hinv.nd hinv.lo
      have HX := Lib.hid (And.intro hst (And.intro hD (And.intro hDF (And.intro hT (And.intro t3 s3)))))
      have HFIN := Lib.hid hfin
      have HINV := Lib.hid hinv
      have HW3 := Lib.hid hW3
      have HQ := Lib.hid hq
      clear hst hD hDF hT hfin hx hxr hDe hcell e2 e3 t3 s3 hi3 hFl hinv hG hW3 hq HK HS0
      go_wp2_with fail
      rw [HQ.out, HW3.out]
      refine HC.out.mono ?_
      rintro e w4 ⟨F4, V4, rfl, hO4, hV4, hst4, t4, f4⟩
      have hT4 : Turn [] w w4 := by
        obtain ⟨hst, hD, hDF, hT, t3, s3⟩ := HX.out
        have hqq := HQ.out
        refine (hT.trans' t3).trans t4 (fun g hg => .inr ?_)
        have := hst.fB g hg
        have := HRB.out
        have := HR.out
        omega
      have HN4 : Hid (∀ first' : Int, roundL Es (s.d.take k).reverse l' first' = ans → Rw Es r bb V Dv xs s.d w w4 k first' ans) := by
        obtain ⟨hst, hD, hDF, hT, t3, s3⟩ := HX.out
        have hqq := HQ.out
        refine Lib.hid fun first' hf => ⟨F4, l', hst4, (hD.turn' t3).turn t4 hDF, fun g hg hh => ?_, hT4, hf⟩
        rcases f4 g hh with h1 | h1
        · exact hDF g hg h1
        · have := (hD.lt g hg).2
          omega
      obtain ⟨Ag, cg, rfl, hgi, hgc⟩ := hO4.form
      have HGI := Lib.hid hgi
      have HTl := Lib.hid (HH.out.turn' hT4)
      obtain ⟨N, hN⟩ : ∃ N, g.length = N := ⟨_, rfl⟩
      have hN1 : N ≤ 1000 := by have := HOK.out.n; omega
      have HMin : 0 < N → Hid (Calls Tryd.prog 51 #[.slice Ag N cg] w4 fun e w' => (∃ x : Int, e = .returned (.int .i64 x) ∧ x ∈ g ∧ ∀ y ∈ g, x ≤ y) ∧ w4 = w') := fun h0 => Lib.hid (min_any Ag N cg g w4 hgi hN.symm h0 (by omega))
      clear hst4 t4 f4 hO4 hV4 hT4 hgi HX HC
      rw [hN] at hgc hgl ⊢
      rcases g with _ | ⟨y, gt⟩
      · obtain rfl : N = 0 := by simpa using hN.symm
        have HN : Hid (Rw Es r bb V Dv xs s.d w w4 k first ans) := Lib.hid (HN4.out first (by rw [← HFIN.out, if_neg (by simp [roundG])]))
        clear hN HMin HN4 HFIN HGI HTl HINV
        go_wp2_with fail
        go_roundw
        case rel => exact ⟨k, first, by omega, by go_num, rfl, HN⟩
        case measure => simp [intOf] <;> omega
      · rcases gt with _ | ⟨y2, gt⟩
        · obtain rfl : N = 1 := by simpa using hN.symm
          obtain ⟨y0, y1⟩ := HINV.out.lo y (by simp)
          obtain ⟨yn, rfl⟩ := Int.eq_ofNat_of_zero_le y0
          obtain ⟨bg, og, rfl, hbg, hcg⟩ := HGI.out 0 _ rfl
          rw [Nat.add_zero] at hcg
          have HS := Lib.hid (aboveItself_any HTl.out (fun i => by have := HOK.out.few i; omega) yn)
          have HM1 := HMin (by omega)
          cases hb : decide (yn ∈ nxE Es yn) with
          | false =>
            have HN : Hid (Rw Es r bb V Dv xs s.d w w4 k first ans) := Lib.hid (HN4.out first (by rw [← HFIN.out, if_neg (by simp [roundG, hb])]))
            rw [hb] at HS
            clear hN HMin HM1 HN4 HFIN HGI HTl HINV y0 hb hbg
            go_wp2_with fail
            refine HS.out.mono ?_
            rintro e w5 ⟨rfl, t5⟩
            have HN5 := Lib.hid (HN.out.keep t5)
            clear t5 HN
            go_wp2_with fail
            go_roundw
            case rel => exact ⟨k, first, by omega, by go_num, rfl, HN5⟩
            case measure => simp [intOf] <;> omega
          | true =>
            rw [hb] at HS
            have HBAD : Hid (roundG Es [(yn : Int)] = true) := Lib.hid (by simpa [roundG] using hb)
            obtain ⟨g, hge⟩ : ∃ g, g = [(yn : Int)] := ⟨_, rfl⟩
            rw [← hge] at HFIN HBAD HM1 HGI
            have HGE := Lib.hid hge
            clear hN HMin HM1 HTl HINV y0 hb hbg hge
            go_wp2_with fail
            refine HS.out.mono ?_
            rintro e w5 ⟨rfl, t5⟩
            have HM5 := Lib.hid (min_any (some ⟨bg, og, none⟩) 1 cg g w5 (HGI.out.below t5) (by rw [HGE.out]; rfl) (by omega) (by omega))
            have HN5 : Hid (∀ first' : Int, roundL Es (s.d.take k).reverse l' first' = ans → Rw Es r bb V Dv xs s.d w w5 k first' ans) := Lib.hid fun f' hf => (HN4.out f' hf).keep t5
            clear HN4 t5 HGI HGE
            have HN4 := HN5
            clear HN5
            go_wp2_with fail
            refine HM5.out.mono ?_
            rintro e w6 ⟨⟨z, rfl, hz, hzl⟩, rfl⟩
            have hzm := minL_is g z hz hzl
            by_cases hf : first < 0
            · have e4 : decide (first < 0) = true := by simpa using hf
              have HN : Hid (Rw Es r bb V Dv xs s.d w _ k z ans) := Lib.hid (HN4.out z (by rw [← HFIN.out, HBAD.out, hzm, if_pos ⟨rfl, .inl hf⟩]))
              clear hz hzl hzm HN4 HFIN
              go_wp2_with fail
              go_roundw
              case rel => exact ⟨k, z, by omega, by go_num, rfl, HN⟩
              case measure => simp [intOf] <;> omega
            · have e4 : decide (first < 0) = false := by simpa using hf
              by_cases hzf : z < first
              · have e5 : decide (z < first) = true := by simpa using hzf
                have HN : Hid (Rw Es r bb V Dv xs s.d w _ k z ans) := Lib.hid (HN4.out z (by rw [← HFIN.out, HBAD.out, hzm, if_pos ⟨rfl, .inr (by rw [← hzm]; exact hzf)⟩]))
                clear hz hzl hzm HN4 HFIN
                go_wp2_with fail
                go_roundw
                case rel => exact ⟨k, z, by omega, by go_num, rfl, HN⟩
                case measure => simp [intOf] <;> omega
              · have e5 : decide (z < first) = false := by simpa using hzf
                have HN : Hid (Rw Es r bb V Dv xs s.d w _ k first ans) := Lib.hid (HN4.out first (by rw [← HFIN.out, if_neg (by rw [← hzm]; omega)]))
                clear hz hzl hzm HN4 HFIN
                go_wp2_with fail
                go_roundw
                case rel => exact ⟨k, first, by omega, by go_num, rfl, HN⟩
                case measure => simp [intOf] <;> omega
        · have hN2 : 2 ≤ N := by rw [← hN]; simp
          have HM4 := HMin (by omega)
          have HBAD : Hid (roundG Es (y :: y2 :: gt) = true) := Lib.hid rfl
          obtain ⟨g, hge⟩ : ∃ g, g = y :: y2 :: gt := ⟨_, rfl⟩
          rw [← hge] at HFIN HBAD HM4
          clear hge hN HMin HTl HINV HGI
          have n1 : ((N : Int) == 0) = false := by simp; omega
          have n2 : ((N : Int) == 1) = false := by simp; omega
          have n3 : ¬ (N : Int) = 0 := by omega
          have n4 : ¬ (N : Int) = 1 := by omega
          have n5 : ¬ N = 0 := by omega
          have n6 : ¬ N = 1 := by omega
          go_wp2_with fail
          refine HM4.out.mono ?_
          rintro e w6 ⟨⟨z, rfl, hz, hzl⟩, rfl⟩
          have hzm := minL_is g z hz hzl
          by_cases hf : first < 0
          · have e4 : decide (first < 0) = true := by simpa using hf
            have HN : Hid (Rw Es r bb V Dv xs s.d w _ k z ans) := Lib.hid (HN4.out z (by rw [← HFIN.out, HBAD.out, hzm, if_pos ⟨rfl, .inl hf⟩]))
            clear hz hzl hzm HN4 HFIN
            go_wp2_with fail
            go_roundw
            case rel => exact ⟨k, z, by omega, by go_num, rfl, HN⟩
            case measure => simp [intOf] <;> omega
          · have e4 : decide (first < 0) = false := by simpa using hf
            by_cases hzf : z < first
            · have e5 : decide (z < first) = true := by simpa using hzf
              have HN : Hid (Rw Es r bb V Dv xs s.d w _ k z ans) := Lib.hid (HN4.out z (by rw [← HFIN.out, HBAD.out, hzm, if_pos ⟨rfl, .inr (by rw [← hzm]; exact hzf)⟩]))
              clear hz hzl hzm HN4 HFIN
              go_wp2_with fail
              go_roundw
              case rel => exact ⟨k, z, by omega, by go_num, rfl, HN⟩
              case measure => simp [intOf] <;> omega
            · have e5 : decide (z < first) = false := by simpa using hzf
              have HN : Hid (Rw Es r bb V Dv xs s.d w _ k first ans) := Lib.hid (HN4.out first (by rw [← HFIN.out, if_neg (by rw [← hzm]; omega)]))
              clear hz hzl hzm HN4 HFIN
              go_wp2_with fail
              go_roundw
              case rel => exact ⟨k, first, by omega, by go_num, rfl, HN⟩
              case measure => simp [intOf] <;> omega
end Go.Proofs.YtjnphoeifonenaaDoor

/- strings.Clone. -/
set_option linter.unusedSimpArgs false
set_option linter.unusedVariables false
namespace Go.Proofs.YtjnphoeifonenaaDoor
open Go.RowKit

theorem byte_info : (Tryd.prog.info? 5).map (fun i => (i.zero, i.size, i.bytes)) = some (some (.int .u8 0), 1, 1) := by kernel_rfl

set_option maxHeartbeats 4000000 in
set_option maxRecDepth 100000 in
theorem sliteClone_any (s : ByteArray) (w : World) (hlim : s.size ≤ 281474976710656) :
    Calls Tryd.prog 58 #[.string s] w fun e w' => e = .returned (.string s) ∧ Turn [] w w' := by
  by_cases h0 : s.size = 0
  · have hs : s = ⟨#[]⟩ := by
      apply ByteArray.ext
      exact Array.eq_empty_of_size_eq_zero h0
    subst hs
    go_enter Tryd.func58, Tryd.ntmps58
    go_wp2_with fail
    go_ret
    exact ⟨rfl, Turn.refl _ _⟩
  · obtain ⟨i0, hi, hz0, hz1, hz2⟩ := info_parts byte_info
    have hinfo : (Tryd.prog.info? 5).map (·.size) = some 1 := by rw [hi]; simp [hz1]
    have hco : Tryd.prog.cellsOf 5 = 1 := by simp [Program.cellsOf, hi, hz1]
    obtain ⟨M, hM⟩ : ∃ M, M = madeCells (Value.int .u8 0).cells (((s.size : Nat) : Int).toNat * i0.size) := ⟨_, rfl⟩
    have hMs : M.size = s.size := by rw [hM, size_madeCells, hz1]; simp
    have hmk : ∀ W : World, (Instr.makeSlice 62 (.int .i64 (s.size : Int)) (.int .i64 (s.size : Int))).run Tryd.prog W = .ok (.slice (some ⟨W.heap.size, 0, none⟩) s.size s.size) (W.alloc (.cells M 5)) := fun W => by
      have h := run_make (P := Tryd.prog) W 62 5 i0 (.int .u8 0) Tryd.underlying62 hi hz0 .i64 .i64 (s.size : Int) (s.size : Int) (by omega) (by omega) (by rw [hz2]; omega) (by omega)
      rw [← hM] at h
      simpa using h
    clear hM
    have hcp := Lib.run_copy_row_string (P := Tryd.prog) (w.alloc (.cells M 5)) 62 9 3 5 w.heap.size 0 s.size s.size s M 5 Tryd.underlying62 hinfo (heap_alloc_new w _) (Nat.le_refl _) (by omega)
    obtain ⟨Y, hY⟩ : ∃ Y, Y = (M.toList.take 0 ++ Lib.byteCells s.data.toList ++ M.toList.drop (0 + s.size)).toArray := ⟨_, rfl⟩
    rw [← hY] at hcp
    have hYl : Y.toList = Lib.byteCells s.data.toList := by
      rw [hY, List.toList_toArray, List.take_zero, List.nil_append, List.drop_of_length_le (by rw [Array.length_toList]; omega), List.append_nil]
    have hYs : Y.size = s.size := by rw [← Array.length_toList, hYl, Lib.byteCells_length, ← Lib.size_eq]
    have hgY : ((w.alloc (.cells M 5)).setRow w.heap.size Y).heap[w.heap.size]? = some (.cells Y 5 (0, 0)) := setRow_heap _ _ M _ 5 (0, 0) (heap_alloc_new w _)
    have hne : s.data.toList ≠ [] := fun e => h0 (by rw [Lib.size_eq, e]; rfl)
    have hUS := Lib.run_unsafeString_row (P := Tryd.prog) ((w.alloc (.cells M 5)).setRow w.heap.size Y) 122 3 9 5 Tryd.underlying122 hco w.heap.size Y.size (by unfold World.shape?; rw [hgY]) s.data.toList hne (by rw [← Lib.size_eq]; omega) (by rw [← Lib.size_eq]; omega)
      (fun j x hx => Lib.cells_of_row hgY Y.size j _ (by rw [List.take_of_length_le (by rw [Array.length_toList]; exact Nat.le_refl _), hYl]; simp [Lib.byteCells, hx]))
    rw [← Lib.size_eq] at hUS
    clear hY
    go_enter Tryd.func58, Tryd.ntmps58
    go_wp2_with fail
    go_ret
    have hb1 : Below w.heap.size w (w.alloc (.cells M 5)) := (Below.refl _ w).alloc (Nat.le_refl _) _
    have hb2 : Below w.heap.size (w.alloc (.cells M 5)) ((w.alloc (.cells M 5)).setRow w.heap.size Y) := ⟨rfl, rfl, rfl, by simp, fun k hk => setRow_other _ _ _ _ (by omega)⟩
    exact ⟨rfl, Turn.below (Lib.below_freeze (hb1.trans hb2) (p := ⟨w.heap.size, 0, none⟩) (Nat.le_refl _) _)⟩

theorem sClone_any (s : ByteArray) (w : World) (hlim : s.size ≤ 281474976710656) :
    Calls Tryd.prog 45 #[.string s] w fun e w' => e = .returned (.string s) ∧ Turn [] w w' := by
  go_enter Tryd.func45, Tryd.ntmps45
  go_wp2_with fail
  refine (sliteClone_any s w hlim).mono ?_
  rintro e w1 ⟨rfl, ht⟩
  have HT := Lib.hid ht
  clear ht
  go_wp2_with fail
  go_ret
  exact ⟨rfl, HT.out⟩
end Go.Proofs.YtjnphoeifonenaaDoor

/- Maps from texts to numbers, known by a function: what a look-up gives, what a store makes of it. -/
set_option linter.unusedSimpArgs false
set_option linter.unusedVariables false
namespace Go.Proofs.YtjnphoeifonenaaDoor
open Go.RowKit Go.Maps

theorem law9 : Keyed Tryd.prog 9 := string_keyed Tryd.underlying9
def sK (s : ByteArray) : Lit := .string s.data.toList
theorem key9 {s : ByteArray} (h : s.size ≤ maxLen) : keyOf Tryd.prog 9 (.string s) = some (sK s) := Go.WideMaps.keyOf_string_mk Tryd.underlying9 h
theorem sK_inj {a b : ByteArray} (h : sK a = sK b) : a = b := by
  unfold sK at h
  injection h with h
  exact ByteArray.ext (by simpa using h)
theorem zero3 (w : World) : (zeroValue 3).run Tryd.prog w = .ok (.int .i64 0) w := by kernel_rfl

/-- Block m is a map of s entries that holds what f says. -/
def MapS (w : World) (m s : Nat) (f : ByteArray → Option Nat) : Prop :=
  ∃ D : DataW Unit, w.ownsMap Tryd.prog 9 (plainElem Tryd.prog 3) m s D ∧ Maps.size D = s ∧ (∀ i : ByteArray, Maps.has D (sK i) = (f i).isSome) ∧
    ∀ (i : ByteArray) (y : Nat), f i = some y → D.atKey (sK i) (.lit (.int .i64 0)) = .lit (.int .i64 y)

def updS (f : ByteArray → Option Nat) (x : ByteArray) (y : Nat) : ByteArray → Option Nat := fun i => if i = x then some y else f i

theorem MapS.lt {w : World} {m s : Nat} {f : ByteArray → Option Nat} (h : MapS w m s f) : m < w.heap.size := by
  obtain ⟨D, h, _⟩ := h
  exact h.lt
theorem MapS.turn {F : List Nat} {w w' : World} {m s : Nat} {f : ByteArray → Option Nat} (h : MapS w m s f) (t : Turn F w w') (hn : m ∉ F) : MapS w' m s f := by
  obtain ⟨D, ⟨es, clock, hb, r⟩, h2⟩ := h
  exact ⟨D, ⟨es, clock, t.heap hb hn, r⟩, h2⟩
theorem MapS.congr {w : World} {m s : Nat} {f g : ByteArray → Option Nat} (h : MapS w m s f) (e : ∀ i, f i = g i) : MapS w m s g := by
  rw [← funext e]; exact h
theorem MapS.made (w : World) : MapS (w.alloc (.map #[] 0)) w.heap.size 0 (fun _ => none) :=
  ⟨.map [], World.ownsMap_made _ _ _ _, rfl, fun i => rfl, fun i y h => by cases h⟩

theorem wf_small {i : Nat} (h : i ≤ 100000) : (Lit.int .i64 (i : Int)).wf = true := WalkArith.wf_i64 (by omega)

theorem MapS.at {w : World} {m s : Nat} {D : DataW Unit} {f : ByteArray → Option Nat} (h1 : ∀ i : ByteArray, Maps.has D (sK i) = (f i).isSome) (h2 : ∀ (i : ByteArray) (y : Nat), f i = some y → D.atKey (sK i) (.lit (.int .i64 0)) = .lit (.int .i64 y))
    {i : ByteArray} {c : Int} (h : D.atKey (sK i) (.lit (.int .i64 0)) = .lit (.int .i64 c)) : c = (((f i).getD 0 : Nat) : Int) := by
  cases e : f i with
  | none =>
    have h3 := h1 i
    rw [e] at h3
    rw [Maps.atKey_of_not_has h3] at h
    injection h with h; injection h with _ h
    simp [← h]
  | some y =>
    rw [h2 i y e] at h
    injection h with h; injection h with _ h
    simp [← h]

theorem run_lookS_ok {w : World} {m s : Nat} {f : ByteArray → Option Nat} (h : MapS w m s f) (i : ByteArray) (hi : i.size ≤ maxLen) :
    (Instr.lookup 66 (.map (some m)) (.string i) true).run Tryd.prog w = .ok (.tuple #[.int .i64 (((f i).getD 0 : Nat) : Int), .bool (f i).isSome]) w := by
  obtain ⟨D, hown, hs, h1, h2⟩ := h
  obtain ⟨v0, ps, hrun, hv⟩ := hown.look_ok law9 Tryd.underlying66 (zero3 w) (plainElem_int Tryd.underlying3 (by decide)) (key9 hi)
  obtain ⟨c, rfl, hc, hwc⟩ := plainElem_int_inv Tryd.underlying3 hv
  have hat : D.atKey (sK i) (.lit (.int .i64 0)) = .lit (.int .i64 c) := congrArg Prod.fst hc
  rw [hrun, h1 i, MapS.at (w := w) (m := m) (s := s) h1 h2 hat]
theorem run_lookS {w : World} {m s : Nat} {f : ByteArray → Option Nat} (h : MapS w m s f) (i : ByteArray) (hi : i.size ≤ maxLen) :
    (Instr.lookup 66 (.map (some m)) (.string i) false).run Tryd.prog w = .ok (.int .i64 (((f i).getD 0 : Nat) : Int)) w := by
  obtain ⟨D, hown, hs, h1, h2⟩ := h
  obtain ⟨c, hrun, hat, hwc⟩ := hown.lookup_int law9 Tryd.underlying66 Tryd.underlying3 (zero3 w) (key9 hi)
  rw [hrun, MapS.at (w := w) (m := m) (s := s) h1 h2 hat]
theorem run_makeMap_hint (w : World) (k : Nat) : (Instr.makeMap 66 (some (.int .i64 (k : Int)))).run Tryd.prog w = .ok (.map (some w.heap.size)) (w.alloc (.map #[] 0)) := by
  simp [Instr.makeMap, run_underlying Tryd.underlying66, asInt, asIntOf, Result.andThen]

section
variable {ops : Array Oper} {rest : List Oper} {o : Oper} {a : Act} {Q : Exit → Act → World → Prop}

theorem wpList_lookS (w : World) (hg : o.guard = none) (mo x : Operand) (hop : o.op = Op.lookup 66 mo x false) (m s : Nat) (f : ByteArray → Option Nat) (hm : a.eval mo = .map (some m)) (h : MapS w m s f)
    (i : ByteArray) (hx : a.eval x = .string i) (hi : i.size ≤ maxLen) (hK : wpList Tryd.prog ops Q rest (a.put o.dst (.int .i64 (((f i).getD 0 : Nat) : Int))) w) : wpList Tryd.prog ops Q (o :: rest) a w := by
  obtain ⟨D, hown, hs, h1, h2⟩ := h
  refine wpList_lookup_own_int w hg mo x 66 hop 9 3 .i64 law9 Tryd.underlying66 Tryd.underlying3 (zero3 _) m s D hm hown _ _ hx (key9 hi) fun c hat _ => ?_
  rw [MapS.at (w := w) (m := m) (s := s) h1 h2 hat]
  exact hK

theorem wpList_lookS_ok (w : World) (hg : o.guard = none) (mo x : Operand) (hop : o.op = Op.lookup 66 mo x true) (m s : Nat) (f : ByteArray → Option Nat) (hm : a.eval mo = .map (some m)) (h : MapS w m s f)
    (i : ByteArray) (hx : a.eval x = .string i) (hi : i.size ≤ maxLen) (hK : wpList Tryd.prog ops Q rest (a.put o.dst (.tuple #[.int .i64 (((f i).getD 0 : Nat) : Int), .bool (f i).isSome])) w) : wpList Tryd.prog ops Q (o :: rest) a w := by
  obtain ⟨D, hown, hs, h1, h2⟩ := h
  refine wpList_lookup_own_ok_int w hg mo x 66 hop 9 3 .i64 law9 Tryd.underlying66 Tryd.underlying3 (zero3 _) m s D hm hown _ _ hx (key9 hi) fun c hat _ => ?_
  rw [MapS.at (w := w) (m := m) (s := s) h1 h2 hat, h1 i]
  exact hK

theorem wpList_lenS (w : World) (hg : o.guard = none) (mo : Operand) (hop : o.op = Op.call { callee := Callee.builtin Builtin.len, args := #[mo], argTypes := #[66] }) (m s : Nat) (f : ByteArray → Option Nat) (hm : a.eval mo = .map (some m)) (h : MapS w m s f)
    (hK : wpList Tryd.prog ops Q rest (a.put o.dst (.int .i64 (s : Int))) w) : wpList Tryd.prog ops Q (o :: rest) a w := by
  obtain ⟨D, hown, hs, h1, h2⟩ := h
  refine wpList_len_own w hg mo 66 hop 9 3 Tryd.underlying66 _ m s D hm hown ?_
  rw [hs]
  exact hK

theorem run_lenS (w : World) (m s : Nat) (f : ByteArray → Option Nat) (h : MapS w m s f) (ty : TypeId) : (Builtin.len_ #[66] ty #[.map (some m)]).run Tryd.prog w = .ok (.int .i64 (s : Int)) w := by
  obtain ⟨D, hown, hs, h1, h2⟩ := h
  rw [hown.len Tryd.underlying66, hs]

theorem ownsMap_resize {w : World} {m n : Nat} {D : DataW Unit} (h : w.ownsMap Tryd.prog 9 (plainElem Tryd.prog 3) m n D) : w.ownsMap Tryd.prog 9 (plainElem Tryd.prog 3) m (Maps.size D) D := by
  obtain ⟨es, clock, hb, F, hs, rfl⟩ := h
  exact ⟨es, clock, hb, F, Nat.le_of_eq (by simp [Maps.size, length_sorted]), rfl⟩

theorem wpList_storeS (w : World) (hg : o.guard = none) (mo x v : Operand) (hop : o.op = Op.mapUpdate 66 mo x v) (m s : Nat) (f : ByteArray → Option Nat) (hm : a.eval mo = .map (some m)) (h : MapS w m s f) (hs : s ≤ 1000000)
    (i : ByteArray) (y : Nat) (hx : a.eval x = .string i) (hv : a.eval v = .int .i64 (y : Int)) (hi : i.size ≤ maxLen) (hy : y ≤ 100000)
    (hK : ∀ w', MapS w' m (if (f i).isSome then s else s + 1) (updS f i y) → Turn [m] w w' → wpList Tryd.prog ops Q rest (a.put o.dst undef) w') : wpList Tryd.prog ops Q (o :: rest) a w := by
  obtain ⟨D, hown, hsz, h1, h2⟩ := h
  refine wpList_mapUpdate_own w hg mo x v 66 hop 9 3 law9 Tryd.underlying66 _ m s D hm hown (by unfold maxLen; omega) _ _ _ hx hv (key9 hi) _ [] (plainElem_int Tryd.underlying3 (wf_small hy)) fun w' hown' hgrow => ?_
  refine hK w' ⟨D.put (sK i) (.lit (.int .i64 (y : Int))), ?_, ?_, ?_, ?_⟩ ((Turn.refl _ _).grown hgrow (fun k hk => .inl (by cases hk; simp)))
  · have := ownsMap_resize hown'
    rw [Maps.size_put (hown.tidy law9), hsz, h1 i] at this
    exact this
  · rw [Maps.size_put (hown.tidy law9), hsz, h1 i]
  · intro j
    unfold updS
    by_cases e : j = i
    · subst e
      rw [Maps.has_put_same hown.isMap (law9.key (key9 hi))]
      simp
    · rw [Maps.has_put_other (fun e2 => e (sK_inj e2)), h1 j]
      simp [e]
  · intro j z hz
    unfold updS at hz
    by_cases e : j = i
    · subst e
      rw [if_pos rfl] at hz
      injection hz with hz
      subst hz
      exact Maps.atKey_put_same hown.isMap (law9.key (key9 hi)) _ _
    · rw [if_neg e] at hz
      rw [Maps.atKey_put_other (fun e2 => e (sK_inj e2))]
      exact h2 j z hz
end
end Go.Proofs.YtjnphoeifonenaaDoor

/- The classes that came in; firsts. -/
set_option linter.unusedSimpArgs false
set_option linter.unusedVariables false
set_option maxRecDepth 100000
namespace Go.Proofs.YtjnphoeifonenaaDoor
open Go.RowKit

/-- What a table asks of a class. -/
structure K8 where
  nm : ByteArray
  sup : ByteArray
  face : Bool
  fcs : List ByteArray
  p : Int
  q : Int
/-- The slice at A reads as the texts, below B. -/
def StsT (B : Nat) (w : World) (A : Option Addr) (l : List ByteArray) : Prop := ∀ (k : Nat) (s : ByteArray), l[k]? = some s → ∃ b off, A = some ⟨b, off, none⟩ ∧ b < B ∧ b < w.heap.size ∧ w.cell? ⟨b, off + k, none⟩ = some (.string s)
theorem StsT.turn {B : Nat} {w w' : World} {F : List Nat} {A : Option Addr} {l : List ByteArray} (h : StsT B w A l) (t : Turn F w w') (hF : ∀ g ∈ F, B ≤ g) : StsT B w' A l := fun k s hs => by
  obtain ⟨b, off, e, hb, hl, hc⟩ := h k s hs
  exact ⟨b, off, e, hb, Nat.lt_of_lt_of_le hl t.size, (t.cell (p := ⟨b, off + k, none⟩) hl (fun hg => by have h1 : B ≤ b := hF _ hg; omega)).trans hc⟩
/-- Ten cells read as the class. -/
def RdK (B : Nat) (w : World) (cs : List Value) (c : K8) : Prop := ∃ A3 c3 A4 n4 c4 A5 n5 c5 A6 n6 c6 I, cs = [.string c.nm, .string c.sup, .bool c.face, .slice A3 c.fcs.length c3, .slice A4 n4 c4, .slice A5 n5 c5, .slice A6 n6 c6, .pointer I, .int .i64 c.p, .int .i64 c.q] ∧ StsT B w A3 c.fcs
def RdKs (B : Nat) (w : World) (A : Option Addr) (l : List K8) : Prop := ∀ (j : Nat) (c : K8), l[j]? = some c → ∃ b off cs, A = some ⟨b, off, none⟩ ∧ b < B ∧ b < w.heap.size ∧ (∀ (i : Nat) (v : Value), cs[i]? = some v → w.cell? ⟨b, off + j * 10 + i, none⟩ = some v) ∧ RdK B w cs c
theorem RdKs.turn {B : Nat} {w w' : World} {F : List Nat} {A : Option Addr} {l : List K8} (h : RdKs B w A l) (t : Turn F w w') (hF : ∀ g ∈ F, B ≤ g) : RdKs B w' A l := fun j c hc => by
  obtain ⟨b, off, cs, e, hb, hl, hcell, A3, c3, A4, n4, c4, A5, n5, c5, A6, n6, c6, I, e2, hs⟩ := h j c hc
  exact ⟨b, off, cs, e, hb, Nat.lt_of_lt_of_le hl t.size, fun i v hv => (t.cell (p := ⟨b, off + j * 10 + i, none⟩) hl (fun hg => by have h1 : B ≤ b := hF _ hg; omega)).trans (hcell i v hv),
    A3, c3, A4, n4, c4, A5, n5, c5, A6, n6, c6, I, e2, hs.turn t hF⟩
/-- The first of the first k that has a name. -/
def fstF (l : List K8) (k : Nat) (s : ByteArray) : Option Nat := (l.take k).findIdx? (fun c => decide (c.nm = s))
theorem fstF_zero (l : List K8) : fstF l 0 = fun _ => none := by
  funext s
  simp [fstF]
theorem fstF_succ {l : List K8} {k : Nat} {c : K8} (h : l[k]? = some c) : fstF l (k + 1) = if (fstF l k c.nm).isSome then fstF l k else updS (fstF l k) c.nm k := by
  have hk : k < l.length := (List.getElem?_eq_some_iff.1 h).1
  funext s
  unfold fstF updS
  rw [take_snoc h, List.findIdx?_append]
  have hl : (l.take k).length = k := by rw [List.length_take]; omega
  by_cases hs : (List.findIdx? (fun d : K8 => decide (d.nm = c.nm)) (l.take k)).isSome = true
  · rw [if_pos hs]
    by_cases e : c.nm = s
    · subst e
      obtain ⟨i, hi⟩ := Option.isSome_iff_exists.1 hs
      rw [hi]
      rfl
    · simp [e]
  · rw [if_neg hs]
    by_cases e : c.nm = s
    · subst e
      have hn : List.findIdx? (fun d : K8 => decide (d.nm = c.nm)) (l.take k) = none := by simpa using hs
      rw [hn]
      simp [hl]
    · simp [e, Ne.symm e]

theorem max9 {s : ByteArray} (h : s.size ≤ 281474976710656) : s.size ≤ maxLen := by unfold maxLen; omega
set_option maxHeartbeats 6400000 in
theorem firsts_any (A : Option Addr) (c B : Nat) (l : List K8) (w : World) (hr : RdKs B w A l) (hB : B ≤ w.heap.size) (hl : l.length ≤ 1000) (hs : ∀ k ∈ l, k.nm.size ≤ 281474976710656) :
    Calls Tryd.prog 26 #[.slice A l.length c] w fun e w' => ∃ m s, e = .returned (.map (some m)) ∧ w.heap.size ≤ m ∧ MapS w' m s (fstF l l.length) ∧ s ≤ l.length ∧ Turn [] w w' := by
  have hmk := run_makeMap_hint
  obtain ⟨n, hn⟩ : ∃ n, l.length = n := ⟨_, rfl⟩
  obtain ⟨r, hrr⟩ : ∃ r, w.heap.size = r := ⟨_, rfl⟩
  have HR := Lib.hid hr
  have HB := Lib.hid hB
  have HN := Lib.hid hn
  have HS := Lib.hid hs
  have HRR := Lib.hid hrr
  rw [hn] at hl ⊢
  have t1 : Turn [] w (w.alloc (.map #[] 0)) := (Turn.refl [] w).alloc _
  have HM0 : Hid (∃ s, MapS (w.alloc (.map #[] 0)) r s (fstF l 0) ∧ s ≤ 0 ∧ Turn [] w (w.alloc (.map #[] 0))) := Lib.hid ⟨0, by rw [fstF_zero, ← hrr]; exact MapS.made w, Nat.le_refl _, t1⟩
  clear hr hB hn hs hrr t1
  go_enter Tryd.func26, Tryd.ntmps26
  go_wp2_with fail
  rw [HRR.out]
  go_loopw [13] (fun v13 wr => ∃ k : Nat, k ≤ n ∧ v13 = .int .i64 (k : Int) ∧ Hid (∃ s, MapS wr r s (fstF l k) ∧ s ≤ k ∧ Turn [] w wr)) (fun v13 _ => n - (intOf v13).toNat)
  case atStart => exact ⟨0, Nat.zero_le _, rfl, HM0⟩
  case round =>
    obtain ⟨k, hk, rfl, HK⟩ := hrel
    by_cases hlt : k < n
    · obtain ⟨s, hM, hsk, hT⟩ := HK.out
      obtain ⟨x, hx⟩ := at_lt (show k < l.length by have := HN.out; omega)
      obtain ⟨b, off, cs, rfl, hb, hbl, hcell, A3, c3, A4, n4, c4, A5, n5, c5, A6, n6, c6, I, rfl, hst⟩ := (HR.out.turn hT (by simp)) k x hx
      have hxs := HS.out x (List.mem_of_getElem? hx)
      have e0 : wr.cell? ⟨b, off + k * 10, none⟩ = some (.string x.nm) := hcell 0 _ rfl
      have e1 := hcell 1 _ rfl
      have e2 := hcell 2 _ rfl
      have e3 := hcell 3 _ rfl
      have e4 := hcell 4 _ rfl
      have e5 := hcell 5 _ rfl
      have e6 := hcell 6 _ rfl
      have e7 := hcell 7 _ rfl
      have e8 := hcell 8 _ rfl
      have e9 := hcell 9 _ rfl
      have d1 : decide ((k : Int) < (n : Int)) = true := by simp; omega
      have d2 : (k : Int) < (n : Int) := by omega
      have tA : Turn [] wr (wr.alloc (.cells #[.string x.nm, .string x.sup, .bool x.face, .slice A3 x.fcs.length c3, .slice A4 n4 c4, .slice A5 n5 c5, .slice A6 n6 c6, .pointer I, .int .i64 x.p, .int .i64 x.q] 51)) := (Turn.refl [] wr).alloc _
      have hlook := run_lookS_ok (hM.turn tA (by simp)) x.nm (max9 hxs)
      obtain ⟨y, hy⟩ : ∃ y, (fstF l k x.nm).getD 0 = y := ⟨_, rfl⟩
      rw [hy] at hlook
      have hsuc := fstF_succ hx
      have HC := Lib.hid (fun W => sClone_any x.nm W hxs)
      have HX := Lib.hid (And.intro hM (And.intro hsk (And.intro hT (And.intro tA hsuc))))
      have HXS := Lib.hid (max9 hxs)
      have hsk2 : s ≤ 1000000 := by omega
      have HO : Hid ((fstF l k x.nm).isSome = (fstF l k x.nm).isSome) := Lib.hid rfl
      cases ho : (fstF l k x.nm).isSome with
      | true =>
        rw [ho] at hlook
        have HN1 : Hid (∃ s, MapS (wr.alloc (.cells #[.string x.nm, .string x.sup, .bool x.face, .slice A3 x.fcs.length c3, .slice A4 n4 c4, .slice A5 n5 c5, .slice A6 n6 c6, .pointer I, .int .i64 x.p, .int .i64 x.q] 51)) r s (fstF l (k + 1)) ∧ s ≤ k + 1 ∧ Turn [] w (wr.alloc (.cells #[.string x.nm, .string x.sup, .bool x.face, .slice A3 x.fcs.length c3, .slice A4 n4 c4, .slice A5 n5 c5, .slice A6 n6 c6, .pointer I, .int .i64 x.p, .int .i64 x.q] 51))) :=
          Lib.hid ⟨s, by rw [hsuc, if_pos ho]; exact hM.turn tA (by simp), by omega, hT.trans' tA⟩
        clear hM hT hx hcell hst hxs tA hy hsuc HC HX ho HK HO hsk
        go_wp2_with fail
        go_roundw
        case rel => exact ⟨k + 1, by omega, by go_num, HN1⟩
        case measure => simp [intOf]; omega
      | false =>
        rw [ho] at hlook
        have HO2 := Lib.hid ho
        clear hM hT hx hcell hst hxs tA hy hsuc ho HK HO hsk
        go_wp2_with fail
        refine (HC.out _).mono ?_
        rintro e w3 ⟨rfl, t3⟩
        have HM3 := Lib.hid (HX.out.1.turn (HX.out.2.2.2.1.trans' t3) (by simp))
        have HT3 := Lib.hid (HX.out.2.2.1.trans' (HX.out.2.2.2.1.trans' t3))
        have hk1 : k ≤ 100000 := by omega
        clear t3 HC
        go_wp2_with (at_mapUpdate
                     refine wpList_storeS _ rfl (.tmp 27) (.tmp 30) (.tmp 31) rfl r s (fstF l k) rfl HM3.out hsk2 x.nm k rfl rfl HXS.out hk1 ?_
                     intro w4 hm4 ht4
                     have HM4 := Lib.hid (And.intro hm4 ht4)
                     clear hm4 ht4)
        have HN1 : Hid (∃ s, MapS w4 r s (fstF l (k + 1)) ∧ s ≤ k + 1 ∧ Turn [] w w4) := by
          obtain ⟨hM, hsk, hT, tA, hsuc⟩ := HX.out
          obtain ⟨hm4, ht4⟩ := HM4.out
          rw [HO2.out] at hm4
          simp only [Bool.false_eq_true, if_false] at hm4
          refine Lib.hid ⟨s + 1, by rw [hsuc, HO2.out]; simpa using hm4, by omega, HT3.out.trans ht4 (fun g hg => .inr ?_)⟩
          simp at hg
          have := HRR.out
          omega
        clear HM4 HX HM3 HT3
        go_roundw
        case rel => exact ⟨k + 1, by omega, by go_num, HN1⟩
        case measure => simp [intOf]; omega
    · obtain rfl : k = n := by omega
      have d1 : decide ((k : Int) < (k : Int)) = false := by simp
      go_wp2_with fail
      go_ret
      obtain ⟨s, hM, hsk, hT⟩ := HK.out
      refine ⟨r, s, rfl, by have := HRR.out; omega, hM, hsk, hT⟩
end Go.Proofs.YtjnphoeifonenaaDoor

/- fill$1: a name's number, if it is that of a class, or of an interface. -/
set_option linter.unusedSimpArgs false
set_option linter.unusedVariables false
set_option maxRecDepth 100000
namespace Go.Proofs.YtjnphoeifonenaaDoor
open Go.RowKit

/-- What find answers. -/
def fndR (l : List K8) (s : ByteArray) (f : Bool) : Int × Bool :=
  match fstF l l.length s with
  | none => (0, false)
  | some i => ((i : Int), decide (((l[i]?).map (·.face)).getD false = f))
/-- What find reads: the table's map, the classes. -/
structure Fd (B : Nat) (l : List K8) (tb lb t m s : Nat) (V : Value) (A : Option Addr) (c : Nat) (w : World) : Prop where
  tc : w.cell? ⟨tb, 0, none⟩ = some (.pointer (some ⟨t, 0, none⟩))
  lc : w.cell? ⟨lb, 0, none⟩ = some (.slice A l.length c)
  bk : w.cell? ⟨t, 0, none⟩ = some (.map (some m))
  mp : MapS w m s (fstF l l.length)
  ks : RdKs B w A l
theorem fstF_lt {l : List K8} {s : ByteArray} {i : Nat} (h : fstF l l.length s = some i) : i < l.length ∧ ∃ c, l[i]? = some c ∧ c.nm = s := by
  unfold fstF at h
  rw [List.take_length] at h
  obtain ⟨h1, h2, _⟩ := List.findIdx?_eq_some_iff_getElem.1 h
  exact ⟨h1, _, List.getElem?_eq_getElem h1, by simpa using h2⟩

set_option maxHeartbeats 6400000 in
theorem find_any8 {B : Nat} {l : List K8} {tb lb t m s : Nat} {V : Value} {A : Option Addr} {c : Nat} {w : World} (h : Fd B l tb lb t m s V A c w) (x : ByteArray) (f : Bool) (hx : x.size ≤ 281474976710656) :
    Calls Tryd.prog 46 #[.string x, .bool f, .pointer (some ⟨tb, 0, none⟩), .pointer (some ⟨lb, 0, none⟩)] w fun e w' => e = .returned (.tuple #[.int .i64 (fndR l x f).1, .bool (fndR l x f).2]) ∧ Turn [] w w' := by
  have hlook := run_lookS_ok h.mp x (max9 hx)
  have c1 := h.tc
  have c2 := h.lc
  have c3 := h.bk
  cases hf : fstF l l.length x with
  | none =>
    have e1 : fndR l x f = (0, false) := by unfold fndR; rw [hf]
    rw [e1]
    rw [hf] at hlook
    simp only [Option.getD_none, Option.isSome_none] at hlook
    have hlook2 : (Instr.lookup 66 (.map (some m)) (.string x) true).run Tryd.prog w = .ok (.tuple #[.int .i64 0, .bool false]) w := hlook
    clear h hf e1 hlook
    go_enter Tryd.func46, Tryd.ntmps46
    go_wp2_with fail
    go_quiet (fail)
    go_wp2_with fail
    go_ret2
    exact ⟨rfl, (Turn.refl [] _).drewN _⟩
  | some i =>
    obtain ⟨hi, k, hk, hkn⟩ := fstF_lt hf
    obtain ⟨b, off, cs, rfl, hb, hbl, hcell, A3, c3', A4, n4, c4, A5, n5, c5, A6, n6, c6, I, rfl, hst⟩ := h.ks i k hk
    have e2 : w.cell? ⟨b, off + i * 10 + 2, none⟩ = some (.bool k.face) := hcell 2 _ rfl
    have e1 : fndR l x f = ((i : Int), decide (k.face = f)) := by unfold fndR; rw [hf]; simp [hk]
    rw [e1]
    rw [hf] at hlook
    simp only [Option.getD_some, Option.isSome_some] at hlook
    obtain ⟨n, hn⟩ : ∃ n, l.length = n := ⟨_, rfl⟩
    rw [hn] at c2 hi
    have d1 : (i : Int) < (n : Int) := by omega
    have d2 : decide ((i : Int) < (n : Int)) = true := by simp; omega
    obtain ⟨kf, hkf⟩ : ∃ kf, k.face = kf := ⟨_, rfl⟩
    rw [hkf] at e2 ⊢
    clear h hf e1 hk hkn hcell hst hn hkf
    go_enter Tryd.func46, Tryd.ntmps46
    cases kf <;> cases f
    all_goals
      go_wp2_with fail
      go_quiet (fail)
      go_wp2_with fail
      go_ret2
      exact ⟨rfl, (Turn.refl [] _).drewN _⟩
end Go.Proofs.YtjnphoeifonenaaDoor
