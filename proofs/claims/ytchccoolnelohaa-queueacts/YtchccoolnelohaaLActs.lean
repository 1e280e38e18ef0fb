/- QueueActs: whatever is put and taken, each answer, and what is in it, is the document's. -/
import Derived.Test.YtchccoolnelohaaRef
set_option linter.unusedSimpArgs false
set_option linter.unusedVariables false
namespace Go.Proofs.Ytchccoolnelohaa
open Go.RowKit Go.Maps

theorem Foot.at {n : Nat} {F G : List Nat} (h : Foot n F G) {g : Nat} (hg : g ∈ G) : g ∈ F ∨ n ≤ g := h g hg
theorem sameB_self (l : List Int) : sameB l l = true := by simp [sameB]
/-- The queue's line is L, and the reference's slice at A reads as L, apart from it. -/
def St (n : Nat) (w : World) (b : Nat) (A : Option Addr) (L : List Int) : Prop := ∃ F, Qu w b F L ∧ Foot n [] F ∧ Ints w A L ∧ ∀ a, A = some a → a.block ∉ F
theorem Ints.tail {w : World} {g off : Nat} {x : Int} {l : List Int} (h : Ints w (some ⟨g, off, none⟩) (x :: l)) : Ints w (some ⟨g, off + 1, none⟩) l := fun k y hy => by
  obtain ⟨b, o, e, hlt, hc⟩ := h (k + 1) y (by simpa using hy)
  cases e
  exact ⟨g, off + 1, rfl, hlt, by rw [show off + 1 + k = off + (k + 1) by omega]; exact hc⟩

set_option maxRecDepth 100000 in
set_option maxHeartbeats 8000000 in
theorem acts_law (A : Option Addr) (c : Nat) (ls : List (List Int)) (ask : Int) (w : World) (hl : ls.length ≤ 9223372036854775807) (hls : ∀ l ∈ ls, l.length ≤ 9223372036854775807) (hA : Rws w A ls) (hx : (Lit.int .i64 ask).wf = true) :
    Calls Try.prog 3 #[.slice A ls.length c, .int .i64 ask] w fun e w' => e = .returned (.bool true) ∧ Turn [] w w' := by
  have HA := Lib.hid hA
  have HX := Lib.hid hx
  have HL := Lib.hid hls
  clear hA hx hls
  by_cases h120 : 120 < ls.length
  · have d : decide ((120 : Int) < (ls.length : Int)) = true := by simp; omega
    have d' : decide (120 < ls.length) = true := by simp; omega
    go_enter Try.func3, Try.ntmps3
    go_wp2_with fail
    refine (awake_any _).mono ?_
    rintro e w1 ⟨rfl, ht1⟩
    have HT1 := Lib.hid ht1
    clear ht1
    go_wp2_with fail
    refine (awake_any _).mono ?_
    rintro e w2 ⟨rfl, ht2⟩
    have HT2 := Lib.hid (HT1.out.trans' ht2)
    clear ht2
    go_wp2_with fail
    go_ret
    exact ⟨rfl, HT2.out⟩
  · have d : decide ((120 : Int) < (ls.length : Int)) = false := by simp; omega
    have d' : decide (120 < ls.length) = false := by simp; omega
    go_enter Try.func3, Try.ntmps3
    go_wp2_with fail
    refine (awake_any _).mono ?_
    rintro e w1 ⟨rfl, ht1⟩
    have HT1 := Lib.hid ht1
    clear ht1
    go_wp2_with fail
    (with_reducible refine (new_any _).mono ?_)
    rintro e w2 ⟨b, rfl, hq2, hb2, ht2⟩
    have HQ2 : Hid (St w.heap.size w2 b none []) := Lib.hid ⟨[b], hq2, fun g hg => .inr (by have := HT1.out.size; simp at hg; omega), Ints.nil _ _, fun a h => by cases h⟩
    have HT2 := Lib.hid (HT1.out.trans' ht2)
    clear hq2 ht2 HT1 hb2
    go_wp2_with fail
    go_loopw [6, 7] (fun tl ti wr => ∃ (i : Nat) (L : List Int) (D : Option Addr) (cD : Nat), i ≤ ls.length ∧ L.length ≤ 20 * i ∧ L.length ≤ cD ∧ tl = .slice D L.length cD ∧ ti = .int .i64 (i : Int) ∧ Hid (St w.heap.size wr b D L) ∧ Hid (Turn [] w wr)) (fun _ ti _ => ls.length - (intOf ti).toNat)
    case atStart => exact ⟨0, [], none, 0, Nat.zero_le _, Nat.zero_le _, Nat.le_refl _, rfl, rfl, HQ2, HT2⟩
    case round =>
      obtain ⟨i, L, D, cD, hi, hLi, hLc, rfl, rfl, HQ, HT⟩ := hrel
      by_cases hlt : i < ls.length
      · obtain ⟨r, hr⟩ := at_lt hlt
        obtain ⟨g, off, Ar, cr, rfl, hg, hcell, hIr⟩ := (HA.out.turn' HT.out) i r hr
        have HIr := Lib.hid hIr
        have hr9 := HL.out r (List.mem_of_getElem? hr)
        have HRb : Hid (0 < r.length → ∀ a, Ar = some a → a.block < w.heap.size) := Lib.hid (fun h0 a ha => by
          obtain ⟨g', off', Ar', cr', e', hg', hcell', hIr'⟩ := HA.out i r hr
          cases e'
          have : some (Value.slice Ar' r.length cr') = some (Value.slice Ar r.length cr) := by
            rw [← hcell', ← hcell]
            exact ((HT.out.cell (p := ⟨g, off + i, none⟩) hg' (by simp))).symm
          injection this with this
          injection this with e1 e2 e3
          subst e1
          obtain ⟨y, hy⟩ := at_lt h0
          obtain ⟨b1, o1, e1, hb1, _⟩ := hIr' 0 y hy
          rw [ha] at e1
          cases e1
          exact hb1)
        clear hr hIr
        obtain ⟨F, hq, hf, hI, hd⟩ := HQ.out
        have HQ3 := Lib.hid hq
        have HF3 := Lib.hid hf
        have HI3 := Lib.hid hI
        have HD3 := Lib.hid hd
        clear hq hf hI hd HQ
        by_cases h20 : 20 < r.length
        · have e1 : decide ((20 : Int) < (r.length : Int)) = true := by simp; omega
          have e2 : decide (20 < r.length) = true := by simp; omega
          go_wp2_with fail
          go_ret
          exact ⟨rfl, HT.out⟩
        · have e1 : decide ((20 : Int) < (r.length : Int)) = false := by simp; omega
          have e2 : decide (20 < r.length) = false := by simp; omega
          by_cases h0 : r.length = 0
          · have z1 : ((r.length : Int) == 0) = true := by simp; exact List.eq_nil_of_length_eq_zero h0
            have z2 : (r.length == 0) = true := by simp; exact List.eq_nil_of_length_eq_zero h0
            cases L with
            | nil =>
              go_wp2_with fail
              refine (next_none b F _ HQ3.out).mono ?_
              rintro e w' ⟨rfl, rfl⟩
              go_wp2_with fail
              refine (len_any b F [] _ HQ3.out).mono ?_
              rintro e w' ⟨rfl, rfl⟩
              go_wp2_with fail
              refine (list_any b F [] _ HQ3.out (by omega)).mono ?_
              rintro e wl ⟨v, rfl, ho, htl⟩
              obtain ⟨Al, cl, rfl, hIl, hcl, _⟩ := ho.slice
              have HIl := Lib.hid hIl
              have HQl := Lib.hid (HQ3.out.turn' htl)
              have HIl2 := Lib.hid (HI3.out.below htl)
              have HTl := Lib.hid (HT.out.trans' htl)
              clear ho hIl htl
              go_wp2_with fail
              (with_reducible refine (refSame_any Al D 0 0 cl cD [] [] _ HIl.out HIl2.out rfl rfl (by omega) (by omega)).mono ?_)
              rw [sameB_self]
              rintro e wm ⟨rfl, qm, rfl⟩
              have HQm := Lib.hid (HQl.out.turn' ((Turn.refl [] wl).drewN qm))
              have HIm := Lib.hid (HIl2.out.below ((Turn.refl [] wl).drewN qm))
              have HTm := Lib.hid (HTl.out.drewN qm)
              clear HIl HQl HIl2 HTl
              go_wp2_with fail
              (with_reducible refine (has_any b F [] ask _ HQm.out HX.out).mono ?_)
              rintro e wn ⟨rfl, htn⟩
              have HQn := Lib.hid (HQm.out.turn' htn)
              have HIn := Lib.hid (HIm.out.below htn)
              have HTn := Lib.hid (HTm.out.trans' htn)
              clear htn HQm HIm HTm
              obtain ⟨bb, hbb⟩ : ∃ bb, inL [] ask = bb := ⟨_, rfl⟩
              have HBB : Hid (hasB [] ask = bb) := Lib.hid hbb
              rw [hbb]
              clear hbb
              go_wp2_with fail
              (with_reducible refine (refHas_any D 0 cD [] ask _ HIn.out rfl (by omega)).mono ?_)
              rw [HBB.out]
              rintro e wo ⟨rfl, rfl⟩
              have bq : (bb != bb) = false := by simp
              go_wp2_with fail
              go_roundw
              case rel => exact ⟨i + 1, [], D, cD, by omega, by first | (simp only [List.length_nil, List.length_cons]; omega) | omega, by omega, rfl, by go_num, Lib.hid ⟨F, HQn.out, HF3.out, HIn.out, HD3.out⟩, HTn⟩
              case measure => simp [intOf]; omega
            | cons x s =>
              obtain ⟨gd, od, rfl, hgd, hcd⟩ := HI3.out 0 x rfl
              rw [Nat.add_zero] at hcd
              rw [List.length_cons] at hLi hLc ⊢
              have p1 : decide ((0 : Int) < (s.length : Int) + 1) = true := by simp <;> omega
              have p3 : ((x : Int) != x) = false := by simp
              have hgF : gd ∉ F := HD3.out _ rfl
              have HgF := Lib.hid hgF
              clear hgF
              by_cases hc1 : cD = 1
              · subst hc1
                have hs0 : s = [] := List.eq_nil_of_length_eq_zero (by omega)
                subst hs0
                go_wp2_with fail
                refine (next_some b F x [] _ HQ3.out (by simp)).mono ?_
                rintro e w4 ⟨rfl, hq4, ht4⟩
                have c4 := (ht4.cell (p := ⟨gd, od, none⟩) hgd HgF.out).trans hcd
                have hgd4 : gd < w4.heap.size := Nat.lt_of_lt_of_le hgd ht4.size
                have HQ4 := Lib.hid hq4
                have HI4 : Hid (Ints w4 (some ⟨gd, od, none⟩) []) := Lib.hid (Ints.nil _ _)
                have HT4 := Lib.hid (HT.out.trans ht4 HF3.out)
                clear hq4 ht4 HQ3 HT HI3
                go_wp2_with fail
                refine (len_any b F [] _ HQ4.out).mono ?_
                rintro e w' ⟨rfl, rfl⟩
                go_wp2_with fail
                refine (list_any b F [] _ HQ4.out (by omega)).mono ?_
                rintro e wl ⟨v, rfl, ho, htl⟩
                obtain ⟨Al, cl, rfl, hIl, hcl, _⟩ := ho.slice
                have HIl := Lib.hid hIl
                have HQl := Lib.hid (HQ4.out.turn' htl)
                have HIl2 := Lib.hid (HI4.out.below htl)
                have HTl := Lib.hid (HT4.out.trans' htl)
                clear ho hIl htl
                go_wp2_with fail
                (with_reducible refine (refSame_any Al (some ⟨gd, od, none⟩) 0 0 cl 0 [] [] _ HIl.out HIl2.out rfl rfl (by omega) (by omega)).mono ?_)
                rw [sameB_self]
                rintro e wm ⟨rfl, qm, rfl⟩
                have HQm := Lib.hid (HQl.out.turn' ((Turn.refl [] wl).drewN qm))
                have HIm := Lib.hid (HIl2.out.below ((Turn.refl [] wl).drewN qm))
                have HTm := Lib.hid (HTl.out.drewN qm)
                clear HIl HQl HIl2 HTl
                go_wp2_with fail
                (with_reducible refine (has_any b F [] ask _ HQm.out HX.out).mono ?_)
                rintro e wn ⟨rfl, htn⟩
                have HQn := Lib.hid (HQm.out.turn' htn)
                have HIn := Lib.hid (HIm.out.below htn)
                have HTn := Lib.hid (HTm.out.trans' htn)
                clear htn HQm HIm HTm
                obtain ⟨bb, hbb⟩ : ∃ bb, inL [] ask = bb := ⟨_, rfl⟩
                have HBB : Hid (hasB [] ask = bb) := Lib.hid hbb
                rw [hbb]
                clear hbb
                go_wp2_with fail
                (with_reducible refine (refHas_any (some ⟨gd, od, none⟩) 0 0 [] ask _ HIn.out rfl (by omega)).mono ?_)
                rw [HBB.out]
                rintro e wo ⟨rfl, rfl⟩
                have bq : (bb != bb) = false := by simp
                go_wp2_with fail
                go_roundw
                case rel => exact ⟨i + 1, [], (some ⟨gd, od, none⟩), 0, by omega, by first | (simp only [List.length_nil, List.length_cons]; omega) | omega, by omega, rfl, by go_num, Lib.hid ⟨F, HQn.out, HF3.out, HIn.out, HD3.out⟩, HTn⟩
                case measure => simp [intOf]; omega
              · have hlc : s.length ≤ cD - 1 := by omega
                go_wp2_with fail
                refine (next_some b F x s _ HQ3.out (by omega)).mono ?_
                rintro e w4 ⟨rfl, hq4, ht4⟩
                have c4 := (ht4.cell (p := ⟨gd, od, none⟩) hgd HgF.out).trans hcd
                have hgd4 : gd < w4.heap.size := Nat.lt_of_lt_of_le hgd ht4.size
                have HQ4 := Lib.hid hq4
                have HI4 : Hid (Ints w4 (some ⟨gd, od + 1, none⟩) s) := Lib.hid ((HI3.out.off ht4 (fun a ha => by cases ha; exact HgF.out)).tail)
                have HD4 : Hid (∀ a : Addr, some (⟨gd, od + 1, none⟩ : Addr) = some a → a.block ∉ F) := Lib.hid (fun a ha => by cases ha; exact HgF.out)
                have HT4 := Lib.hid (HT.out.trans ht4 HF3.out)
                clear hq4 ht4 HQ3 HT HI3
                go_wp2_with fail
                refine (len_any b F s _ HQ4.out).mono ?_
                rintro e w' ⟨rfl, rfl⟩
                go_wp2_with fail
                refine (list_any b F s _ HQ4.out (by omega)).mono ?_
                rintro e wl ⟨v, rfl, ho, htl⟩
                obtain ⟨Al, cl, rfl, hIl, hcl, _⟩ := ho.slice
                have HIl := Lib.hid hIl
                have HQl := Lib.hid (HQ4.out.turn' htl)
                have HIl2 := Lib.hid (HI4.out.below htl)
                have HTl := Lib.hid (HT4.out.trans' htl)
                clear ho hIl htl
                go_wp2_with fail
                (with_reducible refine (refSame_any Al (some ⟨gd, od + 1, none⟩) s.length s.length cl (cD - 1) s s _ HIl.out HIl2.out rfl rfl (by omega) (by omega)).mono ?_)
                rw [sameB_self]
                rintro e wm ⟨rfl, qm, rfl⟩
                have HQm := Lib.hid (HQl.out.turn' ((Turn.refl [] wl).drewN qm))
                have HIm := Lib.hid (HIl2.out.below ((Turn.refl [] wl).drewN qm))
                have HTm := Lib.hid (HTl.out.drewN qm)
                clear HIl HQl HIl2 HTl
                go_wp2_with fail
                (with_reducible refine (has_any b F s ask _ HQm.out HX.out).mono ?_)
                rintro e wn ⟨rfl, htn⟩
                have HQn := Lib.hid (HQm.out.turn' htn)
                have HIn := Lib.hid (HIm.out.below htn)
                have HTn := Lib.hid (HTm.out.trans' htn)
                clear htn HQm HIm HTm
                obtain ⟨bb, hbb⟩ : ∃ bb, inL s ask = bb := ⟨_, rfl⟩
                have HBB : Hid (hasB s ask = bb) := Lib.hid hbb
                rw [hbb]
                clear hbb
                go_wp2_with fail
                (with_reducible refine (refHas_any (some ⟨gd, od + 1, none⟩) s.length (cD - 1) s ask _ HIn.out rfl (by omega)).mono ?_)
                rw [HBB.out]
                rintro e wo ⟨rfl, rfl⟩
                have bq : (bb != bb) = false := by simp
                go_wp2_with fail
                go_roundw
                case rel => exact ⟨i + 1, s, (some ⟨gd, od + 1, none⟩), (cD - 1), by omega, by first | (simp only [List.length_nil, List.length_cons]; omega) | omega, by omega, rfl, by go_num, Lib.hid ⟨F, HQn.out, HF3.out, HIn.out, HD4.out⟩, HTn⟩
                case measure => simp [intOf]; omega
          · have z1 : ((r.length : Int) == 0) = false := by
              have : r.length ≠ 0 := h0
              simp
              exact fun e => h0 (by rw [e]; rfl)
            have z2 : (r.length == 0) = false := by
              simp
              exact fun e => h0 (by rw [e]; rfl)
            have hLr := putL_le r L
            obtain ⟨N, hN⟩ : ∃ N, putL L r = N := ⟨_, rfl⟩
            obtain ⟨q, hq⟩ : ∃ q : Nat, cnt L r = q := ⟨_, rfl⟩
            have HN := Lib.hid hN
            have HC := Lib.hid hq
            rw [hN] at hLr
            have qq : ((q : Int) != (q : Int)) = false := by simp
            clear hN hq
            go_wp2_with fail
            (with_reducible refine (refPut_any D Ar cD cr L r _ HI3.out HIr.out (by omega)).mono ?_)
            rw [HC.out, HN.out]
            rintro e w4 ⟨v4, rfl, ho4, ht4⟩
            obtain ⟨A4, c4, rfl, hI4, hc4, ha4⟩ := ho4.slice
            have HQ4 := Lib.hid (HQ3.out.turn' ht4)
            have HI4 := Lib.hid hI4
            have HD4 : Hid (∀ a, A4 = some a → a.block ∉ F) := Lib.hid (fun a ha hm => by
              have := (ha4 a ha).1
              have := HQ3.out.fl _ hm
              omega)
            have HE4 : Hid (∀ a, A4 = some a → a.block < w4.heap.size) := Lib.hid (fun a ha => (ha4 a ha).2)
            have HIr4 := Lib.hid (HIr.out.below ht4)
            have hcell4 := (ht4.cell (p := ⟨g, off + i, none⟩) hg (by simp)).trans hcell
            have hg4 : g < w4.heap.size := Nat.lt_of_lt_of_le hg ht4.size
            have HT4 := Lib.hid (HT.out.trans' ht4)
            clear ho4 hI4 ha4 ht4 HQ3 HI3 HD3 HIr HT
            go_wp2_with fail
            (with_reducible refine (put_any b F L r Ar cr _ HQ4.out HIr4.out (fun a ha hm => by
              have h1 := HRb.out (by omega) a ha
              rcases HF3.out.at hm with h2 | h2
              · exact absurd h2 (List.not_mem_nil)
              · omega) (by omega)).mono ?_)
            rw [HC.out, HN.out]
            rintro e w5 ⟨rfl, F5, hq5, hf5, ht5⟩
            have HQ5 := Lib.hid hq5
            have HF5 := Lib.hid (HF3.out.trans hf5 HT4.out.size)
            have HI5 := Lib.hid (HI4.out.off ht5 HD4.out)
            have HD5 : Hid (∀ a, A4 = some a → a.block ∉ F5) := Lib.hid (fun a ha hm => by
              rcases hf5 _ hm with h1 | h1
              · exact HD4.out a ha h1
              · have := HE4.out a ha
                omega)
            have HT5 := Lib.hid (HT4.out.trans ht5 HF3.out)
            have hNl : N.length ≤ 20 * (i + 1) := by omega
            clear hq5 hf5 ht5 HQ4 HI4 HD4 HE4 HIr4 HT4 HC HN HRb
            go_wp2_with fail
            refine (len_any b F5 N _ HQ5.out).mono ?_
            rintro e w' ⟨rfl, rfl⟩
            go_wp2_with fail
            refine (list_any b F5 N _ HQ5.out (by omega)).mono ?_
            rintro e wl ⟨v, rfl, ho, htl⟩
            obtain ⟨Al, cl, rfl, hIl, hcl, _⟩ := ho.slice
            have HIl := Lib.hid hIl
            have HQl := Lib.hid (HQ5.out.turn' htl)
            have HIl2 := Lib.hid (HI5.out.below htl)
            have HTl := Lib.hid (HT5.out.trans' htl)
            clear ho hIl htl
            go_wp2_with fail
            (with_reducible refine (refSame_any Al A4 N.length N.length cl c4 N N _ HIl.out HIl2.out rfl rfl (by omega) (by omega)).mono ?_)
            rw [sameB_self]
            rintro e wm ⟨rfl, qm, rfl⟩
            have HQm := Lib.hid (HQl.out.turn' ((Turn.refl [] wl).drewN qm))
            have HIm := Lib.hid (HIl2.out.below ((Turn.refl [] wl).drewN qm))
            have HTm := Lib.hid (HTl.out.drewN qm)
            clear HIl HQl HIl2 HTl
            go_wp2_with fail
            (with_reducible refine (has_any b F5 N ask _ HQm.out HX.out).mono ?_)
            rintro e wn ⟨rfl, htn⟩
            have HQn := Lib.hid (HQm.out.turn' htn)
            have HIn := Lib.hid (HIm.out.below htn)
            have HTn := Lib.hid (HTm.out.trans' htn)
            clear htn HQm HIm HTm
            obtain ⟨bb, hbb⟩ : ∃ bb, inL N ask = bb := ⟨_, rfl⟩
            have HBB : Hid (hasB N ask = bb) := Lib.hid hbb
            rw [hbb]
            clear hbb
            go_wp2_with fail
            (with_reducible refine (refHas_any A4 N.length c4 N ask _ HIn.out rfl (by omega)).mono ?_)
            rw [HBB.out]
            rintro e wo ⟨rfl, rfl⟩
            have bq : (bb != bb) = false := by simp
            go_wp2_with fail
            go_roundw
            case rel => exact ⟨i + 1, N, A4, c4, by omega, by first | (simp only [List.length_nil, List.length_cons]; omega) | omega, by omega, rfl, by go_num, Lib.hid ⟨F5, HQn.out, HF5.out, HIn.out, HD5.out⟩, HTn⟩
            case measure => simp [intOf]; omega
      · go_wp2_with fail
        go_ret
        exact ⟨rfl, HT.out⟩
end Go.Proofs.Ytchccoolnelohaa
