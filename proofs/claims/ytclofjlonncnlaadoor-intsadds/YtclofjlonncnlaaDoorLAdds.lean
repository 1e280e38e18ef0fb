/- The walk of IntsAdds: whatever the slice of ints and the int, the law returns true and nothing that was there before is changed, if the table of math/bits lies in memory. -/
import Derived.Test.YtclofjlonncnlaaDoorLd
set_option linter.unusedSimpArgs false
set_option linter.unusedVariables false
namespace Go.Proofs.YtclofjlonncnlaaDoor
open Go.RowKit

/-- A slice of ints lies apart from a set: their blocks hold other types. -/
theorem SetAt.apart {w : World} {b B : Nat} {v u : Value} {rs : List Row} {l : List Int} (h : SetAt w b v rs) (ho : OwnI w B u l) : ∀ g, u.ownBlock = some g → g ∉ b :: v.ownBlock.toList := by
  intro g hg
  refine notIn (fun e => ?_) (fun k hk e => ?_)
  · subst e
    exact ho.ne_box h.blk (by decide) hg
  · subst e
    rcases h.rows.2 with ⟨rfl, _⟩ | ⟨g', cap, cur, rfl, _, hg', _⟩
    · simp [Value.ownBlock] at hk
    · simp [Value.ownBlock] at hk
      subst hk
      exact ho.ne_box hg' (by decide) hg

set_option maxRecDepth 100000 in
set_option maxHeartbeats 4000000 in
theorem adds_law (A : Option Addr) (n c : Nat) (a : List Int) (x : Int) (w : World) (h : Ints w A a) (hn : n = a.length) (hl : n ≤ 9223372036854775807) (hT : Tab w) :
    Calls Tryd.prog 3 #[.slice A n c, .int .i64 x] w fun e w' => e = .returned (.bool true) ∧ Turn [] w w' := by
  have HN := Lib.hid hn
  have H := Lib.hid h
  have HTab := Lib.hid hT
  have hpos := hT.pos
  clear hn h hT
  by_cases h100 : 100 < n
  · have hd : decide ((100 : Int) < (n : Int)) = true := by simp; omega
    go_enter Tryd.func3, Tryd.ntmps3
    go_wp2_with fail
    refine (awake_any _ HTab.out).mono ?_
    rintro e w1 ⟨rfl, ht1⟩
    have HT1 := Lib.hid ht1
    clear ht1
    go_wp2_with fail
    refine (awake_any _ (HTab.out.turn' HT1.out)).mono ?_
    rintro e w2 ⟨rfl, ht2⟩
    have HT2 := Lib.hid ht2
    clear ht2
    go_wp2_with fail
    go_ret
    exact ⟨rfl, HT1.out.trans' HT2.out⟩
  · have hd : decide ((100 : Int) < (n : Int)) = false := by simp; omega
    go_enter Tryd.func3, Tryd.ntmps3
    go_wp2_with fail
    refine (awake_any _ HTab.out).mono ?_
    rintro e w1 ⟨rfl, ht1⟩
    have HT1 := Lib.hid ht1
    clear ht1
    go_wp2_with fail
    refine (of_any none 0 0 [] _ (Ints.nil _ _) rfl (by omega)).mono ?_
    rintro e w2 ⟨b, v, rs, rfl, hs, hnu, hb, hv, ht2⟩
    have hbw : w.heap.size ≤ b := Nat.le_trans HT1.out.size hb
    have HV : Hid (∀ g, v.ownBlock = some g → w.heap.size ≤ g) := Lib.hid (fun g hg => Nat.le_trans HT1.out.size (hv g hg))
    have HS := Lib.hid hs
    have HNu := Lib.hid hnu
    have HT2 := Lib.hid (HT1.out.trans' ht2)
    clear hs hnu ht2 hv hb
    go_wp2_with fail
    go_loopw [6, 7] (fun o i wr => ∃ (k : Nat) (v : Value) (rs : List Row), k ≤ n ∧ i = .int .i64 k ∧ OwnI wr w.heap.size o (ofL (a.take k)) ∧ SetAt wr b v rs ∧ nums rs = ofL (a.take k) ∧ (∀ g, v.ownBlock = some g → w.heap.size ≤ g) ∧ Turn [] w wr) (fun _ i _ => n - (intOf i).toNat)
    case atStart => exact ⟨0, v, rs, Nat.zero_le _, rfl, by simpa [ofL] using OwnI.nil _ _, HS.out, HNu.out, HV.out, HT2.out⟩
    case round =>
      clear HS HNu HV v rs
      obtain ⟨k, v, rs, hk, rfl, ho, hs, hnu, hv, ht⟩ := hrel
      obtain ⟨l0, HL0⟩ : ∃ l0, Hid (ofL (a.take k) = l0) := ⟨_, Lib.hid rfl⟩
      rw [HL0.out] at ho hnu
      have hl0 : l0.length ≤ k := by
        rw [← HL0.out]
        exact length_ofL_le (by simp; omega)
      obtain ⟨Ao, co, hvo, _, _⟩ := ho.form
      subst hvo
      have HO := Lib.hid ho
      have HS := Lib.hid hs
      have HNu := Lib.hid hnu
      have HV := Lib.hid hv
      have HT := Lib.hid ht
      clear ho hs hnu hv ht
      by_cases hlt : k < n
      · obtain ⟨y, hy⟩ := at_lt (show k < a.length by have := HN.out; omega)
        obtain ⟨ba, off, rfl, hba, hcell0⟩ := H.out k y hy
        have HC := Lib.hid hcell0
        have hcell := (HT.out.cell (p := ⟨ba, off + k, none⟩) hba (by simp)).trans HC.out
        clear hcell0
        have HL1 : Hid (ofL (a.take (k + 1)) = putL l0 y) := Lib.hid (by rw [ofL_snoc hy, HL0.out])
        have HLen : Hid ((putL l0 y).length = l0.length + if okB y && !hasB l0 y then 1 else 0) := Lib.hid length_putL
        clear hy
        go_wp2_with fail
        refine (put_any w.heap.size _ l0 y _ HO.out HT.out.size (by omega)).mono ?_
        rintro e w3 ⟨v3, rfl, ho3, ht3⟩
        obtain ⟨l1, HP⟩ : ∃ l1, Hid (putL l0 y = l1) := ⟨_, Lib.hid rfl⟩
        rw [HP.out] at ho3
        obtain ⟨A3, c3, hv3, _, _⟩ := ho3.form
        subst hv3
        have hl1 : l1.length ≤ l0.length + 1 := by rw [← HP.out]; exact length_putL_le _ _
        have HO3 := Lib.hid ho3
        have HT3 := Lib.hid (HT.out.trans' ht3)
        have HS3 := Lib.hid (HS.out.turn' ht3)
        have hcell3 := (HT3.out.cell (p := ⟨ba, off + k, none⟩) hba (by simp)).trans HC.out
        clear ho3 ht3 HS HO hcell
        go_wp2_with fail
        -- s.Add(ns[i])
        refine (add_any b v rs y _ HS3.out).mono ?_
        rintro e w4 ⟨rfl, v4, rs4, hs4, hn4, ht4, hm4⟩
        have HN4 : Hid (nums rs4 = l1) := Lib.hid (by rw [hn4, HNu.out, HP.out])
        have HT4 := Lib.hid (HT3.out.trans ht4 (newIn hbw HV.out))
        have HV4 : Hid (∀ g, v4.ownBlock = some g → w.heap.size ≤ g) := Lib.hid (fun g hg => by
          rcases hm4 with e | ⟨g', e1, e2⟩
          · exact HV.out g (e ▸ hg)
          · rw [e1] at hg; injection hg with hg; have := HT3.out.size; omega)
        have HS4 := Lib.hid hs4
        have HO4 := Lib.hid (HO3.out.turn ht4 (HS3.out.apart HO3.out))
        have hcell4 := (HT4.out.cell (p := ⟨ba, off + k, none⟩) hba (by simp)).trans HC.out
        have hlen : l1.length = l0.length + if okB y && !hasB l0 y then 1 else 0 := by rw [← HP.out]; exact HLen.out
        clear hs4 hn4 ht4 hm4 HS3 HO3 hcell3 HLen
        rw [HNu.out]
        generalize (okB y && !hasB l0 y) = q at hlen
        have hgt : decide ((l0.length : Int) < (l1.length : Int)) = q := by
          cases q
          · simp at hlen ⊢; omega
          · simp at hlen ⊢; omega
        clear hlen
        rw [← hgt]
        go_wp2_with fail
        -- s.Len() != len(l)
        refine (lenL_any _ v4 rs4 _ (.inr ⟨b, rfl, HS4.out⟩)).mono ?_
        rw [HN4.out]
        rintro e w' ⟨rfl, rfl⟩
        go_wp2_with fail
        -- !s.Has(ns[i]) && Has(l, ns[i])
        refine (hasL_any _ v4 rs4 y _ (.inr ⟨b, rfl, HS4.out⟩)).mono ?_
        rw [HN4.out]
        rintro e w5 ⟨rfl, ht5⟩
        have HT5 := Lib.hid (HT4.out.trans' ht5)
        have HS5 := Lib.hid (HS4.out.turn' ht5)
        have HO5 := Lib.hid (HO4.out.turn' ht5)
        have hcell5 := (HT5.out.cell (p := ⟨ba, off + k, none⟩) hba (by simp)).trans HC.out
        clear ht5 HS4 HO4 hcell4 HT4
        cases hh : hasB l1 y
        · go_wp2_with fail
          refine (ownHas _ _ l1 y _ HO5.out (by omega)).mono ?_
          rw [hh]
          rintro e w' ⟨rfl, rfl⟩
          clear hh
          go_wp2_with fail
          -- s.Has(more) != Has(l, more)
          refine (hasL_any _ v4 rs4 x _ (.inr ⟨b, rfl, HS5.out⟩)).mono ?_
          rw [HN4.out]
          rintro e w6 ⟨rfl, ht6⟩
          have HT6 := Lib.hid (HT5.out.trans' ht6)
          have HS6 := Lib.hid (HS5.out.turn' ht6)
          have HO6 := Lib.hid (HO5.out.turn' ht6)
          clear ht6 HS5 HO5 hcell5
          go_wp2_with fail
          refine (ownHas _ _ l1 x _ HO6.out (by omega)).mono ?_
          rintro e w' ⟨rfl, rfl⟩
          generalize hasB l1 x = qq
          cases qq
          · go_wp2_with fail
            go_roundw
            case rel => exact ⟨k + 1, v4, rs4, by omega, by go_num, by rw [HL1.out, HP.out]; exact HO6.out, HS6.out, by rw [HL1.out, HP.out]; exact HN4.out, HV4.out, HT6.out⟩
            case measure => simp [intOf]; omega
          · go_wp2_with fail
            go_roundw
            case rel => exact ⟨k + 1, v4, rs4, by omega, by go_num, by rw [HL1.out, HP.out]; exact HO6.out, HS6.out, by rw [HL1.out, HP.out]; exact HN4.out, HV4.out, HT6.out⟩
            case measure => simp [intOf]; omega
        · clear hh
          go_wp2_with fail
          refine (hasL_any _ v4 rs4 x _ (.inr ⟨b, rfl, HS5.out⟩)).mono ?_
          rw [HN4.out]
          rintro e w6 ⟨rfl, ht6⟩
          have HT6 := Lib.hid (HT5.out.trans' ht6)
          have HS6 := Lib.hid (HS5.out.turn' ht6)
          have HO6 := Lib.hid (HO5.out.turn' ht6)
          clear ht6 HS5 HO5 hcell5
          go_wp2_with fail
          refine (ownHas _ _ l1 x _ HO6.out (by omega)).mono ?_
          rintro e w' ⟨rfl, rfl⟩
          generalize hasB l1 x = qq
          cases qq
          · go_wp2_with fail
            go_roundw
            case rel => exact ⟨k + 1, v4, rs4, by omega, by go_num, by rw [HL1.out, HP.out]; exact HO6.out, HS6.out, by rw [HL1.out, HP.out]; exact HN4.out, HV4.out, HT6.out⟩
            case measure => simp [intOf]; omega
          · go_wp2_with fail
            go_roundw
            case rel => exact ⟨k + 1, v4, rs4, by omega, by go_num, by rw [HL1.out, HP.out]; exact HO6.out, HS6.out, by rw [HL1.out, HP.out]; exact HN4.out, HV4.out, HT6.out⟩
            case measure => simp [intOf]; omega
      · have HLa : Hid (ofL a = l0) := Lib.hid (by rw [← HL0.out, List.take_of_length_le (by have := HN.out; omega)])
        go_wp2_with fail
        -- s.List()
        refine (list_any _ v rs _ (.inr ⟨b, rfl, HS.out⟩) (HTab.out.turn' HT.out)).mono ?_
        rintro e w3 ⟨v3, rfl, ho3, ht3⟩
        rw [HNu.out] at ho3
        have HT3 := Lib.hid (HT.out.trans' ht3)
        have HS3 := Lib.hid (HS.out.turn' ht3)
        have HO3 := Lib.hid (HO.out.turn' ht3)
        have HL3 := Lib.hid ho3
        clear ho3 ht3 HS HO
        go_wp2_with fail
        refine (ownSame _ _ v3 _ l0 l0 _ HL3.out HO3.out (by omega) (by omega)).mono ?_
        rw [sameB_self]
        rintro e w4 ⟨rfl, ht4⟩
        have HT4 := Lib.hid (HT3.out.trans' ht4)
        have HS4 := Lib.hid (HS3.out.turn' ht4)
        have HO4 := Lib.hid (HO3.out.turn' ht4)
        clear ht4 HS3 HO3 HL3
        go_wp2_with fail
        -- s.Same(Of(ns...))
        refine (of_any A n c a _ (H.out.below HT4.out) HN.out (by omega)).mono ?_
        rintro e w5 ⟨b5, v5, rs5, rfl, hs5, hn5, _, _, ht5⟩
        have HT5 := Lib.hid (HT4.out.trans' ht5)
        have HS5 := Lib.hid (HS4.out.turn' ht5)
        have HO5 := Lib.hid (HO4.out.turn' ht5)
        have HR5 := Lib.hid hs5
        have HN5 := Lib.hid (hn5.trans HLa.out)
        clear hs5 hn5 ht5 HS4 HO4
        go_wp2_with fail
        refine (sameL_any _ v rs _ v5 rs5 _ (.inr ⟨b, rfl, HS5.out⟩) (.inr ⟨b5, rfl, HR5.out⟩)).mono ?_
        rw [HNu.out, HN5.out, sameB_self]
        rintro e w6 ⟨rfl, ht6⟩
        have HT6 := Lib.hid (HT5.out.trans' ht6)
        have HO6 := Lib.hid (HO5.out.turn' ht6)
        clear ht6 HS5 HO5 HR5
        go_wp2_with fail
        -- Of(ns...).List()
        refine (of_any A n c a _ (H.out.below HT6.out) HN.out (by omega)).mono ?_
        rintro e w7 ⟨b7, v7, rs7, rfl, hs7, hn7, _, _, ht7⟩
        have HT7 := Lib.hid (HT6.out.trans' ht7)
        have HO7 := Lib.hid (HO6.out.turn' ht7)
        have HR7 := Lib.hid hs7
        have HN7 := Lib.hid (hn7.trans HLa.out)
        clear hs7 hn7 ht7 HO6
        go_wp2_with fail
        refine (list_any _ v7 rs7 _ (.inr ⟨b7, rfl, HR7.out⟩) (HTab.out.turn' HT7.out)).mono ?_
        rintro e w8 ⟨v8, rfl, ho8, ht8⟩
        rw [HN7.out] at ho8
        have HT8 := Lib.hid (HT7.out.trans' ht8)
        have HO8 := Lib.hid (HO7.out.turn' ht8)
        have HL8 := Lib.hid ho8
        clear ho8 ht8 HO7 HR7
        go_wp2_with fail
        refine (ownSame _ _ v8 _ l0 l0 _ HL8.out HO8.out (by omega) (by omega)).mono ?_
        rw [sameB_self]
        rintro e w9 ⟨rfl, ht9⟩
        have HT9 := Lib.hid (HT8.out.trans' ht9)
        clear ht9 HO8 HL8
        go_wp2_with fail
        go_ret
        exact ⟨rfl, HT9.out⟩
end Go.Proofs.YtclofjlonncnlaaDoor
