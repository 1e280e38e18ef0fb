/- The reference's Same, and lists. -/
import Derived.Test.YtjgabnphafkgoaaLL
set_option linter.unusedSimpArgs false
set_option linter.unusedVariables false
namespace Go.Proofs.Ytjgabnphafkgoaa
open Go.RowKit

def sameB (a b : List Int) : Bool := decide (a = b)
theorem sameB_at {a b : List Int} {k : Nat} {x y : Int} (hx : a[k]? = some x) (hy : b[k]? = some y) (hn : (x != y) = true) : false = sameB a b := by
  have : a ≠ b := by
    rintro rfl
    rw [hx] at hy
    injection hy with e
    simp [e] at hn
  simp [sameB, this]
theorem same_all {a b : List Int} {k : Nat} (hl : a.length = b.length) (hk : ¬ k < a.length) (h0 : a.take k = b.take k) : true = sameB a b := by
  rw [List.take_of_length_le (by omega), List.take_of_length_le (by omega)] at h0
  simp [sameB, h0]
set_option maxHeartbeats 400000 in
theorem refSame_any (A B : Option Addr) (n m c d : Nat) (l t : List Int) (w : World) (h : Ints w A l) (h' : Ints w B t) (hn : n = l.length) (hm : m = t.length) (hl : n ≤ 1000000) (hl2 : m ≤ 1000000) :
    Calls Try.prog 12 #[.slice A n c, .slice B m d] w fun e w' => e = .returned (.bool (sameB l t)) ∧ ∃ q, w' = w.drewN q := by
  have HN := Lib.hid hn
  have HM := Lib.hid hm
  have H := Lib.hid h
  have H' := Lib.hid h'
  clear hn hm h h'
  by_cases hnm : n = m
  · subst hnm
    have hne : ((n : Int) != (n : Int)) = false := by simp
    go_enter Try.func12, Try.ntmps12
    go_wp2
    go_loopw [5] (fun i w' => ∃ k : Nat, k ≤ n ∧ i = .int .i64 k ∧ l.take k = t.take k ∧ ∃ q, w' = w.drewN q) (fun i _ => n - (intOf i).toNat)
    case atStart => exact ⟨0, Nat.zero_le _, rfl, by simp, 0, rfl⟩
    case round =>
      obtain ⟨k, hk, rfl, hc, q, rfl⟩ := hrel
      have HC := Lib.hid hc
      clear hc
      by_cases hlt : k < n
      · obtain ⟨y, hy⟩ := at_lt (show k < l.length by have := HN.out; omega)
        obtain ⟨b, off, rfl, hb, hcell⟩ := H.out k y hy
        obtain ⟨z, hz⟩ := at_lt (show k < t.length by have := HM.out; omega)
        obtain ⟨b', off', rfl, hb', hcell'⟩ := H'.out k z hz
        have HY := Lib.hid hy
        have HZ := Lib.hid hz
        clear hy hz
        cases hq : y != z
        · go_wp2
          go_quiet (fail)
          go_wp2
          go_roundw
          case rel => exact ⟨k + 1, by omega, by go_num, by
            rw [take_snoc HY.out, take_snoc HZ.out, HC.out]
            simp at hq
            rw [hq], _, by first | rfl | (rw [World.drewN_drewN])⟩
          case measure => simp [intOf]; omega
        · go_wp2
          go_quiet (fail)
          go_wp2
          go_ret
          exact ⟨ret_bool (sameB_at HY.out HZ.out hq), _, by first | rfl | (rw [World.drewN_drewN])⟩
      · go_wp2
        go_ret
        exact ⟨ret_bool (same_all (by have := HN.out; have := HM.out; omega) (by have := HN.out; omega) HC.out), _, rfl⟩
  · have hne : ((n : Int) != (m : Int)) = true := by simp; omega
    go_enter Try.func12, Try.ntmps12
    go_wp2
    go_ret
    exact ⟨ret_bool (by
      have : l ≠ t := by
        rintro rfl
        exact hnm (HN.out.trans HM.out.symm)
      simp [sameB, this]), 0, rfl⟩



def lsB (a b : List (List Int)) : Bool := decide (a = b)
theorem lsB_self (a : List (List Int)) : lsB a a = true := by simp [lsB]

set_option maxHeartbeats 1000000 in
theorem lists_any (A B : Option Addr) (c d : Nat) (ls ts : List (List Int)) (w : World) (h : Rws w A ls) (h' : Rws w B ts) (hl : ls.length ≤ 1000000) (hl2 : ts.length ≤ 1000000) (hs : ∀ l ∈ ls, l.length ≤ 1000000) (ht : ∀ l ∈ ts, l.length ≤ 1000000) :
    Calls Try.prog 18 #[.slice A ls.length c, .slice B ts.length d] w fun e w' => e = .returned (.bool (lsB ls ts)) ∧ Turn [] w w' := by
  have H := Lib.hid h
  have H' := Lib.hid h'
  have HS := Lib.hid hs
  have HS' := Lib.hid ht
  clear h h' hs ht
  by_cases hnm : ls.length = ts.length
  · have HL := Lib.hid hnm
    rw [hnm]
    clear hnm
    generalize hn : ts.length = n at *
    have HN := Lib.hid hn
    clear hn
    go_enter Try.func18, Try.ntmps18
    go_wp2_with fail
    go_loopw [5] (fun i wr => ∃ k : Nat, k ≤ n ∧ i = .int .i64 (k : Int) ∧ Hid (ls.take k = ts.take k) ∧ Hid (Turn [] w wr)) (fun i _ => n - (intOf i).toNat)
    case atStart => exact ⟨0, Nat.zero_le _, rfl, Lib.hid (by simp), Lib.hid (Turn.refl _ _)⟩
    case round =>
      obtain ⟨k, hk, rfl, HC, HT⟩ := hrel
      by_cases hlt : k < n
      · obtain ⟨y, hy⟩ := at_lt (show k < ls.length by have := HL.out; omega)
        obtain ⟨b, off, Ay, cy, rfl, hb, hcell, hIy⟩ := (H.out.turn' HT.out) k y hy
        obtain ⟨z, hz⟩ := at_lt (show k < ts.length by have := HN.out; omega)
        obtain ⟨b', off', Az, cz, rfl, hb', hcell', hIz⟩ := (H'.out.turn' HT.out) k z hz
        have HY := Lib.hid hy
        have HZ := Lib.hid hz
        have hyl := HS.out y (List.mem_of_getElem? hy)
        have hzl := HS'.out z (List.mem_of_getElem? hz)
        have HIY := Lib.hid hIy
        have HIZ := Lib.hid hIz
        clear hy hz hIy hIz
        cases hq : sameB y z
        · have HQ := Lib.hid hq
          clear hq
          have hK : ∀ n, Calls Try.prog 12 #[.slice Ay y.length cy, .slice Az z.length cz] (wr.drewN n) (fun e w' => e = .returned (.bool false) ∧ ∃ q, w' = (wr.drewN n).drewN q) := fun n => by
            have := refSame_any Ay Az y.length z.length cy cz y z (wr.drewN n) (HIY.out.below ((Turn.refl [] wr).drewN _)) (HIZ.out.below ((Turn.refl [] wr).drewN _)) rfl rfl hyl hzl
            rw [HQ.out] at this
            exact this
          go_wp2_with fail
          go_quiet ((go_at_call 12; exact Calls.quiet_of (hK _)))
          clear hK
          go_wp2_with fail
          go_ret
          refine ⟨ret_bool ?_, HT.out.drewN _⟩
          have : ls ≠ ts := fun e => by
            have h1 := HY.out
            rw [e, HZ.out] at h1
            injection h1 with h1
            have h2 := HQ.out
            rw [h1] at h2
            simp [sameB] at h2
          simp [lsB, this]
        · have HQ := Lib.hid hq
          clear hq
          have hK : ∀ n, Calls Try.prog 12 #[.slice Ay y.length cy, .slice Az z.length cz] (wr.drewN n) (fun e w' => e = .returned (.bool true) ∧ ∃ q, w' = (wr.drewN n).drewN q) := fun n => by
            have := refSame_any Ay Az y.length z.length cy cz y z (wr.drewN n) (HIY.out.below ((Turn.refl [] wr).drewN _)) (HIZ.out.below ((Turn.refl [] wr).drewN _)) rfl rfl hyl hzl
            rw [HQ.out] at this
            exact this
          go_wp2_with fail
          go_quiet ((go_at_call 12; exact Calls.quiet_of (hK _)))
          clear hK
          go_wp2_with fail
          go_roundw
          case rel => exact ⟨k + 1, by omega, by go_num, Lib.hid (by
            rw [take_snoc HY.out, take_snoc HZ.out, HC.out]
            have := HQ.out
            simp [sameB] at this
            rw [this]), Lib.hid (HT.out.drewN _)⟩
          case measure => simp [intOf]; omega
      · go_wp2_with fail
        go_ret
        refine ⟨ret_bool ?_, HT.out⟩
        have := HC.out
        rw [List.take_of_length_le (by have := HL.out; omega), List.take_of_length_le (by have := HN.out; omega)] at this
        simp [lsB, this]
  · have hne : ((ls.length : Int) != (ts.length : Int)) = true := by simp; omega
    have hne2 : ((ls.length : Int) == (ts.length : Int)) = false := by simp; omega
    go_enter Try.func18, Try.ntmps18
    go_wp2_with fail
    go_ret
    refine ⟨ret_bool ?_, Turn.refl _ _⟩
    have : ls ≠ ts := fun e => hnm (by rw [e])
    simp [lsB, this]
end Go.Proofs.Ytjgabnphafkgoaa
