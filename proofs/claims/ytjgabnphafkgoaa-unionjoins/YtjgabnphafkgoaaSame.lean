/- Same of the union. -/
import Derived.Test.YtjgabnphafkgoaaJoin
set_option linter.unusedSimpArgs false
set_option linter.unusedVariables false
namespace Go.Proofs.Ytjgabnphafkgoaa
open Go.RowKit Go.Maps

theorem climb_keep (b m n : Nat) (H : Nat → Nat) (i : Nat) (w : World) (g o : Nat) (v : Value) (h : Un w b m n H) (hi : i < n) (hg : w.cell? ⟨g, o, none⟩ = some v) :
    Calls Try.prog 22 #[.pointer (some ⟨b, 0, none⟩), .int .i64 (i : Int)] w fun e w' => e = .returned (.int .i64 (H i : Int)) ∧ Un w' b m n H ∧ Turn [m] w w' ∧ w'.cell? ⟨g, o, none⟩ = some v := by
  refine (climb_any b m n H i w h hi).mono fun e w' ⟨h1, h2, h3⟩ => ⟨h1, h2, h3, ?_⟩
  have hne : g ≠ m := fun e => h.noCell (by rw [← e]; exact hg)
  have hlt : g < w.heap.size := by
    simp only [World.cell?] at hg
    by_cases hh : g < w.heap.size
    · exact hh
    · rw [Array.getElem?_eq_none (by omega)] at hg
      cases hg
  exact (h3.cell (p := ⟨g, o, none⟩) hlt (by simpa using hne)).trans hg

/-- Are all of them numbers, and in one class? -/
def sameI (n : Nat) (H : Nat → Nat) (l : List Int) : Bool := l.all (inB n) && l.all (fun y => decide (H y.toNat = H (l.headD 0).toNat))

set_option maxHeartbeats 1000000 in
theorem same_any (b m n : Nat) (H : Nat → Nat) (A : Option Addr) (c : Nat) (l : List Int) (w : World) (h : Un w b m n H) (hI : Ints w A l) (hl : l.length ≤ 1000000000) :
    Calls Try.prog 16 #[.pointer (some ⟨b, 0, none⟩), .slice A l.length c] w fun e w' => e = .returned (.bool (sameI n H l)) ∧ Un w' b m n H ∧ Turn [m] w w' := by
  have HU := Lib.hid h
  have HI := Lib.hid hI
  clear h hI
  by_cases hall : l.all (inB n) = true
  · have e0 : sameI n H l = l.all (fun y => decide (H y.toNat = H (l.headD 0).toNat)) := by unfold sameI; rw [hall, Bool.true_and]
    rw [e0]
    have HL := Lib.hid hall
    have hle : n ≤ 65536 := HU.out.le
    clear e0 hall
    go_enter Try.func16, Try.ntmps16
    go_wp2_with fail
    refine (hasAll_any b m n H A c l _ HU.out HI.out hl).mono ?_
    rw [HL.out]
    rintro e w' ⟨rfl, rfl⟩
    go_wp2_with fail
    go_loopw [13] (fun t wr => ∃ k : Nat, k ≤ l.length ∧ t = .int .i64 (k : Int) ∧ Hid ((l.take k).all (fun y => decide (H y.toNat = H (l.headD 0).toNat)) = true) ∧ Hid (Un wr b m n H) ∧ Hid (Turn [m] w wr)) (fun t _ => l.length - (intOf t).toNat)
    case atStart => exact ⟨0, Nat.zero_le _, rfl, Lib.hid (by simp), HU, Lib.hid (Turn.refl _ _)⟩
    case round =>
      obtain ⟨k, hk, rfl, HA, HW, HT⟩ := hrel
      by_cases hlt : k < l.length
      · obtain ⟨y, hy⟩ := at_lt hlt
        obtain ⟨x, t, rfl⟩ : ∃ x t, l = x :: t := by
          cases l with
          | nil => simp at hlt
          | cons x t => exact ⟨x, t, rfl⟩
        have HI' := HI.out.off (fun o v => HU.out.noCell) HT.out
        obtain ⟨g, off, rfl, hg, hck⟩ := HI' k y hy
        obtain ⟨g', off', hA, hg', hc0⟩ := HI' 0 x rfl
        obtain ⟨rfl, rfl⟩ : g = g' ∧ off = off' := by injection hA with hA; injection hA with h1 h2; exact ⟨h1, h2⟩
        obtain ⟨z, rfl, hz, hzt⟩ := inB_nat (List.all_eq_true.1 HL.out y (List.mem_of_getElem? hy))
        obtain ⟨a, rfl, ha, hat⟩ := inB_nat (List.all_eq_true.1 HL.out x (by simp))
        rw [Nat.add_zero] at hc0
        have HS : Hid (((((a : Int) :: t).take (k + 1)).all (fun y => decide (H y.toNat = H ((((a : Int) :: t).headD 0)).toNat))) = decide (H z = H a)) := Lib.hid (by
          rw [take_snoc hy, List.all_append, HA.out]; simp)
        have HY := Lib.hid hy
        clear hA hy hzt hat HI' hg'
        generalize hL : ((a : Int) :: t) = L at *
        have HLL := Lib.hid hL
        have hp0 : 0 < L.length := by omega
        have hp1 : (0 : Int) < (L.length : Int) := by omega
        have hp2 : decide ((0 : Int) < (L.length : Int)) = true := by simp; omega
        clear hL
        have hK1 := climb_keep b m n H z wr.drew g off (.int .i64 (a : Int)) (HW.out.turn' ((Turn.refl [] wr).drew)) hz hc0
        go_wp2_with fail
        go_region_held3 (fun w' => w'.cell? ⟨g, off, none⟩ = some (.int .i64 (a : Int)))
          (first | exact hcc2 | exact hcc1 | go_keep)
          (first
            | (go_at_call 22; (with_reducible refine hK1.mono ?_); rintro e w2 ⟨rfl, hu2, ht2, hcc1⟩)
            | (go_at_call 22; have hK2 := climb_keep b m n H a _ g off (.int .i64 (a : Int)) hu2 ha hcc1; (with_reducible refine hK2.mono ?_); clear hK2; rintro e w3 ⟨rfl, hu3, ht3, hcc2⟩))
        have HU3 := Lib.hid hu3
        have HT3 := Lib.hid ((HT.out.trans (((Turn.refl [m] wr).drew).trans ht2 (by simp)) (by simp)).trans ht3 (by simp))
        clear hu2 ht2 hcc1 hu3 ht3 hcc2
        by_cases hza : H z = H a
        · have d1 : ((H z : Int) != (H a : Int)) = false := by simp; omega
          have d2 : ((H z : Int) == (H a : Int)) = true := by simp; omega
          have HZ := Lib.hid hza
          clear hza
          go_wp2_with fail
          go_roundw
          case rel => exact ⟨k + 1, by omega, by go_num, Lib.hid (HS.out.trans (by simp [HZ.out])), HU3, HT3⟩
          case measure => simp [intOf]; omega
        · have d1 : ((H z : Int) != (H a : Int)) = true := by simp; omega
          have d2 : ((H z : Int) == (H a : Int)) = false := by simp; omega
          have HZ := Lib.hid hza
          clear hza
          go_wp2_with fail
          go_ret
          refine ⟨ret_bool ?_, HU3.out, HT3.out⟩
          symm
          rw [List.all_eq_false]
          refine ⟨(z : Int), by rw [HLL.out]; exact List.mem_of_getElem? HY.out, ?_⟩
          simpa using HZ.out
      · go_wp2_with fail
        go_ret
        refine ⟨ret_bool ?_, HW.out, HT.out⟩
        have := HA.out
        rw [List.take_of_length_le (by omega)] at this
        exact this.symm
  · have e0 : sameI n H l = false := by unfold sameI; rw [Bool.not_eq_true] at hall; rw [hall, Bool.false_and]
    rw [e0]
    have HL : Hid (l.all (inB n) = false) := Lib.hid (by simpa using hall)
    clear e0 hall
    go_enter Try.func16, Try.ntmps16
    go_wp2_with fail
    refine (hasAll_any b m n H A c l _ HU.out HI.out hl).mono ?_
    rw [HL.out]
    rintro e w' ⟨rfl, rfl⟩
    go_wp2_with fail
    go_ret
    exact ⟨rfl, HU.out, Turn.refl _ _⟩
end Go.Proofs.Ytjgabnphafkgoaa
