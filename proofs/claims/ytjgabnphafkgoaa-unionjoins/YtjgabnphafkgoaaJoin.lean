/- New, Join, Same of the union. -/
import Derived.Test.YtjgabnphafkgoaaClimb
import Derived.Deep.RegionHeld3
set_option linter.unusedSimpArgs false
set_option linter.unusedVariables false
namespace Go.Proofs.Ytjgabnphafkgoaa
open Go.RowKit Go.Maps

/-- A map's block has no cells: what reads as ints lies elsewhere. -/
theorem MapF.noCell {w : World} {m s o : Nat} {f : Nat → Option Nat} {v : Value} (h : MapF w m s f) : w.cell? ⟨m, o, none⟩ ≠ some v := by
  obtain ⟨D, ⟨es, clock, hb, _⟩, _⟩ := h
  simp [World.cell?, hb]
theorem Un.noCell {w : World} {b m n o : Nat} {H : Nat → Nat} {v : Value} (h : Un w b m n H) : w.cell? ⟨m, o, none⟩ ≠ some v := by
  obtain ⟨p, h⟩ := h
  exact h.map.noCell
theorem Ints.off {w w' : World} {m : Nat} {A : Option Addr} {l : List Int} (h : Ints w A l) (hm : ∀ o v, w.cell? ⟨m, o, none⟩ ≠ some v) (t : Turn [m] w w') : Ints w' A l := fun k y hy => by
  obtain ⟨g, off, e, hlt, hc⟩ := h k y hy
  have hne : g ≠ m := fun e2 => hm _ _ (by rw [← e2]; exact hc)
  exact ⟨g, off, e, Nat.lt_of_lt_of_le hlt t.size, (t.cell (p := ⟨g, off + k, none⟩) hlt (by simpa using hne)).trans hc⟩

theorem new_bad (n : Int) (w : World) (h : n < 0 ∨ 65536 < n) : Calls Try.prog 8 #[.int .i64 n] w fun e w' => e = .returned (.tuple #[.pointer none, .int .i64 2]) ∧ w = w' := by
  by_cases h0 : n < 0
  · have d : decide (n < 0) = true := by simpa using h0
    go_enter Try.func8, Try.ntmps8
    go_wp2_with fail
    go_ret2
    exact ⟨rfl, rfl⟩
  · have d : decide (n < 0) = false := by simpa using h0
    have d2 : decide (65536 < n) = true := by simp; omega
    go_enter Try.func8, Try.ntmps8
    go_wp2_with fail
    go_ret2
    exact ⟨rfl, rfl⟩

theorem new_ok (n : Nat) (w : World) (h : n ≤ 65536) : Calls Try.prog 8 #[.int .i64 (n : Int)] w fun e w' => ∃ b m, e = .returned (.tuple #[.pointer (some ⟨b, 0, none⟩), .int .i64 0]) ∧ Un w' b m n (fun i => i) ∧ w.heap.size ≤ b ∧ w.heap.size ≤ m ∧ Turn [] w w' := by
  have d : decide ((n : Int) < 0) = false := by simp
  have d2 : decide (65536 < (n : Int)) = false := by simp; omega
  have hmm := @run_makeMap Try.prog
  go_enter Try.func8, Try.ntmps8
  go_wp2_with fail
  go_ret2
  refine ⟨w.heap.size + 1, w.heap.size, by simp, ⟨fun i => i, ?_⟩, by omega, by omega, ((Turn.refl _ _).alloc _).alloc _⟩
  refine ⟨by simp, by simp, by simp, by omega, h, Par.start n, Hd.start, ?_⟩
  rw [nc_start]
  exact ((MapF.made w).turn ((Turn.refl [] _).alloc _) (by simp)).congr (fun i => by simp [pf])

/-- What the heads are behind Join. -/
def joinI (n : Nat) (H : Nat → Nat) (l : List Int) : Nat → Nat := if l.all (inB n) = true then joinL H (l.map Int.toNat) else H

theorem inB_nat {n : Nat} {x : Int} (h : inB n x = true) : ∃ k : Nat, x = (k : Int) ∧ k < n ∧ x.toNat = k := by
  unfold inB at h
  simp at h
  exact ⟨x.toNat, by omega, by omega, rfl⟩
theorem inB_of {n k : Nat} (h : k < n) : inB n (k : Int) = true := by
  unfold inB
  simp
  exact h
theorem all_lt {n : Nat} {l : List Int} (h : l.all (inB n) = true) : ∀ y ∈ l.map Int.toNat, y < n := by
  intro y hy
  obtain ⟨x, hx, rfl⟩ := List.mem_map.1 hy
  obtain ⟨k, _, h1, h2⟩ := inB_nat (List.all_eq_true.1 h x hx)
  omega
theorem joinI_heads {n : Nat} {H : Nat → Nat} (h : Heads n H) (l : List Int) : Heads n (joinI n H l) := by
  unfold joinI
  split
  · rename_i hl
    exact joinL_heads h _ (all_lt hl)
  · exact h

set_option maxHeartbeats 1000000 in
theorem join_any (b m n : Nat) (H : Nat → Nat) (A : Option Addr) (c : Nat) (l : List Int) (w : World) (h : Un w b m n H) (hI : Ints w A l) (hl : l.length ≤ 1000000000) :
    Calls Try.prog 11 #[.pointer (some ⟨b, 0, none⟩), .slice A l.length c] w fun e w' => e = .returned (.bool (decide (hc n (joinI n H l) < hc n H))) ∧ Un w' b m n (joinI n H l) ∧ Turn [m] w w' := by
  have HU := Lib.hid h
  have HI := Lib.hid hI
  clear h hI
  by_cases hall : l.all (inB n) = true
  · have e0 : joinI n H l = joinL H (l.map Int.toNat) := by unfold joinI; rw [if_pos hall]
    rw [e0]
    have HL := Lib.hid hall
    clear e0 hall
    rcases l with _ | ⟨x, t⟩
    · go_enter Try.func11, Try.ntmps11
      go_wp2_with fail
      refine (hasAll_any b m n H A c [] _ HU.out HI.out hl).mono ?_
      rw [HL.out]
      rintro e w' ⟨rfl, rfl⟩
      go_wp2_with fail
      refine (count_any b m n H _ HU.out).mono ?_
      rintro e w1 ⟨rfl, ht1⟩
      have HT1 := Lib.hid ht1
      clear ht1
      go_wp2_with fail
      refine wp_loop_rounds 1 ?_
      rw [rounds_succ]
      go_wp2_with fail
      refine (count_any b m n H _ (HU.out.turn' HT1.out)).mono ?_
      rintro e w2 ⟨rfl, ht2⟩
      have HT2 := Lib.hid (HT1.out.trans' ht2)
      clear ht2
      go_wp2_with fail
      go_ret
      exact ⟨ret_bool (by simp [joinL]), HU.out.turn' HT2.out, HT2.out.more (by simp)⟩
    · obtain ⟨g, off, rfl, hg, hc0⟩ := HI.out 0 x rfl
      obtain ⟨a, rfl, ha, hat⟩ := inB_nat (List.all_eq_true.1 HL.out x (by simp))
      have hgm : g ≠ m := fun e => HU.out.noCell (by rw [← e]; exact hc0)
      have HC0 := Lib.hid hc0
      have hle : n ≤ 65536 := HU.out.le
      clear hc0
      generalize hL : ((a : Int) :: t) = L at *
      have HLL := Lib.hid hL
      clear hL
      go_enter Try.func11, Try.ntmps11
      go_wp2_with fail
      refine (hasAll_any b m n H _ c L _ HU.out HI.out hl).mono ?_
      rw [HL.out]
      rintro e w' ⟨rfl, rfl⟩
      go_wp2_with fail
      refine (count_any b m n H _ HU.out).mono ?_
      rintro e w1 ⟨rfl, ht1⟩
      have HT1 := Lib.hid ht1
      clear ht1
      go_wp2_with fail
      go_loopw [16] (fun t wr => ∃ k : Nat, k ≤ L.length ∧ t = .int .i64 (k : Int) ∧ Hid (Un wr b m n (joinTo H a ((L.take k).map Int.toNat))) ∧ Hid (Turn [m] w wr)) (fun t _ => L.length - (intOf t).toNat)
      case atStart => exact ⟨0, Nat.zero_le _, rfl, Lib.hid (HU.out.turn' HT1.out), Lib.hid (HT1.out.more (by simp))⟩
      case round =>
        obtain ⟨k, hk, rfl, HW, HT⟩ := hrel
        generalize hG : joinTo H a ((L.take k).map Int.toNat) = G at *
        have HG := Lib.hid hG
        clear hG
        by_cases hlt : k < L.length
        · obtain ⟨y, hy⟩ := at_lt hlt
          obtain ⟨g', off', hA, hg', hck⟩ := (HI.out.off (fun o v => HU.out.noCell) HT.out) k y hy
          obtain ⟨rfl, rfl⟩ : g = g' ∧ off = off' := by injection hA with hA; injection hA with h1 h2; exact ⟨h1, h2⟩
          have hc0 : (wr.cell? ⟨g, off, none⟩) = some (.int .i64 (a : Int)) := (HT.out.cell (p := ⟨g, off, none⟩) hg (by simpa using hgm)).trans HC0.out
          obtain ⟨z, rfl, hz, hzt⟩ := inB_nat (List.all_eq_true.1 HL.out y (List.mem_of_getElem? hy))
          have HS : Hid (joinTo H a ((L.take (k + 1)).map Int.toNat) = mg G a z) := Lib.hid (by
            rw [take_snoc hy, List.map_append, List.map_singleton, joinTo_snoc, HG.out]; rfl)
          clear hA hy hzt
          go_wp2_with fail
          refine (climb_any b m n G a _ HW.out ha).mono ?_
          rintro e w2 ⟨rfl, hu2, ht2⟩
          have HU2 := Lib.hid hu2
          have HT2 := Lib.hid (HT.out.trans ht2 (by simp))
          clear hu2 ht2
          go_wp2_with fail
          refine (climb_any b m n G z _ HU2.out hz).mono ?_
          rintro e w3 ⟨rfl, hu3, ht3⟩
          have HU3 := Lib.hid hu3
          have HT3 := Lib.hid (HT2.out.trans ht3 (by simp))
          clear hu3 ht3
          go_wp2_with fail
          refine (link_any b m n G a z _ HU3.out ha hz).mono ?_
          rintro e w4 ⟨rfl, hu4, ht4⟩
          have HU4 := Lib.hid hu4
          have HT4 := Lib.hid (HT3.out.trans ht4 (by simp))
          clear hu4 ht4
          go_wp2_with fail
          go_round
          case rel => exact ⟨k + 1, by omega, by go_num, Lib.hid (by rw [HS.out]; exact HU4.out), HT4⟩
          case measure => simp [intOf]; omega
        · go_wp2_with fail
          refine (count_any b m n G _ HW.out).mono ?_
          rintro e w2 ⟨rfl, ht2⟩
          have HT2 := Lib.hid ht2
          clear ht2
          have HJ : Hid (joinL H (L.map Int.toNat) = G) := Lib.hid (by
            have := HG.out
            rw [List.take_of_length_le (by omega)] at this
            rw [← this, ← HLL.out]
            rfl)
          go_wp2_with fail
          go_ret
          refine ⟨ret_bool ?_, ?_, HT.out.trans' HT2.out⟩
          · rw [HJ.out]
          · rw [HJ.out]; exact HW.out.turn' HT2.out
  · have e0 : joinI n H l = H := by unfold joinI; rw [if_neg hall]
    rw [e0]
    have HL : Hid (l.all (inB n) = false) := Lib.hid (by simpa using hall)
    clear e0 hall
    go_enter Try.func11, Try.ntmps11
    go_wp2_with fail
    refine (hasAll_any b m n H A c l _ HU.out HI.out hl).mono ?_
    rw [HL.out]
    rintro e w' ⟨rfl, rfl⟩
    go_wp2_with fail
    go_ret
    exact ⟨ret_bool (by simp), HU.out, Turn.refl _ _⟩
end Go.Proofs.Ytjgabnphafkgoaa
