/- The reference: New, There. -/
import Derived.Test.YtjgabnphafkgoaaCls
import Derived.Test.YtjgabnphafkgoaaLs
set_option linter.unusedSimpArgs false
set_option linter.unusedVariables false
namespace Go.Proofs.Ytjgabnphafkgoaa
open Go.RowKit Go.Maps

/-- The heads of the first n, as a list. -/
def hdL (n : Nat) (H : Nat → Nat) : List Int := (List.range n).map (fun i => (H i : Int))
theorem hdL_length (n : Nat) (H : Nat → Nat) : (hdL n H).length = n := by simp [hdL]
theorem hdL_at {n i : Nat} (H : Nat → Nat) (h : i < n) : (hdL n H)[i]? = some (H i : Int) := by
  unfold hdL
  rw [List.getElem?_map, List.getElem?_range h]
  rfl
theorem hdL_succ (n : Nat) (H : Nat → Nat) : hdL (n + 1) H = hdL n H ++ [(H n : Int)] := by
  unfold hdL
  rw [List.range_succ, List.map_append]
  rfl
theorem hdL_congr {n : Nat} {G H : Nat → Nat} (h : ∀ i, i < n → G i = H i) : hdL n G = hdL n H := by
  unfold hdL
  exact List.map_congr_left (fun i hi => by rw [h i (List.mem_range.1 hi)])
theorem hdL_inj {n : Nat} {G H : Nat → Nat} (h : hdL n G = hdL n H) : ∀ i, i < n → G i = H i := by
  intro i hi
  have h1 := hdL_at G hi
  rw [h, hdL_at H hi] at h1
  injection h1 with h1
  omega

set_option maxHeartbeats 400000 in
theorem refNew_any (n : Nat) (w : World) (hn : n ≤ 100000) :
    Calls Try.prog 9 #[.int .i64 (n : Int)] w fun e w' => ∃ v, e = .returned v ∧ OwnI w' w.heap.size v (hdL n (fun i => i)) ∧ Turn [] w w' := by
  go_enter Try.func9, Try.ntmps9
  go_wp2_with fail
  go_loopw [3, 4] (fun t i wr => ∃ (k : Nat), k ≤ n ∧ i = .int .i64 (k : Int) ∧ Hid (OwnI wr w.heap.size t (hdL k (fun i => i))) ∧ Hid (Turn [] w wr)) (fun _ i _ => n - (intOf i).toNat)
  case atStart => exact ⟨0, Nat.zero_le _, rfl, Lib.hid (OwnI.nil _ _), Lib.hid (Turn.refl _ _)⟩
  case round =>
    obtain ⟨k, hk, rfl, HO, HT⟩ := hrel
    have hs := HT.out.size
    by_cases hlt : k < n
    · go_wp2_with (at_builtin
                   refine wpList_app1 rfl (.tmp 10) (.tmp 12) rfl wr w.heap.size u3 (hdL k (fun i => i)) (k : Int) 1 rfl HO.out rfl (by rw [hdL_length]; omega) hs ?_
                   intro v1 w1 ho1 ht1 hb1
                   have HO1 := Lib.hid ho1
                   have HT1 := Lib.hid ht1
                   clear ho1 ht1 hb1)
      go_roundw
      case rel => exact ⟨k + 1, by omega, by go_num, Lib.hid (by rw [hdL_succ]; exact HO1.out), Lib.hid (HT.out.trans HT1.out (fun g hg => .inr (OwnI.lt HO.out g (by simpa using hg)).1))⟩
      case measure => simp [intOf]; omega
    · obtain rfl : k = n := by omega
      go_wp2_with fail
      go_ret
      exact ⟨_, rfl, HO.out, HT.out⟩

set_option maxHeartbeats 400000 in
theorem there_any (A B : Option Addr) (n c d : Nat) (l : List Int) (w : World) (h : Ints w B l) (hl : l.length ≤ 1000000000) (hn : n ≤ 100000) :
    Calls Try.prog 14 #[.slice A n c, .slice B l.length d] w fun e w' => e = .returned (.bool (l.all (inB n))) ∧ w = w' := by
  have HI := Lib.hid h
  clear h
  go_enter Try.func14, Try.ntmps14
  go_wp2_with fail
  go_loop [5] (fun t => ∃ k : Nat, k ≤ l.length ∧ Hid ((l.take k).all (inB n) = true) ∧ t = .int .i64 (k : Int)) (fun t => l.length - (intOf t).toNat)
  case atStart => exact ⟨0, Nat.zero_le _, Lib.hid (by simp), rfl⟩
  case round =>
    obtain ⟨k, hk, HA, rfl⟩ := hrel
    by_cases hlt : k < l.length
    · obtain ⟨y, hy⟩ := at_lt hlt
      obtain ⟨g, off, rfl, hg, hcell⟩ := HI.out k y hy
      have hts : (l.take (k + 1)).all (inB n) = inB n y := by rw [take_snoc hy, List.all_append, HA.out]; simp
      have HS := Lib.hid hts
      have HY := Lib.hid hy
      clear hts hy
      by_cases h0 : y < 0
      · have d0 : decide (y < 0) = true := by simpa using h0
        go_wp2_with fail
        go_ret
        refine ⟨ret_bool ?_, rfl⟩
        symm
        rw [List.all_eq_false]
        exact ⟨y, List.mem_of_getElem? HY.out, by unfold inB; simp; omega⟩
      · have d0 : decide (y < 0) = false := by simpa using h0
        by_cases h1 : y < (n : Int)
        · have d1 : decide ((n : Int) ≤ y) = false := by simp; omega
          go_wp2_with fail
          go_round
          case rel => exact ⟨k + 1, by omega, Lib.hid (HS.out.trans (by unfold inB; simp; omega)), by go_num⟩
          case measure => simp [intOf]; omega
        · have d1 : decide ((n : Int) ≤ y) = true := by simp; omega
          go_wp2_with fail
          go_ret
          refine ⟨ret_bool ?_, rfl⟩
          symm
          rw [List.all_eq_false]
          exact ⟨y, List.mem_of_getElem? HY.out, by unfold inB; simp; omega⟩
    · go_wp2_with fail
      go_ret
      refine ⟨ret_bool ?_, rfl⟩
      have := HA.out
      rw [List.take_of_length_le (by omega)] at this
      exact this.symm
end Go.Proofs.Ytjgabnphafkgoaa
