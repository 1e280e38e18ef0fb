/- The reference's Digits: a number's decimal text. -/
import Derived.Test.YtoekaehpcjhhaaaGreatDoorRfl
import Derived.Laws.IdiomStrings
import Derived.Lib.ItoaLen
import Derived.IntWalk
set_option linter.unusedSimpArgs false
set_option linter.unusedVariables false
namespace Go.Proofs.YtoekaehpcjhhaaaGreatDoor
open Go.RowKit

def digT (n : Int) : ByteArray := mk (Lib.decDigits n.toNat)
theorem digT_small {n : Int} (h0 : 0 ≤ n) (h : n < 10) : digT n = ⟨#[UInt8.ofNat (48 + n.toNat)]⟩ := by
  unfold digT
  rw [Lib.decDigits_one (by omega)]
  rfl
theorem digT_great {n : Int} (h : 10 ≤ n) : digT n = digT (n / 10) ++ digT (n % 10) := by
  apply bs_inj
  unfold digT
  rw [bs_append, bs_mk, bs_mk, bs_mk, Lib.decDigits, dif_neg (by omega), show (n / 10).toNat = n.toNat / 10 by omega, Lib.decDigits_one (i := (n % 10).toNat) (by omega), show (n % 10).toNat = n.toNat % 10 by omega]
theorem digT_size {n : Int} (h0 : 0 ≤ n) (h : n ≤ 9223372036854775808) : (digT n).size ≤ 20 := by
  unfold digT
  rw [size_bs, bs_mk, Lib.decDigits_length]
  exact Lib.nDigits_le20 _ (by omega)

set_option maxRecDepth 20000 in
theorem dig_small (n : Int) (w : World) (h0 : 0 ≤ n) (h : n < 10) :
    Calls Tryz.prog 71 #[.int .i64 n] w fun e w' => e = .returned (.string (digT n)) ∧ Turn [] w w' := by
  have h1 : ¬ n < 0 := by omega
  have hcv : (convert 73 9 (.slice (some ⟨w.heap.size, 0, none⟩) 1 1)).run Tryz.prog (w.alloc (.cells #[.int .u8 (48 + n)] 5)) = .ok (.string ⟨#[UInt8.ofNat (48 + n.toNat)]⟩) (w.alloc (.cells #[.int .u8 (48 + n)] 5)) := by
    have := run_convert_bytes_back (P := Tryz.prog) (w.alloc (.cells #[.int .u8 (48 + n)] 5)) 73 9 5 ⟨w.heap.size, 0, none⟩ 1 [UInt8.ofNat (48 + n.toNat)] Tryz.underlying73 Tryz.underlying5 Tryz.underlying9 (fun j hj => by
      have hj0 : j = 0 := by simp at hj; omega
      subst hj0
      rw [Addr.add_lit, cell_of_row _ w.heap.size _ _ _ _ (heap_alloc_new w _)]
      simp
      omega)
    exact this
  obtain ⟨c, hc⟩ : ∃ c, UInt8.ofNat (48 + n.toNat) = c := ⟨_, rfl⟩
  rw [hc] at hcv
  have HC := Lib.hid hc
  clear hc
  go_enter Tryz.func71, Tryz.ntmps71
  go_wp2_with fail
  go_ret
  exact ⟨ret_s (by rw [digT_small h0 h, HC.out]), bx w _ _⟩

set_option maxRecDepth 20000 in
theorem dig_nat : ∀ (k : Nat) (n : Int) (w : World), n.toNat ≤ k → 0 ≤ n → n ≤ 9223372036854775807 → Calls Tryz.prog 71 #[.int .i64 n] w fun e w' => e = .returned (.string (digT n)) ∧ Turn [] w w'
  | 0, n, w, hk, h0, h => dig_small n w h0 (by omega)
  | k + 1, n, w, hk, h0, h => by
    by_cases hs : n < 10
    · exact dig_small n w h0 hs
    · have h1 : ¬ n < 0 := by omega
      have HA := Lib.hid (dig_nat k (n / 10) w (by omega) (by omega) (by omega))
      have HB := Lib.hid (fun W => dig_small (n % 10) W (by omega) (by omega))
      have hz1 := digT_size (n := n / 10) (by omega) (by omega)
      have hz2 := digT_size (n := n % 10) (by omega) (by omega)
      have hz : (digT (n / 10)).size + (digT (n % 10)).size ≤ 9223372036854775807 := by omega
      have HG := Lib.hid (digT_great (n := n) (by omega))
      clear hz1 hz2
      go_enter Tryz.func71, Tryz.ntmps71
      go_wp2_with fail
      refine HA.out.mono ?_
      rintro e w1 ⟨rfl, t1⟩
      have HT1 := Lib.hid t1
      clear t1
      go_wp2_with fail
      refine (HB.out w1).mono ?_
      rintro e w2 ⟨rfl, t2⟩
      have HT2 := Lib.hid t2
      clear t2
      go_wp2_with fail
      go_ret
      exact ⟨ret_s HG.out.symm, HT1.out.trans' HT2.out⟩

theorem itoa_neg {n : Int} (h : n < 0) : mk (Lib.itoa n) = ⟨#[45]⟩ ++ digT (-n) := by
  apply bs_inj
  unfold digT Lib.itoa
  rw [if_pos h, bs_append, bs_mk, bs_mk, show (-n).toNat = n.natAbs by omega]
  rfl
theorem itoa_pos {n : Int} (h : 0 ≤ n) : mk (Lib.itoa n) = digT n := by
  unfold digT Lib.itoa
  rw [if_neg (by omega)]

set_option maxRecDepth 20000 in
theorem digits_any (n : Int) (w : World) (h0 : -9223372036854775808 ≤ n) (h : n ≤ 9223372036854775807) :
    Calls Tryz.prog 71 #[.int .i64 n] w fun e w' => e = .returned (.string (mk (Lib.itoa n))) ∧ Turn [] w w' := by
  by_cases hn : n < 0
  · have HI := Lib.hid (itoa_neg hn)
    obtain ⟨u, hu⟩ : ∃ u, -n = u := ⟨_, rfl⟩
    obtain rfl : n = -u := by omega
    rw [Int.neg_neg] at HI
    have hu0 : 0 < u := by omega
    have hu1 : u ≤ 9223372036854775808 := by omega
    have hA : IntKind.u64.wrap (-IntKind.u64.wrap (-u)) = u := by
      have e : ∀ m : Int, IntKind.u64.wrap m = m % 18446744073709551616 := fun m => by simp [IntKind.wrap, IntKind.bits, IntKind.signed]
      rw [e, e]
      omega
    have hq : IntKind.u64.wrap (u.tdiv 10) = u / 10 := IntWalk.u64_quo u 10 (by omega)
    have hr : u.tmod 10 = u % 10 := IntWalk.rem_in u 10 (by omega)
    have hz0 := digT_size (n := u) (by omega) (by omega)
    clear hu h0 h hn
    by_cases hs : u < 10
    · have HA := Lib.hid (dig_small u w (by omega) hs)
      have hz : 1 + (digT u).size ≤ 9223372036854775807 := by omega
      have hi : wrap64 u = u := by unfold wrap64; omega
      clear hz0
      go_enter Tryz.func71, Tryz.ntmps71
      go_wp2_with fail
      refine HA.out.mono ?_
      rintro e w1 ⟨rfl, t1⟩
      have HT1 := Lib.hid t1
      clear t1
      go_wp2_with fail
      go_ret
      exact ⟨ret_s HI.out.symm, HT1.out⟩
    · have HA := Lib.hid (dig_nat (u / 10).toNat (u / 10) w (Nat.le_refl _) (by omega) (by omega))
      have HB := Lib.hid (fun W => dig_small (u % 10) W (by omega) (by omega))
      have hz1 := digT_size (n := u / 10) (by omega) (by omega)
      have hz2 := digT_size (n := u % 10) (by omega) (by omega)
      have hz : 1 + (digT (u / 10)).size ≤ 9223372036854775807 := by omega
      have hzz : (⟨#[45]⟩ ++ digT (u / 10)).size + (digT (u % 10)).size ≤ 9223372036854775807 := by rw [size_app, show (⟨#[45]⟩ : ByteArray).size = 1 from rfl]; omega
      have HG := Lib.hid (digT_great (n := u) (by omega))
      have hi : wrap64 (u / 10) = u / 10 := by unfold wrap64; omega
      have hi2 : wrap64 (u % 10) = u % 10 := by unfold wrap64; omega
      have hi3 : IntKind.u64.wrap (u % 10) = u % 10 := IntWalk.u64_in _ (by omega)
      clear hz1 hz2 hz0
      go_enter Tryz.func71, Tryz.ntmps71
      go_wp2_with fail
      refine HA.out.mono ?_
      rintro e w1 ⟨rfl, t1⟩
      have HT1 := Lib.hid t1
      clear t1
      go_wp2_with fail
      refine (HB.out w1).mono ?_
      rintro e w2 ⟨rfl, t2⟩
      have HT2 := Lib.hid t2
      clear t2
      go_wp2_with fail
      go_ret
      exact ⟨ret_s (by rw [HI.out, HG.out]; apply bs_inj; simp only [bs_append, List.append_assoc]), HT1.out.trans' HT2.out⟩
  · rw [itoa_pos (by omega)]
    exact dig_nat n.toNat n w (Nat.le_refl _) (by omega) h
end Go.Proofs.YtoekaehpcjhhaaaGreatDoor
