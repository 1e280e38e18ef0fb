import Derived.Test.YtnmhcgkccchacaaGreatDoorQ02Nm
import Derived.Test.YtnmhcgkccchacaaGreatDoorQ08Eit

/- The reference's end: what stands at a place. -/
set_option linter.unusedSimpArgs false
set_option linter.unusedVariables false
namespace Go.Proofs.YtnmhcgkccchacaaGreatDoor
open Go.RowKit

/-- What stands at a text's start, octet by octet: its size, the kind of token (-1: none), the error. -/
def rs : List UInt8 → Nat × Int × Nat
  | [] => (0, -1, 0)
  | c :: r =>
    if kN c.toNat = 0 then (wdN (c :: r), 0, if 32 < wdN (c :: r) then 13 else 0)
    else if kN c.toNat = 1 then (nmN (c :: r), 1, if 3 < nmN (c :: r) then 13 else 0)
    else if kN c.toNat = 2 then (1, 2, 0)
    else if kN c.toNat = 3 then (1, -1, 0)
    else if kN c.toNat = 4 then (runN isH noF (c :: r), -1, 0)
    else if kN c.toNat = 5 ∧ r[0]? = some 58 then (2, 2, 0)
    else (1, -1, 10)

theorem kN_58 {c : UInt8} (h : kN c.toNat = 5) : c = 58 := byte_all (p := fun c => kN c.toNat = 5 → c = 58) (by decide +kernel) c h
theorem drop_at {T : List UInt8} {i : Nat} {c : UInt8} (h : T[i]? = some c) : T.drop i = c :: T.drop (i + 1) := by
  obtain ⟨hh, he⟩ := List.getElem?_eq_some_iff.1 h
  rw [List.drop_eq_getElem_cons hh, he]

/-- A loop's answer: all octets up to k fit, the one at k doesn't, or there is none. -/
theorem run_at {p q : UInt8 → Bool} {T : List UInt8} {i k : Nat} {c : UInt8} (hc : T[i]? = some c) (hp : p c = true) (hk : i + 1 ≤ k) (hkT : k ≤ T.length)
    (h1 : ∀ j y, i + 1 ≤ j → j < k → T[j]? = some y → q y = true) (h2 : ∀ y, T[k]? = some y → q y = false) : i + runN p q (T.drop i) = k := by
  rw [drop_at hc]
  simp only [runN, hp, if_true]
  rw [takeWhile_len q (T.drop (i + 1)) (k - (i + 1))]
  · omega
  · intro j y hj hy
    rw [List.getElem?_drop] at hy
    exact h1 (i + 1 + j) y (by omega) (by omega) hy
  · rw [List.length_drop]
    omega
  · intro y hy
    rw [List.getElem?_drop, show i + 1 + (k - (i + 1)) = k by omega] at hy
    exact h2 y hy

theorem fin3 {k i n : Nat} {kd : Int} {e : Nat} {R : Nat × Int × Nat} (hR : R = (n, kd, e)) (hn : i + n = k) :
    Ending.returned (.tuple #[.int .i64 (k : Int), .int .i64 kd, .int .i64 (e : Int)]) = .returned (.tuple #[.int .i64 ((i + R.1 : Nat) : Int), .int .i64 R.2.1, .int .i64 (R.2.2 : Int)]) := by
  subst hR
  subst hn
  rfl

set_option maxHeartbeats 8000000 in
set_option maxRecDepth 100000 in
theorem end_any (s : ByteArray) (i : Nat) (w : World) (hi : i < s.size) (hs : s.size ≤ 900000) :
    Calls Tryz.prog 45 #[.string s, .int .i64 (i : Int)] w fun e w' => e = .returned (.tuple #[.int .i64 ((i + (rs (s.data.toList.drop i)).1 : Nat) : Int), .int .i64 (rs (s.data.toList.drop i)).2.1, .int .i64 ((rs (s.data.toList.drop i)).2.2 : Int)]) ∧ w' = w := by
  have hl : s.data.toList.length = s.size := (Lib.size_eq s).symm
  have hdg := data_get hi
  have hdr := drop_at hdg
  have i1 : (i : Int) < (s.size : Int) := by omega
  obtain ⟨c, hc⟩ : ∃ c, s[i] = c := ⟨_, rfl⟩
  obtain ⟨cn, hcn⟩ : ∃ cn, s[i].toNat = cn := ⟨_, rfl⟩
  have hcl : cn < 256 := by rw [← hcn]; exact UInt8.toNat_lt _
  rw [hc] at hdg hdr
  have hcc : c.toNat = cn := by rw [← hc]; exact hcn
  have hle := kN_le c
  rw [hcc] at hle
  have HDG := Lib.hid hdg
  have HDR := Lib.hid hdr
  have HL := Lib.hid hl
  have HCC := Lib.hid hcc
  clear hdg hdr hl hc hcc
  by_cases k0 : kN cn = 0
  · have hL : isL c = true := by rw [isL_kN, HCC.out, k0]; rfl
    have hrs : rs (s.data.toList.drop i) = (wdN (s.data.toList.drop i), 0, if 32 < wdN (s.data.toList.drop i) then 13 else 0) := by
      rw [HDR.out]
      simp only [rs, HCC.out, k0, if_true]
    have HRS := Lib.hid hrs
    have HIL := Lib.hid hL
    have HK0 := Lib.hid k0
    clear hrs hL k0
    go_enter Tryz.func45, Tryz.ntmps45
    go_wp2_with fail
    refine (kind_any cn hcl w).mono ?_
    rintro e w1 ⟨rfl, rfl⟩
    rw [HK0.out]
    go_wp2_with fail
    go_loopw [8] (fun ti wr => ∃ k : Nat, i + 1 ≤ k ∧ k ≤ s.size ∧ ti = .int .i64 (k : Int) ∧ Hid (∀ j y, i + 1 ≤ j → j < k → s.data.toList[j]? = some y → isW y = true) ∧ w1 = wr) (fun ti _ => s.size - (intOf ti).toNat)
    case atStart => exact ⟨i + 1, by omega, by omega, by go_num, Lib.hid (fun j y h1 h2 => by omega), rfl⟩
    case round =>
      obtain ⟨k, hk1, hk2, rfl, HA, rfl⟩ := hrel
      by_cases hlt : k < s.size
      · have d1 : decide ((k : Int) < (s.size : Int)) = true := by simp; omega
        have d2 : (k : Int) < (s.size : Int) := by omega
        have HDK := Lib.hid (data_get hlt)
        obtain ⟨ck, hck⟩ : ∃ ck, s[k].toNat = ck := ⟨_, rfl⟩
        have hckl : ck < 256 := by rw [← hck]; exact UInt8.toNat_lt _
        by_cases hw : kN ck ≤ 1
        · have e1 : decide ((kN ck : Int) ≤ 1) = true := by simp; omega
          have e2 : (kN ck : Int) ≤ 1 := by omega
          have HWW : Hid (isW s[k] = true) := Lib.hid (by rw [isW_kN, hck]; simpa using hw)
          clear hw
          go_wp2_with fail
          refine (kind_any ck hckl w1).mono ?_
          rintro e w2 ⟨rfl, rfl⟩
          go_wp2_with fail
          go_roundw
          case rel =>
            refine ⟨k + 1, by omega, by omega, by go_num, Lib.hid (fun j y h1 h2 hy => ?_), by first | rfl | trivial⟩
            by_cases hjk : j = k
            · subst hjk
              rw [HDK.out] at hy
              injection hy with hy
              rw [← hy]
              exact HWW.out
            · exact HA.out j y h1 (by omega) hy
          case measure => simp [intOf]; omega
        · have e1 : decide ((kN ck : Int) ≤ 1) = false := by simp; omega
          have e2 : ¬ (kN ck : Int) ≤ 1 := by omega
          have HWW : Hid (isW s[k] = false) := Lib.hid (by rw [isW_kN, hck]; simpa using hw)
          have hrn := run_at (p := isL) (q := isW) HDG.out HIL.out hk1 (by have := HL.out; omega) HA.out (fun y hy => by rw [HDK.out] at hy; injection hy with hy; rw [← hy]; exact HWW.out)
          have hrn' : i + wdN (s.data.toList.drop i) = k := hrn
          have HRN := Lib.hid hrn'
          clear hrn hrn' hw
          by_cases hb : 32 < k - i
          · have f1 : decide ((32 : Int) < (k : Int) - (i : Int)) = true := by simp; omega
            have f2 : (32 : Int) < (k : Int) - (i : Int) := by omega
            go_wp2_with fail
            refine (kind_any ck hckl w1).mono ?_
            rintro e w2 ⟨rfl, rfl⟩
            go_wp2_with fail
            go_ret3
            have := HRN.out
            exact ⟨fin3 (e := 13) (by rw [HRS.out, if_pos (by omega)]) HRN.out, rfl⟩
          · have f1 : decide ((32 : Int) < (k : Int) - (i : Int)) = false := by simp; omega
            have f2 : ¬ (32 : Int) < (k : Int) - (i : Int) := by omega
            go_wp2_with fail
            refine (kind_any ck hckl w1).mono ?_
            rintro e w2 ⟨rfl, rfl⟩
            go_wp2_with fail
            go_ret3
            have := HRN.out
            exact ⟨fin3 (e := 0) (by rw [HRS.out, if_neg (by omega)]) HRN.out, rfl⟩
      · obtain rfl : k = s.size := by omega
        have d1 : decide ((s.size : Int) < (s.size : Int)) = false := by simp
        have hrn := run_at (p := isL) (q := isW) HDG.out HIL.out hk1 (by have := HL.out; omega) HA.out (fun y hy => by rw [List.getElem?_eq_none (by have := HL.out; omega)] at hy; cases hy)
        have hrn' : i + wdN (s.data.toList.drop i) = s.size := hrn
        have HRN := Lib.hid hrn'
        clear hrn hrn'
        by_cases hb : 32 < s.size - i
        · have f1 : decide ((32 : Int) < (s.size : Int) - (i : Int)) = true := by simp; omega
          have f2 : (32 : Int) < (s.size : Int) - (i : Int) := by omega
          go_wp2_with fail
          go_ret3
          have := HRN.out
          exact ⟨fin3 (e := 13) (by rw [HRS.out, if_pos (by omega)]) HRN.out, rfl⟩
        · have f1 : decide ((32 : Int) < (s.size : Int) - (i : Int)) = false := by simp; omega
          have f2 : ¬ (32 : Int) < (s.size : Int) - (i : Int) := by omega
          go_wp2_with fail
          go_ret3
          have := HRN.out
          exact ⟨fin3 (e := 0) (by rw [HRS.out, if_neg (by omega)]) HRN.out, rfl⟩
  by_cases k1 : kN cn = 1
  · have hL : isD c = true := by rw [isD_kN, HCC.out, k1]; rfl
    have hrs : rs (s.data.toList.drop i) = (nmN (s.data.toList.drop i), 1, if 3 < nmN (s.data.toList.drop i) then 13 else 0) := by
      rw [HDR.out]
      simp only [rs, HCC.out, k1, if_true] ; rfl
    have HRS := Lib.hid hrs
    have HIL := Lib.hid hL
    have HK0 := Lib.hid k1
    clear hrs hL k1
    go_enter Tryz.func45, Tryz.ntmps45
    go_wp2_with fail
    refine (kind_any cn hcl w).mono ?_
    rintro e w1 ⟨rfl, rfl⟩
    rw [HK0.out]
    go_wp2_with fail
    go_loopw [8] (fun ti wr => ∃ k : Nat, i + 1 ≤ k ∧ k ≤ s.size ∧ ti = .int .i64 (k : Int) ∧ Hid (∀ j y, i + 1 ≤ j → j < k → s.data.toList[j]? = some y → isD y = true) ∧ w1 = wr) (fun ti _ => s.size - (intOf ti).toNat)
    case atStart => exact ⟨i + 1, by omega, by omega, by go_num, Lib.hid (fun j y h1 h2 => by omega), rfl⟩
    case round =>
      obtain ⟨k, hk1, hk2, rfl, HA, rfl⟩ := hrel
      by_cases hlt : k < s.size
      · have d1 : decide ((k : Int) < (s.size : Int)) = true := by simp; omega
        have d2 : (k : Int) < (s.size : Int) := by omega
        have HDK := Lib.hid (data_get hlt)
        obtain ⟨ck, hck⟩ : ∃ ck, s[k].toNat = ck := ⟨_, rfl⟩
        have hckl : ck < 256 := by rw [← hck]; exact UInt8.toNat_lt _
        by_cases hw : kN ck = 1
        · have e1 : decide ((kN ck : Int) = 1) = true := by simp; omega
          have e3 : ((kN ck : Int) == 1) = true := by simp; omega
          have e2 : (kN ck : Int) = 1 := by omega
          have HWW : Hid (isD s[k] = true) := Lib.hid (by rw [isD_kN, hck]; simpa using hw)
          clear hw
          go_wp2_with fail
          refine (kind_any ck hckl w1).mono ?_
          rintro e w2 ⟨rfl, rfl⟩
          go_wp2_with fail
          go_roundw
          case rel =>
            refine ⟨k + 1, by omega, by omega, by go_num, Lib.hid (fun j y h1 h2 hy => ?_), by first | rfl | trivial⟩
            by_cases hjk : j = k
            · subst hjk
              rw [HDK.out] at hy
              injection hy with hy
              rw [← hy]
              exact HWW.out
            · exact HA.out j y h1 (by omega) hy
          case measure => simp [intOf]; omega
        · have e1 : decide ((kN ck : Int) = 1) = false := by simp; omega
          have e3 : ((kN ck : Int) == 1) = false := by simp; omega
          have e4 : decide (kN ck = 1) = false := by simpa using hw
          have e2 : ¬ (kN ck : Int) = 1 := by omega
          have HWW : Hid (isD s[k] = false) := Lib.hid (by rw [isD_kN, hck]; simpa using hw)
          have hrn := run_at (p := isD) (q := isD) HDG.out HIL.out hk1 (by have := HL.out; omega) HA.out (fun y hy => by rw [HDK.out] at hy; injection hy with hy; rw [← hy]; exact HWW.out)
          have hrn' : i + nmN (s.data.toList.drop i) = k := hrn
          have HRN := Lib.hid hrn'
          clear hrn hrn' hw
          by_cases hb : 3 < k - i
          · have f1 : decide ((3 : Int) < (k : Int) - (i : Int)) = true := by simp; omega
            have f2 : (3 : Int) < (k : Int) - (i : Int) := by omega
            go_wp2_with fail
            refine (kind_any ck hckl w1).mono ?_
            rintro e w2 ⟨rfl, rfl⟩
            go_wp2_with fail
            go_ret3
            have := HRN.out
            exact ⟨fin3 (e := 13) (by rw [HRS.out, if_pos (by omega)]) HRN.out, rfl⟩
          · have f1 : decide ((3 : Int) < (k : Int) - (i : Int)) = false := by simp; omega
            have f2 : ¬ (3 : Int) < (k : Int) - (i : Int) := by omega
            go_wp2_with fail
            refine (kind_any ck hckl w1).mono ?_
            rintro e w2 ⟨rfl, rfl⟩
            go_wp2_with fail
            go_ret3
            have := HRN.out
            exact ⟨fin3 (e := 0) (by rw [HRS.out, if_neg (by omega)]) HRN.out, rfl⟩
      · obtain rfl : k = s.size := by omega
        have d1 : decide ((s.size : Int) < (s.size : Int)) = false := by simp
        have hrn := run_at (p := isD) (q := isD) HDG.out HIL.out hk1 (by have := HL.out; omega) HA.out (fun y hy => by rw [List.getElem?_eq_none (by have := HL.out; omega)] at hy; cases hy)
        have hrn' : i + nmN (s.data.toList.drop i) = s.size := hrn
        have HRN := Lib.hid hrn'
        clear hrn hrn'
        by_cases hb : 3 < s.size - i
        · have f1 : decide ((3 : Int) < (s.size : Int) - (i : Int)) = true := by simp; omega
          have f2 : (3 : Int) < (s.size : Int) - (i : Int) := by omega
          go_wp2_with fail
          go_ret3
          have := HRN.out
          exact ⟨fin3 (e := 13) (by rw [HRS.out, if_pos (by omega)]) HRN.out, rfl⟩
        · have f1 : decide ((3 : Int) < (s.size : Int) - (i : Int)) = false := by simp; omega
          have f2 : ¬ (3 : Int) < (s.size : Int) - (i : Int) := by omega
          go_wp2_with fail
          go_ret3
          have := HRN.out
          exact ⟨fin3 (e := 0) (by rw [HRS.out, if_neg (by omega)]) HRN.out, rfl⟩
  by_cases k2 : kN cn = 2
  · have hrs : rs (s.data.toList.drop i) = (1, 2, 0) := by
      rw [HDR.out]
      simp only [rs, HCC.out, k2]
      rfl
    have HRS := Lib.hid hrs
    have HK0 := Lib.hid k2
    clear hrs k2
    go_enter Tryz.func45, Tryz.ntmps45
    go_wp2_with fail
    refine (kind_any cn hcl w).mono ?_
    rintro e w1 ⟨rfl, rfl⟩
    rw [HK0.out]
    go_wp2_with fail
    go_ret3
    exact ⟨fin3 (k := i + 1) HRS.out rfl, rfl⟩
  by_cases k3 : kN cn = 3
  · have hrs : rs (s.data.toList.drop i) = (1, -1, 0) := by
      rw [HDR.out]
      simp only [rs, HCC.out, k3]
      rfl
    have HRS := Lib.hid hrs
    have HK0 := Lib.hid k3
    clear hrs k3
    go_enter Tryz.func45, Tryz.ntmps45
    go_wp2_with fail
    refine (kind_any cn hcl w).mono ?_
    rintro e w1 ⟨rfl, rfl⟩
    rw [HK0.out]
    go_wp2_with fail
    go_ret3
    exact ⟨fin3 (k := i + 1) HRS.out rfl, rfl⟩
  by_cases k4 : kN cn = 4
  · have hL : isH c = true := by rw [isH_kN, HCC.out, k4]; rfl
    have hrs : rs (s.data.toList.drop i) = (runN isH noF (s.data.toList.drop i), -1, 0) := by
      rw [HDR.out]
      simp only [rs, HCC.out, k4]
      rfl
    have HRS := Lib.hid hrs
    have HIL := Lib.hid hL
    have HK0 := Lib.hid k4
    clear hrs hL k4
    go_enter Tryz.func45, Tryz.ntmps45
    go_wp2_with fail
    refine (kind_any cn hcl w).mono ?_
    rintro e w1 ⟨rfl, rfl⟩
    rw [HK0.out]
    go_wp2_with fail
    go_loopw [8] (fun ti wr => ∃ k : Nat, i + 1 ≤ k ∧ k ≤ s.size ∧ ti = .int .i64 (k : Int) ∧ Hid (∀ j y, i + 1 ≤ j → j < k → s.data.toList[j]? = some y → noF y = true) ∧ w1 = wr) (fun ti _ => s.size - (intOf ti).toNat)
    case atStart => exact ⟨i + 1, by omega, by omega, by go_num, Lib.hid (fun j y h1 h2 => by omega), rfl⟩
    case round =>
      obtain ⟨k, hk1, hk2, rfl, HA, rfl⟩ := hrel
      by_cases hlt : k < s.size
      · have d1 : decide ((k : Int) < (s.size : Int)) = true := by simp; omega
        have d2 : (k : Int) < (s.size : Int) := by omega
        have HDK := Lib.hid (data_get hlt)
        by_cases h10 : s[k] = 10
        · have e3 : decide ((s[k].toNat : Int) = 10) = true := by rw [h10]; rfl
          have e4 : ((s[k].toNat : Int) == 10) = true := by rw [h10]; rfl
          have e5 : (s[k].toNat : Int) = 10 := by rw [h10]; rfl
          have hrn := run_at (p := isH) (q := noF) HDG.out HIL.out hk1 (by have := HL.out; omega) HA.out (fun y hy => by rw [HDK.out] at hy; injection hy with hy; rw [← hy, h10]; rfl)
          have HRN := Lib.hid hrn
          clear hrn h10
          go_wp2_with fail
          go_ret3
          exact ⟨fin3 HRS.out HRN.out, rfl⟩
        · have h11 : ¬ (s[k].toNat : Int) = 10 := fun e => h10 (UInt8.toNat_inj.1 (by simpa using (by omega : s[k].toNat = 10)))
          have e3 : decide ((s[k].toNat : Int) = 10) = false := by simpa using h11
          have e4 : ((s[k].toNat : Int) == 10) = false := by simpa using h11
          have HWW : Hid (noF s[k] = true) := Lib.hid (by unfold noF; simpa using h10)
          clear h10
          go_wp2_with fail
          go_roundw
          case rel =>
            refine ⟨k + 1, by omega, by omega, by go_num, Lib.hid (fun j y h1 h2 hy => ?_), by first | rfl | trivial⟩
            by_cases hjk : j = k
            · subst hjk
              rw [HDK.out] at hy
              injection hy with hy
              rw [← hy]
              exact HWW.out
            · exact HA.out j y h1 (by omega) hy
          case measure => simp [intOf]; omega
      · obtain rfl : k = s.size := by omega
        have d1 : decide ((s.size : Int) < (s.size : Int)) = false := by simp
        have hrn := run_at (p := isH) (q := noF) HDG.out HIL.out hk1 (by have := HL.out; omega) HA.out (fun y hy => by rw [List.getElem?_eq_none (by have := HL.out; omega)] at hy; cases hy)
        have HRN := Lib.hid hrn
        clear hrn
        go_wp2_with fail
        go_ret3
        exact ⟨fin3 HRS.out HRN.out, rfl⟩
  by_cases k5 : kN cn = 5
  · have hH5 : s.data.toList.drop i = c :: s.data.toList.drop (i + 1) := HDR.out
    by_cases hin : i + 1 < s.size
    · have d1 : decide ((i : Int) + 1 < (s.size : Int)) = true := by simp; omega
      have d2 : (i : Int) + 1 < (s.size : Int) := by omega
      have HDK := Lib.hid (data_get hin)
      have g1 : (i : Int) + 1 = ((i + 1 : Nat) : Int) := by omega
      have hget : (s.data.toList.drop (i + 1))[0]? = some s[i + 1] := by
        rw [List.getElem?_drop]
        exact HDK.out
      by_cases h58 : s[i + 1] = 58
      · have e3 : decide ((s[i + 1].toNat : Int) = 58) = true := by rw [h58]; rfl
        have e4 : ((s[i + 1].toNat : Int) == 58) = true := by rw [h58]; rfl
        have e5 : (s[i + 1].toNat : Int) = 58 := by rw [h58]; rfl
        have hrs : rs (s.data.toList.drop i) = (2, 2, 0) := by
          rw [hH5]
          simp only [rs, HCC.out, k5, hget, h58]
          rfl
        have HRS := Lib.hid hrs
        have HK0 := Lib.hid k5
        have HG1 := Lib.hid g1
        clear hrs k5 hH5 hget h58 g1
        go_enter Tryz.func45, Tryz.ntmps45
        go_wp2_with fail
        refine (kind_any cn hcl w).mono ?_
        rintro e w1 ⟨rfl, rfl⟩
        rw [HK0.out]
        go_wp2_with fail
        go_ret3
        exact ⟨fin3 (k := i + 2) HRS.out rfl, rfl⟩
      · have h11 : ¬ (s[i + 1].toNat : Int) = 58 := fun e => h58 (UInt8.toNat_inj.1 (by simpa using (by omega : s[i + 1].toNat = 58)))
        have e3 : decide ((s[i + 1].toNat : Int) = 58) = false := by simpa using h11
        have e4 : ((s[i + 1].toNat : Int) == 58) = false := by simpa using h11
        have hrs : rs (s.data.toList.drop i) = (1, -1, 10) := by
          rw [hH5]
          simp only [rs, HCC.out, k5, hget]
          simp [h58]
        have HRS := Lib.hid hrs
        have HK0 := Lib.hid k5
        clear hrs k5 hH5 hget h58 g1
        go_enter Tryz.func45, Tryz.ntmps45
        go_wp2_with fail
        refine (kind_any cn hcl w).mono ?_
        rintro e w1 ⟨rfl, rfl⟩
        rw [HK0.out]
        go_wp2_with fail
        go_ret3
        exact ⟨fin3 (k := i + 1) HRS.out rfl, rfl⟩
    · have d1 : decide ((i : Int) + 1 < (s.size : Int)) = false := by simp; omega
      have d2 : ¬ (i : Int) + 1 < (s.size : Int) := by omega
      have hrs : rs (s.data.toList.drop i) = (1, -1, 10) := by
        have hnil : s.data.toList.drop (i + 1) = [] := List.drop_of_length_le (by have := HL.out; omega)
        rw [hH5, hnil]
        simp only [rs, HCC.out, k5]
        simp
      have HRS := Lib.hid hrs
      have HK0 := Lib.hid k5
      clear hrs k5 hH5
      go_enter Tryz.func45, Tryz.ntmps45
      go_wp2_with fail
      refine (kind_any cn hcl w).mono ?_
      rintro e w1 ⟨rfl, rfl⟩
      rw [HK0.out]
      go_wp2_with fail
      go_ret3
      exact ⟨fin3 (k := i + 1) HRS.out rfl, rfl⟩
  have k6 : kN cn = 6 := by omega
  clear k0 k1 k2 k3 k4 k5
  · have hrs : rs (s.data.toList.drop i) = (1, -1, 10) := by
      rw [HDR.out]
      simp only [rs, HCC.out, k6]
      rfl
    have HRS := Lib.hid hrs
    have HK0 := Lib.hid k6
    clear hrs k6
    go_enter Tryz.func45, Tryz.ntmps45
    go_wp2_with fail
    refine (kind_any cn hcl w).mono ?_
    rintro e w1 ⟨rfl, rfl⟩
    rw [HK0.out]
    go_wp2_with fail
    go_ret3
    exact ⟨fin3 (k := i + 1) HRS.out rfl, rfl⟩
end Go.Proofs.YtnmhcgkccchacaaGreatDoor

/- The reference's step and the program's: the same tokens. -/
set_option linter.unusedSimpArgs false
set_option linter.unusedVariables false
namespace Go.Proofs.YtnmhcgkccchacaaGreatDoor
open Go.RowKit

def sgG (c : UInt8) (b : Bool) : Nat :=
  let n := ([123, 125, 40, 41, 91, 93, 59, 44, 61, 46, 60, 43, 45] : List UInt8).foldl (fun n x => if (x == c && true) = true then max n 1 else n) 0
  if (58 == c && b) = true then max n 2 else n
theorem sgN_cons (c : UInt8) (r : List UInt8) : sgN (c :: r) = sgG c ([58].isPrefixOf r) := rfl
theorem sgG_kN (c : UInt8) (b : Bool) : sgG c b = if kN c.toNat = 2 then 1 else if kN c.toNat = 5 ∧ b = true then 2 else 0 :=
  byte_all (p := fun c => ∀ b, sgG c b = if kN c.toNat = 2 then 1 else if kN c.toNat = 5 ∧ b = true then 2 else 0) (by decide +kernel) c b
theorem pre58 (r : List UInt8) : [58].isPrefixOf r = true ↔ r[0]? = some 58 := by
  cases r with
  | nil => simp
  | cons d r =>
    simp [List.isPrefixOf]
    exact eq_comm

theorem gp_none {c : UInt8} (r : List UInt8) (h3 : kN c.toNat ≠ 3) (h4 : kN c.toNat ≠ 4) : gpN (c :: r) = 0 := by
  have hb : isB c = false := by rw [isB_kN]; simpa using h3
  have hh : isH c = false := by rw [isH_kN]; simpa using h4
  simp [gpN, runN, hb, hh]
theorem wd_none {c : UInt8} (r : List UInt8) (h : kN c.toNat ≠ 0) : wdN (c :: r) = 0 := by
  have hb : isL c = false := by rw [isL_kN]; simpa using h
  simp [wdN, runN, hb]
theorem nm_none {c : UInt8} (r : List UInt8) (h : kN c.toNat ≠ 1) : nmN (c :: r) = 0 := by
  have hb : isD c = false := by rw [isD_kN]; simpa using h
  simp [nmN, runN, hb]
theorem wd_some {c : UInt8} (r : List UInt8) (h : kN c.toNat = 0) : 0 < wdN (c :: r) := by
  have hb : isL c = true := by rw [isL_kN]; simpa using h
  simp [wdN, runN, hb]
  omega
theorem nm_some {c : UInt8} (r : List UInt8) (h : kN c.toNat = 1) : 0 < nmN (c :: r) := by
  have hb : isD c = true := by rw [isD_kN]; simpa using h
  simp [nmN, runN, hb]
  omega

/-- A blank: one octet, or all the blanks, leads to the same. -/
theorem lxa_blank {T : List UInt8} {n : Nat} {c : UInt8} (hc : T[n]? = some c) (h : kN c.toNat = 3) : lxa T n = lxa T (n + 1) := by
  have hd := drop_at hc
  have hb : isB c = true := by rw [isB_kN]; simpa using h
  have hh : isH c = false := by rw [isH_kN, h]; rfl
  have hg : gpN (T.drop n) = 1 + ((T.drop (n + 1)).takeWhile isB).length := by
    rw [hd]
    simp [gpN, runN, hb, hh]
  have h1 := lxa_gap (T := T) (n := n) (by omega)
  rw [h1, hg]
  cases hr : T.drop (n + 1) with
  | nil => simp
  | cons d r =>
    cases hbd : isB d with
    | false => simp [List.takeWhile_cons, hbd]
    | true =>
      have hhd : isH d = false := by
        rw [isB_kN, decide_eq_true_eq] at hbd
        rw [isH_kN, hbd]
        rfl
      have hg2 : gpN (T.drop (n + 1)) = ((d :: r).takeWhile isB).length := by
        rw [hr]
        simp [gpN, runN, hbd, hhd, List.takeWhile_cons]
        omega
      have h2 := lxa_gap (T := T) (n := n + 1) (by rw [hg2]; simp [List.takeWhile_cons, hbd])
      rw [h2, hg2]
      congr 1
      omega

theorem step_bad {T : List UInt8} {n : Nat} (hn : n < T.length) (he : (rs (T.drop n)).2.2 ≠ 0) : lxa T n = .bad (rs (T.drop n)).2.2 (plc T n).1 (plc T n).2 := by
  have hc := List.getElem?_eq_getElem hn
  have hd := drop_at hc
  obtain ⟨c, hcc⟩ : ∃ c, T[n] = c := ⟨_, rfl⟩
  rw [hcc] at hd
  obtain ⟨r, hr⟩ : ∃ r, T.drop (n + 1) = r := ⟨_, rfl⟩
  rw [hr] at hd
  have hne : T.drop n ≠ [] := by rw [hd]; simp
  have key : gpN (T.drop n) = 0 ∧ (fst3 (T.drop n)).1 = (rs (T.drop n)).2.2 := by
    rw [hd] at he ⊢
    by_cases k0 : kN c.toNat = 0
    · simp only [rs, k0, if_true] at he ⊢
      refine ⟨gp_none r (by omega) (by omega), ?_⟩
      by_cases hb : 32 < wdN (c :: r)
      · simp [fst3, hb]
      · rw [if_neg hb] at he
        exact absurd rfl he
    by_cases k1 : kN c.toNat = 1
    · have hw := wd_none r k0
      simp only [rs, k1] at he ⊢
      refine ⟨gp_none r (by omega) (by omega), ?_⟩
      by_cases hb : 3 < nmN (c :: r)
      · simp [fst3, hw, hb]
      · simp [hb] at he
    by_cases k2 : kN c.toNat = 2
    · simp [rs, k2] at he
    by_cases k3 : kN c.toNat = 3
    · simp [rs, k3] at he
    by_cases k4 : kN c.toNat = 4
    · simp [rs, k4] at he
    have hw := wd_none r k0
    have hm := nm_none r k1
    refine ⟨gp_none r k3 k4, ?_⟩
    have hs := (sgN_cons c r).trans (sgG_kN c _)
    rw [if_neg k2] at hs
    by_cases h5 : kN c.toNat = 5 ∧ r[0]? = some 58
    · simp [rs, k0, k1, k2, k3, k4, h5] at he
    · have h5' : ¬ (kN c.toNat = 5 ∧ [58].isPrefixOf r = true) := fun h => h5 ⟨h.1, (pre58 r).1 h.2⟩
      rw [if_neg h5'] at hs
      simp only [rs, if_neg k0, if_neg k1, if_neg k2, if_neg k3, if_neg k4, if_neg h5, fst3, hw, hm, hs]
      rfl
  rw [lxa_bad hne key.1 (by rw [key.2]; exact he), key.2]

theorem step_good {T : List UInt8} {n : Nat} (hn : n < T.length) (he : (rs (T.drop n)).2.2 = 0) :
    0 < (rs (T.drop n)).1 ∧ n + (rs (T.drop n)).1 ≤ T.length ∧
    (((rs (T.drop n)).2.1 = -1 ∧ lxa T n = lxa T (n + (rs (T.drop n)).1)) ∨
     ∃ kd : Nat, (rs (T.drop n)).2.1 = (kd : Int) ∧ lxa T n = preT [⟨kd, (T.drop n).take (rs (T.drop n)).1, (plc T n).1, (plc T n).2⟩] (lxa T (n + (rs (T.drop n)).1))) := by
  have hc := List.getElem?_eq_getElem hn
  have hd := drop_at hc
  obtain ⟨c, hcc⟩ : ∃ c, T[n] = c := ⟨_, rfl⟩
  rw [hcc] at hd hc
  obtain ⟨r, hr⟩ : ∃ r, T.drop (n + 1) = r := ⟨_, rfl⟩
  rw [hr] at hd
  have hne : T.drop n ≠ [] := by rw [hd]; simp
  have hlen : (T.drop n).length = T.length - n := List.length_drop
  have htok : ∀ (k kd : Nat), gpN (T.drop n) = 0 → fst3 (T.drop n) = (0, k, kd) → rs (T.drop n) = (k, (kd : Int), 0) →
      0 < (rs (T.drop n)).1 ∧ n + (rs (T.drop n)).1 ≤ T.length ∧
      (((rs (T.drop n)).2.1 = -1 ∧ lxa T n = lxa T (n + (rs (T.drop n)).1)) ∨
       ∃ kd : Nat, (rs (T.drop n)).2.1 = (kd : Int) ∧ lxa T n = preT [⟨kd, (T.drop n).take (rs (T.drop n)).1, (plc T n).1, (plc T n).2⟩] (lxa T (n + (rs (T.drop n)).1))) := by
    intro k kd hg hf hrs
    have hsz := fst3_size (T.drop n) (by rw [hf])
    rw [hf] at hsz
    have ht := lxa_tok hne hg (by rw [hf])
    rw [hf] at ht
    rw [hrs]
    simp only at hsz ⊢
    exact ⟨hsz.1, by omega, .inr ⟨kd, rfl, ht⟩⟩
  by_cases k0 : kN c.toNat = 0
  · have hp := wd_some r k0
    have hb : ¬ 32 < wdN (c :: r) := fun hb => by rw [hd] at he; simp [rs, k0, hb] at he
    refine htok (wdN (c :: r)) 0 (by rw [hd]; exact gp_none r (by omega) (by omega)) ?_ ?_
    · rw [hd]
      simp only [fst3, if_neg hb, if_pos hp]
    · rw [hd]
      simp only [rs, k0, if_true, if_neg hb]
      rfl
  by_cases k1 : kN c.toNat = 1
  · have hp := nm_some r k1
    have hw := wd_none r k0
    have hb : ¬ 3 < nmN (c :: r) := fun hb => by rw [hd] at he; simp [rs, k1, hb] at he
    refine htok (nmN (c :: r)) 1 (by rw [hd]; exact gp_none r (by omega) (by omega)) ?_ ?_
    · rw [hd]
      simp only [fst3, hw, if_neg hb, if_pos hp]
      rfl
    · rw [hd]
      simp only [rs, k1, if_neg hb]
      rfl
  have hw := wd_none r k0
  have hm := nm_none r k1
  have hs := (sgN_cons c r).trans (sgG_kN c _)
  by_cases k2 : kN c.toNat = 2
  · rw [if_pos k2] at hs
    refine htok 1 2 (by rw [hd]; exact gp_none r (by omega) (by omega)) ?_ ?_
    · rw [hd]
      simp only [fst3, hw, hm, hs]
      rfl
    · rw [hd]
      simp only [rs, k2]
      rfl
  by_cases k3 : kN c.toNat = 3
  · have hrs : rs (T.drop n) = (1, -1, 0) := by
      rw [hd]
      simp only [rs, k3]
      rfl
    rw [hrs]
    exact ⟨by omega, by simp only; omega, .inl ⟨rfl, lxa_blank hc k3⟩⟩
  by_cases k4 : kN c.toNat = 4
  · have hh : isH c = true := by rw [isH_kN]; simpa using k4
    have hb : isB c = false := by rw [isB_kN, k4]; rfl
    have hrs : rs (T.drop n) = (runN isH noF (T.drop n), -1, 0) := by
      rw [hd]
      simp only [rs, k4]
      rfl
    have hg : gpN (T.drop n) = runN isH noF (T.drop n) := by
      rw [hd]
      simp [gpN, runN, hb]
    have hpos : 0 < runN isH noF (T.drop n) := by
      rw [hd]
      simp [runN, hh]
      omega
    have hle := runN_le isH noF (T.drop n)
    rw [hrs]
    refine ⟨hpos, by simp only; omega, .inl ⟨rfl, ?_⟩⟩
    have := lxa_gap (T := T) (n := n) (by rw [hg]; exact hpos)
    rw [hg] at this
    exact this
  rw [if_neg k2] at hs
  by_cases h5 : kN c.toNat = 5 ∧ r[0]? = some 58
  · have h5' : kN c.toNat = 5 ∧ [58].isPrefixOf r = true := ⟨h5.1, (pre58 r).2 h5.2⟩
    rw [if_pos h5'] at hs
    refine htok 2 2 (by rw [hd]; exact gp_none r k3 k4) ?_ ?_
    · rw [hd]
      simp only [fst3, hw, hm, hs]
      rfl
    · rw [hd]
      simp only [rs, if_neg k0, if_neg k1, if_neg k2, if_neg k3, if_neg k4, if_pos h5]
      rfl
  · exfalso
    rw [hd] at he
    simp only [rs, if_neg k0, if_neg k1, if_neg k2, if_neg k3, if_neg k4, if_neg h5] at he
    omega
theorem rs_small {T : List UInt8} : (rs T).2.2 ≤ 13 ∧ -1 ≤ (rs T).2.1 ∧ (rs T).2.1 ≤ 2 := by
  cases T with
  | nil => simp [rs]
  | cons c r =>
    simp only [rs]
    repeat' split
    all_goals simp
end Go.Proofs.YtnmhcgkccchacaaGreatDoor
