/- The longest sign at a text's start; blanks or a remark there. -/
import Derived.Test.YthdoihemjndmlaaDoorMs
set_option linter.unusedSimpArgs false
set_option linter.unusedVariables false
namespace Go.Proofs.YthdoihemjndmlaaDoor
open Go.RowKit

theorem sliteHasPrefix_any (s p : ByteArray) (w : World) (hs : s.size ≤ 1000000) (hp : p.size ≤ 1000000) :
    Calls Tryd.prog 45 #[.string s, .string p] w fun e w' => e = .returned (.bool (Lib.hasPrefix s.data.toList p.data.toList)) ∧ w' = w := by
  have hr := Lib.hasPrefix_raw s p
  have HR := Lib.hid hr
  clear hr
  by_cases h : p.size ≤ s.size
  · have h1 : decide ((p.size : Int) ≤ (s.size : Int)) = true := by simpa using h
    have h2 : (p.size : Int) ≤ (s.size : Int) := by omega
    go_enter Tryd.func45, Tryd.ntmps45
    go_wp2_with fail
    go_ret
    refine ⟨ret_bool ?_, rfl⟩
    rw [← HR.out]
    simp [h]
  · have h1 : decide ((p.size : Int) ≤ (s.size : Int)) = false := by simp; omega
    go_enter Tryd.func45, Tryd.ntmps45
    go_wp2_with fail
    go_ret
    refine ⟨ret_bool ?_, rfl⟩
    rw [← HR.out]
    simp [h]

theorem hasPrefix_any (s p : ByteArray) (w : World) (hs : s.size ≤ 1000000) (hp : p.size ≤ 1000000) :
    Calls Tryd.prog 41 #[.string s, .string p] w fun e w' => e = .returned (.bool (Lib.hasPrefix s.data.toList p.data.toList)) ∧ w' = w := by
  go_enter Tryd.func41, Tryd.ntmps41
  go_wp2_with fail
  refine (sliteHasPrefix_any s p w hs hp).mono ?_
  rintro e w1 ⟨rfl, rfl⟩
  go_wp2_with fail
  go_ret
  exact ⟨rfl, rfl⟩

def signsL : List (List UInt8) := [[123], [125], [40], [41], [91], [93], [59], [44], [61], [46], [60], [43], [45], [58, 58]]
def sgN (t : List UInt8) : Nat := signsL.foldl (fun n x => if Lib.hasPrefix t x then max n x.length else n) 0

/-- The table of signs lies where the program's text lays it. -/
def Sg (w : World) : Prop := 1 < w.heap.size ∧ ∀ i x, signsL[i]? = some x → w.cell? ⟨1, i, none⟩ = some (.string ⟨x.toArray⟩)

def sgV : Value := Value.agg #[.string ⟨#[123]⟩, .string ⟨#[125]⟩, .string ⟨#[40]⟩, .string ⟨#[41]⟩, .string ⟨#[91]⟩, .string ⟨#[93]⟩, .string ⟨#[59]⟩, .string ⟨#[44]⟩, .string ⟨#[61]⟩, .string ⟨#[46]⟩, .string ⟨#[60]⟩, .string ⟨#[43]⟩, .string ⟨#[45]⟩, .string ⟨#[58, 58]⟩]
theorem sg_index (i : Nat) (x : List UInt8) (h : signsL[i]? = some x) (W : World) : (Instr.index 73 sgV (.int .i64 (i : Int))).run Tryd.prog W = .ok (.string ⟨x.toArray⟩) W := by
  iterate 14 (rcases i with _ | i; · (injection h with h; subst h; kernel_rfl))
  simp [signsL] at h

theorem sg_small (i : Nat) (x : List UInt8) (h : signsL[i]? = some x) : x.length ≤ 2 := by
  iterate 14 (rcases i with _ | i; · (injection h with h; subst h; decide))
  simp [signsL] at h

def sgF (t : List UInt8) (n : Nat) (x : List UInt8) : Nat := if Lib.hasPrefix t x then max n x.length else n
theorem sgF_le (t : List UInt8) : ∀ (l : List (List UInt8)) (n : Nat), (∀ x ∈ l, x.length ≤ 2) → n ≤ 2 → l.foldl (sgF t) n ≤ 2
  | [], n, _, h => h
  | x :: l, n, h1, h => by
    rw [List.foldl_cons]
    refine sgF_le t l _ (fun y hy => h1 y (List.mem_cons_of_mem _ hy)) ?_
    unfold sgF
    have := h1 x (by simp)
    split <;> omega

set_option maxHeartbeats 1600000 in
theorem sign_any (s : ByteArray) (w : World) (h : Sg w) (hs : s.size ≤ 1000000) :
    Calls Tryd.prog 40 #[.string s] w fun e w' => e = .returned (.int .i64 (sgN s.data.toList : Int)) ∧ w' = w := by
  have k0 : w.cell? ⟨1, 0, none⟩ = some (.string ⟨#[123]⟩) := h.2 0 _ rfl
  have k1 : w.cell? ⟨1, 1, none⟩ = some (.string ⟨#[125]⟩) := h.2 1 _ rfl
  have k2 : w.cell? ⟨1, 2, none⟩ = some (.string ⟨#[40]⟩) := h.2 2 _ rfl
  have k3 : w.cell? ⟨1, 3, none⟩ = some (.string ⟨#[41]⟩) := h.2 3 _ rfl
  have k4 : w.cell? ⟨1, 4, none⟩ = some (.string ⟨#[91]⟩) := h.2 4 _ rfl
  have k5 : w.cell? ⟨1, 5, none⟩ = some (.string ⟨#[93]⟩) := h.2 5 _ rfl
  have k6 : w.cell? ⟨1, 6, none⟩ = some (.string ⟨#[59]⟩) := h.2 6 _ rfl
  have k7 : w.cell? ⟨1, 7, none⟩ = some (.string ⟨#[44]⟩) := h.2 7 _ rfl
  have k8 : w.cell? ⟨1, 8, none⟩ = some (.string ⟨#[61]⟩) := h.2 8 _ rfl
  have k9 : w.cell? ⟨1, 9, none⟩ = some (.string ⟨#[46]⟩) := h.2 9 _ rfl
  have k10 : w.cell? ⟨1, 10, none⟩ = some (.string ⟨#[60]⟩) := h.2 10 _ rfl
  have k11 : w.cell? ⟨1, 11, none⟩ = some (.string ⟨#[43]⟩) := h.2 11 _ rfl
  have k12 : w.cell? ⟨1, 12, none⟩ = some (.string ⟨#[45]⟩) := h.2 12 _ rfl
  have k13 : w.cell? ⟨1, 13, none⟩ = some (.string ⟨#[58, 58]⟩) := h.2 13 _ rfl
  clear h
  go_enter Tryd.func40, Tryd.ntmps40
  go_wp2_with fail
  clear k0 k1 k2 k3 k4 k5 k6 k7 k8 k9 k10 k11 k12 k13
  have hV : Value.agg #[.string ⟨#[123]⟩, .string ⟨#[125]⟩, .string ⟨#[40]⟩, .string ⟨#[41]⟩, .string ⟨#[91]⟩, .string ⟨#[93]⟩, .string ⟨#[59]⟩, .string ⟨#[44]⟩, .string ⟨#[61]⟩, .string ⟨#[46]⟩, .string ⟨#[60]⟩, .string ⟨#[43]⟩, .string ⟨#[45]⟩, .string ⟨#[58, 58]⟩] = sgV := rfl
  rw [hV]
  clear hV
  have HX := Lib.hid sg_index
  obtain ⟨V, hVV⟩ : ∃ V, sgV = V := ⟨_, rfl⟩
  rw [hVV] at HX ⊢
  clear hVV
  go_loopw [3, 7] (fun tn ti wr => ∃ i n : Nat, i ≤ 14 ∧ ti = .int .i64 (i : Int) ∧ tn = .int .i64 (n : Int) ∧ n ≤ 2 ∧ Hid ((signsL.take i).foldl (sgF s.data.toList) 0 = n) ∧ w = wr) (fun _ ti _ => 14 - (intOf ti).toNat)
  case atStart => exact ⟨0, 0, by omega, rfl, rfl, by omega, Lib.hid rfl, rfl⟩
  case round =>
    obtain ⟨i, n, hi, rfl, rfl, hn, HF, rfl⟩ := hrel
    by_cases hlt : i < 14
    · obtain ⟨x, hx⟩ := at_lt (show i < signsL.length from hlt)
      have hix := HX.out i x hx
      have hx2 := sg_small i x hx
      have HP := Lib.hid hx
      clear hx
      have hd : decide ((i : Int) < 14) = true := by simp; omega
      have hd2 : (i : Int) < 14 := by omega
      obtain ⟨X, hX⟩ : ∃ X : ByteArray, X = ⟨x.toArray⟩ := ⟨_, rfl⟩
      rw [← hX] at hix
      have hXs : X.size = x.length := by rw [hX]; rfl
      have hXd : X.data.toList = x := by rw [hX]
      have HXd := Lib.hid hXd
      have HXs := Lib.hid hXs
      have hX2 : X.size ≤ 2 := by omega
      clear hX hXd hXs
      go_wp2_with fail
      refine (hasPrefix_any s X _ hs (by omega)).mono ?_
      rintro e w1 ⟨rfl, rfl⟩
      have hstep : (signsL.take (i + 1)).foldl (sgF s.data.toList) 0 = sgF s.data.toList n x := by
        rw [take_snoc HP.out, List.foldl_append, HF.out]
        rfl
      have HST := Lib.hid hstep
      clear hstep
      cases hp : Lib.hasPrefix s.data.toList X.data.toList with
      | true =>
        go_wp2_with fail
        go_roundw
        case rel => exact ⟨i + 1, max n X.size, by omega, by go_num, by rw [show ((max n X.size : Nat) : Int) = max (n : Int) (X.size : Int) by omega], by omega, Lib.hid (by rw [HST.out]; unfold sgF; rw [HXd.out] at hp; rw [hp, HXs.out]; rfl), by first | rfl | trivial⟩
        case measure => simp [intOf]; omega
      | false =>
        go_wp2_with fail
        go_roundw
        case rel => exact ⟨i + 1, n, by omega, by go_num, by go_num, hn, Lib.hid (by rw [HST.out]; unfold sgF; rw [HXd.out] at hp; rw [hp]; rfl), by first | rfl | trivial⟩
        case measure => simp [intOf]; omega
    · obtain rfl : i = 14 := by omega
      go_wp2_with fail
      go_ret
      refine ⟨ret_int ?_, rfl⟩
      rw [← HF.out]
      rfl

theorem gap_any (b1 b2 : Nat) (G1 G2 : List Nat) (v1 v2 : Value) (f g : List UInt8 → Nat) (s : ByteArray) (w : World) (c1 : w.cell? ⟨b1, 0, none⟩ = some v1) (c2 : w.cell? ⟨b2, 0, none⟩ = some v2)
    (h1 : Msr w G1 v1 f) (h2 : Msr w G2 v2 g) (hs : s.size ≤ 1000000) :
    Calls Tryd.prog 31 #[.string s, .pointer (some ⟨b1, 0, none⟩), .pointer (some ⟨b2, 0, none⟩)] w fun e w' => e = .returned (.int .i64 (max (f s.data.toList) (g s.data.toList) : Nat)) ∧ ∃ m, w' = w.drewN m := by
  obtain ⟨hG1, k1, caps1, rfl, hen1, hk1⟩ := h1
  obtain ⟨hG2, k2, caps2, rfl, hen2, hk2⟩ := h2
  have HK1 := Lib.hid hk1
  have HK2 := Lib.hid hk2
  clear hk1 hk2 hG1 hG2
  go_enter Tryd.func31, Tryd.ntmps31
  go_wp2_with fail
  go_quiet (first | refine Calls.quiet_of (HK1.out (w.drewN _) (fun _ _ => rfl) s hs) | refine Calls.quiet_of (HK2.out (w.drewN _) (fun _ _ => rfl) s hs))
  go_wp2_with fail
  go_ret
  exact ⟨ret_int (by omega), _, rfl⟩

theorem Msr.run {w : World} {b1 b2 : Nat} {G1 G2 : List Nat} {v1 v2 : Value} {p q : UInt8 → Bool} (hb1 : b1 < w.heap.size) (hb2 : b2 < w.heap.size) (c1 : w.cell? ⟨b1, 0, none⟩ = some v1) (c2 : w.cell? ⟨b2, 0, none⟩ = some v2)
    (h1 : Oct w G1 v1 p) (h2 : Oct w G2 v2 q) : Msr w (b1 :: b2 :: (G1 ++ G2)) (.func (.func 36) #[] #[.pointer (some ⟨b1, 0, none⟩), .pointer (some ⟨b2, 0, none⟩)]) (runN p q) := by
  refine ⟨?_, 36, [.pointer (some ⟨b1, 0, none⟩), .pointer (some ⟨b2, 0, none⟩)], rfl, enters_of Tryd.func36 (by kernel_rfl) rfl, fun w' h s hs => ?_⟩
  · intro g hg
    simp at hg
    rcases hg with rfl | rfl | hg | hg
    · exact hb1
    · exact hb2
    · exact h1.1 g hg
    · exact h2.1 g hg
  · refine run_any b1 b2 G1 G2 v1 v2 p q s w' ?_ ?_ (h1.alike fun g hg => h g (by simp [hg])) (h2.alike fun g hg => h g (by simp [hg])) hs
    · rw [World.cell?_of_block (h b1 (by simp))]
      exact c1
    · rw [World.cell?_of_block (h b2 (by simp))]
      exact c2
theorem Msr.gap {w : World} {b1 b2 : Nat} {G1 G2 : List Nat} {v1 v2 : Value} {f g : List UInt8 → Nat} (hb1 : b1 < w.heap.size) (hb2 : b2 < w.heap.size) (c1 : w.cell? ⟨b1, 0, none⟩ = some v1) (c2 : w.cell? ⟨b2, 0, none⟩ = some v2)
    (h1 : Msr w G1 v1 f) (h2 : Msr w G2 v2 g) : Msr w (b1 :: b2 :: (G1 ++ G2)) (.func (.func 31) #[] #[.pointer (some ⟨b1, 0, none⟩), .pointer (some ⟨b2, 0, none⟩)]) (fun t => max (f t) (g t)) := by
  refine ⟨?_, 31, [.pointer (some ⟨b1, 0, none⟩), .pointer (some ⟨b2, 0, none⟩)], rfl, enters_of Tryd.func31 (by kernel_rfl) rfl, fun w' h s hs => ?_⟩
  · intro g hg
    simp at hg
    rcases hg with rfl | rfl | hg | hg
    · exact hb1
    · exact hb2
    · exact h1.1 g hg
    · exact h2.1 g hg
  · refine gap_any b1 b2 G1 G2 v1 v2 f g s w' ?_ ?_ (h1.alike fun g hg => h g (by simp [hg])) (h2.alike fun g hg => h g (by simp [hg])) hs
    · rw [World.cell?_of_block (h b1 (by simp))]
      exact c1
    · rw [World.cell?_of_block (h b2 (by simp))]
      exact c2
theorem Msr.sign {w : World} (h : Sg w) : Msr w [1] (.func (.func 40) #[] #[]) sgN := by
  refine ⟨by simpa using h.1, 40, [], rfl, enters_of Tryd.func40 (by kernel_rfl) rfl, fun w' h2 s hs => ?_⟩
  have hsz : 1 < w'.heap.size := by
    have := h2 1 (by simp)
    rw [Array.getElem?_eq_getElem h.1] at this
    exact (Array.getElem?_eq_some_iff.1 this).1
  refine (sign_any s w' ⟨hsz, fun i x hx => ?_⟩ hs).mono ?_
  · rw [World.cell?_of_block (h2 1 (by simp))]
    exact h.2 i x hx
  · rintro e w1 ⟨rfl, rfl⟩
    exact ⟨rfl, 0, rfl⟩
theorem Sg.turn {F : List Nat} {w w' : World} (h : Sg w) (t : Turn F w w') (hn : 1 ∉ F) : Sg w' :=
  ⟨Nat.lt_of_lt_of_le h.1 t.size, fun i x hx => (t.cell (p := ⟨1, i, none⟩) h.1 hn).trans (h.2 i x hx)⟩
end Go.Proofs.YthdoihemjndmlaaDoor
