/- Walks of the reference functions of layer 1 over int slices. -/
import Derived.Test.YtclofjlonncnlaaDoorKit
set_option linter.unusedSimpArgs false
set_option linter.unusedVariables false
namespace Go.Proofs.YtclofjlonncnlaaDoor
open Go.RowKit


def okB (n : Int) : Bool := decide (0 ≤ n ∧ n < 1048576)
set_option maxHeartbeats 400000 in
theorem mayHold_any (n : Int) (w : World) : Calls Tryd.prog 24 #[.int .i64 n] w fun e w' => e = .returned (.bool (okB n)) ∧ w = w' := by
  by_cases h0 : 0 ≤ n
  · have hd : decide (0 ≤ n) = true := by simpa using h0
    by_cases h1 : n < 1048576
    · go_enter Tryd.func24, Tryd.ntmps24
      go_wp2
      go_ret
      exact ⟨ret_bool (by simp [okB, h0, h1]), rfl⟩
    · go_enter Tryd.func24, Tryd.ntmps24
      go_wp2
      go_ret
      exact ⟨ret_bool (by simp [okB, h0, h1]), rfl⟩
  · have hd : decide (0 ≤ n) = false := by simpa using h0
    go_enter Tryd.func24, Tryd.ntmps24
    go_wp2
    go_ret
    exact ⟨ret_bool (by simp [okB]; omega), rfl⟩

def hasB (l : List Int) (x : Int) : Bool := l.contains x
theorem hasB_at {l : List Int} {k : Nat} {y : Int} (h : l[k]? = some y) : hasB l y = true := by
  simp [hasB, List.mem_of_getElem? h]
theorem hasB_next {l : List Int} {k : Nat} {x y : Int} (h : l[k]? = some y) (h0 : hasB (l.take k) x = false) (hn : (y == x) = false) : hasB (l.take (k + 1)) x = false := by
  rw [take_snoc h]
  simp [hasB] at *
  exact ⟨h0, fun e => hn e.symm⟩
theorem hasB_all {l : List Int} {k : Nat} {x : Int} (hk : ¬ k < l.length) (h0 : hasB (l.take k) x = false) : false = hasB l x := by
  rw [List.take_of_length_le (by omega)] at h0; exact h0.symm

set_option maxHeartbeats 400000 in
theorem refHas_any (A : Option Addr) (n c : Nat) (l : List Int) (x : Int) (w : World) (h : Ints w A l) (hn : n = l.length) (hl : n ≤ 1000000) :
    Calls Tryd.prog 14 #[.slice A n c, .int .i64 x] w fun e w' => e = .returned (.bool (hasB l x)) ∧ w = w' := by
  have HN := Lib.hid hn
  clear hn
  have H := Lib.hid h
  clear h
  go_enter Tryd.func14, Tryd.ntmps14
  go_wp2
  go_loop [5] (fun i => ∃ k : Nat, k ≤ n ∧ i = .int .i64 k ∧ hasB (l.take k) x = false) (fun i => n - (intOf i).toNat)
  case atStart => exact ⟨0, Nat.zero_le _, rfl, by simp [hasB]⟩
  case round =>
    obtain ⟨k, hk, rfl, hc⟩ := hrel
    have HC := Lib.hid hc
    clear hc
    by_cases hlt : k < n
    · obtain ⟨y, hy⟩ := at_lt (show k < l.length by have := HN.out; omega)
      obtain ⟨b, off, rfl, hb, hcell⟩ := H.out k y hy
      have HY := Lib.hid hy
      clear hy
      cases hq : y == x
      · go_wp2
        go_round
        case rel => exact ⟨k + 1, by omega, by go_num, hasB_next HY.out HC.out hq⟩
        case measure => simp [intOf]; omega
      · go_wp2
        go_ret
        have e : y = x := by simpa using hq
        subst e
        exact ⟨ret_bool (hasB_at HY.out).symm, rfl⟩
    · go_wp2
      go_ret
      exact ⟨ret_bool (hasB_all (by have := HN.out; omega) HC.out), rfl⟩

def sameB (a b : List Int) : Bool := decide (a = b)
theorem sameB_at {a b : List Int} {k : Nat} {x y : Int} (hx : a[k]? = some x) (hy : b[k]? = some y) (hn : (x != y) = true) : false = sameB a b := by
  have : a ≠ b := by
    rintro rfl
    rw [hx] at hy
    injection hy with e
    simp [e] at hn
  simp [sameB, this]
theorem same_all {a b : List Int} {k : Nat} (hl : a.length = b.length) (hk : ¬ k < a.length) (h0 : a.take k = b.take k) : true = sameB a b := by
  rw [List.take_of_length_le (by omega), List.take_of_length_le (by omega)] at h0
  simp [sameB, h0]
set_option maxHeartbeats 400000 in
theorem refSame_any (A B : Option Addr) (n m c d : Nat) (l t : List Int) (w : World) (h : Ints w A l) (h' : Ints w B t) (hn : n = l.length) (hm : m = t.length) (hl : n ≤ 1000000) (hl2 : m ≤ 1000000) :
    Calls Tryd.prog 15 #[.slice A n c, .slice B m d] w fun e w' => e = .returned (.bool (sameB l t)) ∧ ∃ q, w' = w.drewN q := by
  have HN := Lib.hid hn
  have HM := Lib.hid hm
  have H := Lib.hid h
  have H' := Lib.hid h'
  clear hn hm h h'
  by_cases hnm : n = m
  · subst hnm
    have hne : ((n : Int) != (n : Int)) = false := by simp
    go_enter Tryd.func15, Tryd.ntmps15
    go_wp2
    go_loopw [5] (fun i w' => ∃ k : Nat, k ≤ n ∧ i = .int .i64 k ∧ l.take k = t.take k ∧ ∃ q, w' = w.drewN q) (fun i _ => n - (intOf i).toNat)
    case atStart => exact ⟨0, Nat.zero_le _, rfl, by simp, 0, rfl⟩
    case round =>
      obtain ⟨k, hk, rfl, hc, q, rfl⟩ := hrel
      have HC := Lib.hid hc
      clear hc
      by_cases hlt : k < n
      · obtain ⟨y, hy⟩ := at_lt (show k < l.length by have := HN.out; omega)
        obtain ⟨b, off, rfl, hb, hcell⟩ := H.out k y hy
        obtain ⟨z, hz⟩ := at_lt (show k < t.length by have := HM.out; omega)
        obtain ⟨b', off', rfl, hb', hcell'⟩ := H'.out k z hz
        have HY := Lib.hid hy
        have HZ := Lib.hid hz
        clear hy hz
        cases hq : y != z
        · go_wp2
          go_quiet (fail)
          go_wp2
          go_roundw
          case rel => exact ⟨k + 1, by omega, by go_num, by
            rw [take_snoc HY.out, take_snoc HZ.out, HC.out]
            simp at hq
            rw [hq], _, by first | rfl | (rw [World.drewN_drewN])⟩
          case measure => simp [intOf]; omega
        · go_wp2
          go_quiet (fail)
          go_wp2
          go_ret
          exact ⟨ret_bool (sameB_at HY.out HZ.out hq), _, by first | rfl | (rw [World.drewN_drewN])⟩
      · go_wp2
        go_ret
        exact ⟨ret_bool (same_all (by have := HN.out; have := HM.out; omega) (by have := HN.out; omega) HC.out), _, rfl⟩
  · have hne : ((n : Int) != (m : Int)) = true := by simp; omega
    go_enter Tryd.func15, Tryd.ntmps15
    go_wp2
    go_ret
    exact ⟨ret_bool (by
      have : l ≠ t := by
        rintro rfl
        exact hnm (HN.out.trans HM.out.symm)
      simp [sameB, this]), 0, rfl⟩


/-- What Put answers: a list with a number more, in order. -/
def putL (l : List Int) (x : Int) : List Int := if okB x && !hasB l x then l.takeWhile (· < x) ++ x :: l.dropWhile (· < x) else l
theorem putL_no {l : List Int} {x : Int} (h : (okB x && !hasB l x) = false) : putL l x = l := by simp [putL, h]
theorem split_at {l : List Int} {x : Int} {k : Nat} (hk : k ≤ l.length) (h1 : ∀ y ∈ l.take k, y < x) (h2 : ∀ y, l[k]? = some y → ¬ y < x) : l.takeWhile (· < x) = l.take k ∧ l.dropWhile (· < x) = l.drop k := by
  induction l generalizing k with
  | nil => simp
  | cons z t ih =>
    cases k with
    | zero =>
      have := h2 z rfl
      simp [List.takeWhile_cons, List.dropWhile_cons, this]
    | succ k =>
      have hz : z < x := h1 z (by simp)
      have := ih (k := k) (by simpa using hk) (fun y hy => h1 y (by simp [hy])) (fun y hy => h2 y (by simpa using hy))
      simp [List.takeWhile_cons, List.dropWhile_cons, hz, this]
theorem putL_yes {l : List Int} {x : Int} {k : Nat} (h : (okB x && !hasB l x) = true) (hk : k ≤ l.length) (h1 : ∀ y ∈ l.take k, y < x) (h2 : ∀ y, l[k]? = some y → ¬ y < x) :
    putL l x = l.take k ++ [x] ++ l.drop k := by
  obtain ⟨e1, e2⟩ := split_at hk h1 h2
  simp [putL, h, e1, e2]
theorem Ints.drop {w : World} {b off : Nat} {l : List Int} (h : Ints w (some ⟨b, off, none⟩) l) (k : Nat) : Ints w (some ⟨b, off + k, none⟩) (l.drop k) := fun j y hy => by
  rw [List.getElem?_drop] at hy
  obtain ⟨b', off', e, hb, hc⟩ := h (k + j) y hy
  injection e with e
  injection e with e1 e2
  subst e1 e2
  exact ⟨b, off + k, rfl, hb, by rw [Nat.add_assoc]; exact hc⟩

end Go.Proofs.YtclofjlonncnlaaDoor
