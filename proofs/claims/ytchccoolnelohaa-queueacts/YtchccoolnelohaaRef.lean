/- The reference: Has, Same, Put; slices of slices that are read. -/
import Derived.Test.YtchccoolnelohaaTh
set_option linter.unusedSimpArgs false
set_option linter.unusedVariables false
namespace Go.Proofs.Ytchccoolnelohaa
open Go.RowKit

/-- The slice at A reads as the list of lists of ints. -/
def Rws (w : World) (A : Option Addr) (ls : List (List Int)) : Prop :=
  ∀ k l, ls[k]? = some l → ∃ b off A' c, A = some ⟨b, off, none⟩ ∧ b < w.heap.size ∧ w.cell? ⟨b, off + k, none⟩ = some (.slice A' l.length c) ∧ Ints w A' l
theorem Rws.turn' {w w' : World} {A : Option Addr} {ls : List (List Int)} (h : Rws w A ls) (t : Turn [] w w') : Rws w' A ls := fun k l hl => by
  obtain ⟨b, off, A', c, e, hlt, hc, hi⟩ := h k l hl
  exact ⟨b, off, A', c, e, Nat.lt_of_lt_of_le hlt t.size, (t.cell (p := ⟨b, off + k, none⟩) hlt (by simp)).trans hc, hi.below t⟩

def hasB (l : List Int) (x : Int) : Bool := inL l x
theorem hasB_at {l : List Int} {k : Nat} {y : Int} (h : l[k]? = some y) : hasB l y = true := by
  simp [hasB, inL, List.mem_of_getElem? h]
theorem hasB_next {l : List Int} {k : Nat} {x y : Int} (h : l[k]? = some y) (h0 : hasB (l.take k) x = false) (hn : (y == x) = false) : hasB (l.take (k + 1)) x = false := by
  rw [take_snoc h]
  simp [hasB, inL] at *
  exact ⟨h0, fun e => hn e.symm⟩
theorem hasB_all {l : List Int} {k : Nat} {x : Int} (hk : ¬ k < l.length) (h0 : hasB (l.take k) x = false) : false = hasB l x := by
  rw [List.take_of_length_le (by omega)] at h0; exact h0.symm

set_option maxHeartbeats 400000 in
theorem refHas_any (A : Option Addr) (n c : Nat) (l : List Int) (x : Int) (w : World) (h : Ints w A l) (hn : n = l.length) (hl : n ≤ 1000000) :
    Calls Try.prog 16 #[.slice A n c, .int .i64 x] w fun e w' => e = .returned (.bool (hasB l x)) ∧ w = w' := by
  have HN := Lib.hid hn
  clear hn
  have H := Lib.hid h
  clear h
  go_enter Try.func16, Try.ntmps16
  go_wp2
  go_loop [5] (fun i => ∃ k : Nat, k ≤ n ∧ i = .int .i64 k ∧ hasB (l.take k) x = false) (fun i => n - (intOf i).toNat)
  case atStart => exact ⟨0, Nat.zero_le _, rfl, by simp [hasB, inL]⟩
  case round =>
    obtain ⟨k, hk, rfl, hc⟩ := hrel
    have HC := Lib.hid hc
    clear hc
    by_cases hlt : k < n
    · obtain ⟨y, hy⟩ := at_lt (show k < l.length by have := HN.out; omega)
      obtain ⟨b, off, rfl, hb, hcell⟩ := H.out k y hy
      have HY := Lib.hid hy
      clear hy
      cases hq : y == x
      · go_wp2
        go_round
        case rel => exact ⟨k + 1, by omega, by go_num, hasB_next HY.out HC.out hq⟩
        case measure => simp [intOf]; omega
      · go_wp2
        go_ret
        have e : y = x := by simpa using hq
        subst e
        exact ⟨ret_bool (hasB_at HY.out).symm, rfl⟩
    · go_wp2
      go_ret
      exact ⟨ret_bool (hasB_all (by have := HN.out; omega) HC.out), rfl⟩

def sameB (a b : List Int) : Bool := decide (a = b)
theorem sameB_at {a b : List Int} {k : Nat} {x y : Int} (hx : a[k]? = some x) (hy : b[k]? = some y) (hn : (x != y) = true) : false = sameB a b := by
  have : a ≠ b := by
    rintro rfl
    rw [hx] at hy
    injection hy with e
    simp [e] at hn
  simp [sameB, this]
theorem same_all {a b : List Int} {k : Nat} (hl : a.length = b.length) (hk : ¬ k < a.length) (h0 : a.take k = b.take k) : true = sameB a b := by
  rw [List.take_of_length_le (by omega), List.take_of_length_le (by omega)] at h0
  simp [sameB, h0]
set_option maxHeartbeats 400000 in
theorem refSame_any (A B : Option Addr) (n m c d : Nat) (l t : List Int) (w : World) (h : Ints w A l) (h' : Ints w B t) (hn : n = l.length) (hm : m = t.length) (hl : n ≤ 1000000) (hl2 : m ≤ 1000000) :
    Calls Try.prog 13 #[.slice A n c, .slice B m d] w fun e w' => e = .returned (.bool (sameB l t)) ∧ ∃ q, w' = w.drewN q := by
  have HN := Lib.hid hn
  have HM := Lib.hid hm
  have H := Lib.hid h
  have H' := Lib.hid h'
  clear hn hm h h'
  by_cases hnm : n = m
  · subst hnm
    have hne : ((n : Int) != (n : Int)) = false := by simp
    go_enter Try.func13, Try.ntmps13
    go_wp2
    go_loopw [5] (fun i w' => ∃ k : Nat, k ≤ n ∧ i = .int .i64 k ∧ l.take k = t.take k ∧ ∃ q, w' = w.drewN q) (fun i _ => n - (intOf i).toNat)
    case atStart => exact ⟨0, Nat.zero_le _, rfl, by simp, 0, rfl⟩
    case round =>
      obtain ⟨k, hk, rfl, hc, q, rfl⟩ := hrel
      have HC := Lib.hid hc
      clear hc
      by_cases hlt : k < n
      · obtain ⟨y, hy⟩ := at_lt (show k < l.length by have := HN.out; omega)
        obtain ⟨b, off, rfl, hb, hcell⟩ := H.out k y hy
        obtain ⟨z, hz⟩ := at_lt (show k < t.length by have := HM.out; omega)
        obtain ⟨b', off', rfl, hb', hcell'⟩ := H'.out k z hz
        have HY := Lib.hid hy
        have HZ := Lib.hid hz
        clear hy hz
        cases hq : y != z
        · go_wp2
          go_quiet (fail)
          go_wp2
          go_roundw
          case rel => exact ⟨k + 1, by omega, by go_num, by
            rw [take_snoc HY.out, take_snoc HZ.out, HC.out]
            simp at hq
            rw [hq], _, by first | rfl | (rw [World.drewN_drewN])⟩
          case measure => simp [intOf]; omega
        · go_wp2
          go_quiet (fail)
          go_wp2
          go_ret
          exact ⟨ret_bool (sameB_at HY.out HZ.out hq), _, by first | rfl | (rw [World.drewN_drewN])⟩
      · go_wp2
        go_ret
        exact ⟨ret_bool (same_all (by have := HN.out; have := HM.out; omega) (by have := HN.out; omega) HC.out), _, rfl⟩
  · have hne : ((n : Int) != (m : Int)) = true := by simp; omega
    go_enter Try.func13, Try.ntmps13
    go_wp2
    go_ret
    exact ⟨ret_bool (by
      have : l ≠ t := by
        rintro rfl
        exact hnm (HN.out.trans HM.out.symm)
      simp [sameB, this]), 0, rfl⟩




theorem OwnI.slice {w : World} {B : Nat} {v : Value} {l : List Int} (h : OwnI w B v l) : ∃ A c, v = .slice A l.length c ∧ Ints w A l ∧ l.length ≤ c ∧ ∀ a, A = some a → B ≤ a.block ∧ a.block < w.heap.size := by
  obtain ⟨A, c, e, hI, hc⟩ := h.form
  refine ⟨A, c, e, hI, hc, ?_⟩
  rintro a rfl
  exact OwnI.lt h a.block (by rw [e]; rfl)

set_option maxRecDepth 100000 in
set_option maxHeartbeats 2000000 in
theorem refPut_any (A B : Option Addr) (c d : Nat) (l ns : List Int) (w : World) (hA : Ints w A l) (hB : Ints w B ns) (hl : l.length + ns.length ≤ 100000) :
    Calls Try.prog 10 #[.slice A l.length c, .slice B ns.length d] w fun e w' => ∃ v, e = .returned (.tuple #[v, .int .i64 (cnt l ns : Int)]) ∧ OwnI w' w.heap.size v (putL l ns) ∧ Turn [] w w' := by
  have HA := Lib.hid hA
  have HB := Lib.hid hB
  clear hA hB
  obtain ⟨N, hN⟩ : ∃ N, ns.length = N := ⟨_, rfl⟩
  have HN := Lib.hid hN
  rw [hN] at hl ⊢
  clear hN
  go_enter Try.func10, Try.ntmps10
  go_upto_region 3 with (at_builtin; refine wpList_appAll rfl (.tmp 8) (.tmp 9) rfl w w.heap.size (.slice none 0 0) [] l A l.length c rfl (OwnI.nil _ _) rfl HA.out rfl (by simp) (by omega) (Nat.le_refl _) ?_; intro v1 w1 ho1 ht1 hb1)
  rw [List.nil_append] at ho1
  have HO1 := Lib.hid ho1
  have HT1 : Hid (Turn [] w w1) := Lib.hid (ht1.more (by simp [Value.ownBlock]))
  clear ho1 ht1 hb1
  go_wp2_with fail
  go_loopw [6, 7] (fun tv ti wr => ∃ k : Nat, k ≤ N ∧ ti = .int .i64 (k : Int) ∧ Hid (OwnI wr w.heap.size tv (putL l (ns.take k))) ∧ Hid (Turn [] w wr)) (fun _ ti _ => N - (intOf ti).toNat)
  case atStart => exact ⟨0, Nat.zero_le _, rfl, Lib.hid (by simpa [putL] using HO1.out), HT1⟩
  case round =>
    obtain ⟨k, hk, rfl, HO, HT⟩ := hrel
    obtain ⟨A1, c1, rfl, hI1, hc1, ha1⟩ := HO.out.slice
    have HI1 := Lib.hid hI1
    have HA1 := Lib.hid ha1
    clear hI1 ha1
    by_cases hlt : k < N
    · obtain ⟨y, hy⟩ := at_lt (show k < ns.length by have := HN.out; omega)
      obtain ⟨g, off, rfl, hg, hcell⟩ := (HB.out.below HT.out) k y hy
      have HY := Lib.hid hy
      clear hy
      obtain ⟨S, hS⟩ : ∃ S, putL l (ns.take k) = S := ⟨_, rfl⟩
      have HSl : Hid (S.length ≤ 100000) := Lib.hid (by
        have := putL_le (ns.take k) l
        rw [hS, List.length_take] at this
        omega)
      have hSl := HSl.out
      have HS := Lib.hid hS
      rw [hS] at HO HI1 hc1 ⊢
      clear hS
      by_cases h0 : 0 ≤ y
      · have d0 : decide (0 ≤ y) = true := by simpa using h0
        by_cases h1 : y ≤ 1048575
        · have d1 : decide (y ≤ 1048575) = true := by simpa using h1
          go_wp2_with fail
          refine (refHas_any A1 S.length c1 S y _ HI1.out rfl (by omega)).mono ?_
          cases hin : hasB S y
          · have HK : Hid (okQ S y = true) := Lib.hid (okQ_of h0 (by omega) (inL_not.1 hin))
            rintro e w2 ⟨rfl, rfl⟩
            clear hin
            go_wp2_with (at_builtin; refine wpList_app1 rfl (.tmp 38) (.tmp 43) rfl wr w.heap.size (.slice A1 S.length c1) S y _ rfl HO.out rfl (by omega) HT.out.size ?_; intro v3 w3 ho3 ht3 hb3; have HO3 := Lib.hid ho3; have HT3 := Lib.hid (HT.out.trans ht3 (fun g hg => .inr (by cases A1 with | none => simp [Value.ownBlock] at hg | some a => simp [Value.ownBlock] at hg; rw [hg]; exact (HA1.out a rfl).1))); clear ho3 ht3 hb3)
            go_roundw
            case rel => exact ⟨k + 1, by omega, by go_num, Lib.hid (by rw [putL_take HY.out, HS.out, put1_yes HK.out]; exact HO3.out), HT3⟩
            case measure => simp [intOf]; omega
          · have HK : Hid (okQ S y = false) := Lib.hid (okQ_in (inL_mem.1 hin))
            rintro e w2 ⟨rfl, rfl⟩
            clear hin
            go_wp2_with fail
            go_roundw
            case rel => exact ⟨k + 1, by omega, by go_num, Lib.hid (by rw [putL_take HY.out, HS.out, put1_no HK.out]; exact HO.out), HT⟩
            case measure => simp [intOf]; omega
        · have d1 : decide (y ≤ 1048575) = false := by simpa using h1
          have HK : Hid (okQ S y = false) := Lib.hid (by unfold okQ; rw [show decide (y < 1048576) = false by simp; omega]; simp)
          go_wp2_with fail
          go_roundw
          case rel => exact ⟨k + 1, by omega, by go_num, Lib.hid (by rw [putL_take HY.out, HS.out, put1_no HK.out]; exact HO.out), HT⟩
          case measure => simp [intOf]; omega
      · have d0 : decide (0 ≤ y) = false := by simpa using h0
        have HK : Hid (okQ S y = false) := Lib.hid (by unfold okQ; rw [d0]; simp)
        go_wp2_with fail
        go_roundw
        case rel => exact ⟨k + 1, by omega, by go_num, Lib.hid (by rw [putL_take HY.out, HS.out, put1_no HK.out]; exact HO.out), HT⟩
        case measure => simp [intOf]; omega
    · have HE : Hid (putL l (ns.take k) = putL l ns) := Lib.hid (by rw [List.take_of_length_le (by have := HN.out; omega)])
      rw [HE.out] at HO hc1 ⊢
      have HSl := putL_le ns l
      obtain ⟨M, hM⟩ : ∃ M, (putL l ns).length = M := ⟨_, rfl⟩
      rw [hM] at HSl hc1 ⊢
      obtain ⟨Q, hQ⟩ : ∃ Q : Nat, M - l.length = Q := ⟨_, rfl⟩
      have hQ1 : (M : Int) - (l.length : Int) = (Q : Int) := by omega
      have hMb : M ≤ 200000 := by have := HN.out; omega
      have HQ : Hid (cnt l ns = Q) := Lib.hid (by unfold cnt; rw [hM, hQ])
      have HM := Lib.hid hM
      clear hM hQ HE
      go_wp2_with fail
      go_ret2
      rw [HQ.out]
      exact ⟨.slice A1 M c1, rfl, by have := HO.out; rw [HM.out] at this; exact this, HT.out⟩
end Go.Proofs.Ytchccoolnelohaa
