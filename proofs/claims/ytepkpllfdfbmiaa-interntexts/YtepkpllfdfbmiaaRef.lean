/- The reference's table: its memory, Same, Find, Id. -/
import Derived.Test.YtepkpllfdfbmiaaLPads
import Derived.Deep.AppendLies
set_option linter.unusedSimpArgs false
set_option linter.unusedVariables false
namespace Go.Proofs.Ytepkpllfdfbmiaa
open Go.RowKit Go.Maps

def sameB (a b : List Int) : Bool := decide (a = b)
theorem sameB_at {a b : List Int} {k : Nat} {x y : Int} (hx : a[k]? = some x) (hy : b[k]? = some y) (hn : (x != y) = true) : false = sameB a b := by
  have : a ≠ b := by
    rintro rfl
    rw [hx] at hy
    injection hy with e
    simp [e] at hn
  simp [sameB, this]
theorem same_all {a b : List Int} {k : Nat} (hl : a.length = b.length) (hk : ¬ k < a.length) (h0 : a.take k = b.take k) : true = sameB a b := by
  rw [List.take_of_length_le (by omega), List.take_of_length_le (by omega)] at h0
  simp [sameB, h0]
set_option maxHeartbeats 400000 in
theorem refSame_any (A B : Option Addr) (n m c d : Nat) (l t : List Int) (w : World) (h : Ints w A l) (h' : Ints w B t) (hn : n = l.length) (hm : m = t.length) (hl : n ≤ 1000000) (hl2 : m ≤ 1000000) :
    Calls Try.prog 12 #[.slice A n c, .slice B m d] w fun e w' => e = .returned (.bool (sameB l t)) ∧ ∃ q, w' = w.drewN q := by
  have HN := Lib.hid hn
  have HM := Lib.hid hm
  have H := Lib.hid h
  have H' := Lib.hid h'
  clear hn hm h h'
  by_cases hnm : n = m
  · subst hnm
    have hne : ((n : Int) != (n : Int)) = false := by simp
    go_enter Try.func12, Try.ntmps12
    go_wp2
    go_loopw [5] (fun i w' => ∃ k : Nat, k ≤ n ∧ i = .int .i64 k ∧ l.take k = t.take k ∧ ∃ q, w' = w.drewN q) (fun i _ => n - (intOf i).toNat)
    case atStart => exact ⟨0, Nat.zero_le _, rfl, by simp, 0, rfl⟩
    case round =>
      obtain ⟨k, hk, rfl, hc, q, rfl⟩ := hrel
      have HC := Lib.hid hc
      clear hc
      by_cases hlt : k < n
      · obtain ⟨y, hy⟩ := at_lt (show k < l.length by have := HN.out; omega)
        obtain ⟨b, off, rfl, hb, hcell⟩ := H.out k y hy
        obtain ⟨z, hz⟩ := at_lt (show k < t.length by have := HM.out; omega)
        obtain ⟨b', off', rfl, hb', hcell'⟩ := H'.out k z hz
        have HY := Lib.hid hy
        have HZ := Lib.hid hz
        clear hy hz
        cases hq : y != z
        · go_wp2
          go_quiet (fail)
          go_wp2
          go_roundw
          case rel => exact ⟨k + 1, by omega, by go_num, by
            rw [take_snoc HY.out, take_snoc HZ.out, HC.out]
            simp at hq
            rw [hq], _, by first | rfl | (rw [World.drewN_drewN])⟩
          case measure => simp [intOf]; omega
        · go_wp2
          go_quiet (fail)
          go_wp2
          go_ret
          exact ⟨ret_bool (sameB_at HY.out HZ.out hq), _, by first | rfl | (rw [World.drewN_drewN])⟩
      · go_wp2
        go_ret
        exact ⟨ret_bool (same_all (by have := HN.out; have := HM.out; omega) (by have := HN.out; omega) HC.out), _, rfl⟩
  · have hne : ((n : Int) != (m : Int)) = true := by simp; omega
    go_enter Try.func12, Try.ntmps12
    go_wp2
    go_ret
    exact ⟨ret_bool (by
      have : l ≠ t := by
        rintro rfl
        exact hnm (HN.out.trans HM.out.symm)
      simp [sameB, this]), 0, rfl⟩

/-- Block b is the reference's table: the tuples Ns, each in a slice of its own (xs), the texts S, all within the blocks F. -/
structure RP (w : World) (b : Nat) (F : List Nat) (VL VT : Value) (Ns : List (List Int)) (S : List ByteArray) (xs : List Value) : Prop where
  blk : w.heap[b]? = some (.cells #[VL, VT] 30 (0, 0))
  fb : b ∈ F
  fl : ∀ g ∈ F, g < w.heap.size
  row : w.ownsRow 0 23 1 VL xs.length xs
  len : xs.length = Ns.length
  each : ∀ (k : Nat) (u : Value) (l : List Int), xs[k]? = some u → Ns[k]? = some l → OwnI w 0 u l
  row2 : OwnS w 0 VT S
  fv : ∀ g, VL.ownBlock = some g → g ∈ F
  fv2 : ∀ g, VT.ownBlock = some g → g ∈ F
  fe : ∀ u ∈ xs, ∀ g, u.ownBlock = some g → g ∈ F
def Rt (w : World) (b : Nat) (F : List Nat) (Ns : List (List Int)) (S : List ByteArray) : Prop := ∃ VL VT xs, RP w b F VL VT Ns S xs

section
variable {w w' : World} {b : Nat} {F G : List Nat} {VL VT : Value} {Ns : List (List Int)} {S : List ByteArray} {xs : List Value}
theorem RP.turn (h : RP w b F VL VT Ns S xs) (t : Turn G w w') (hn : ∀ g ∈ F, g ∉ G) : RP w' b F VL VT Ns S xs :=
  ⟨t.heap h.blk (hn b h.fb), h.fb, fun g hg => Nat.lt_of_lt_of_le (h.fl g hg) t.size, Turn.owns t h.row (fun g e => hn g (h.fv g e)), h.len,
    fun k u l hu hl => (h.each k u l hu hl).turn t (fun g e => hn g (h.fe u (List.mem_of_getElem? hu) g e)), Turn.owns t h.row2 (fun g e => hn g (h.fv2 g e)), h.fv, h.fv2, h.fe⟩
theorem Rt.turn (h : Rt w b F Ns S) (t : Turn G w w') (hn : ∀ g ∈ F, g ∉ G) : Rt w' b F Ns S := by
  obtain ⟨VL, VT, xs, h⟩ := h
  exact ⟨VL, VT, xs, h.turn t hn⟩
theorem Rt.turn' (h : Rt w b F Ns S) (t : Turn [] w w') : Rt w' b F Ns S := h.turn t (by simp)
theorem Rt.fl (h : Rt w b F Ns S) : ∀ g ∈ F, g < w.heap.size := by
  obtain ⟨VL, VT, xs, h⟩ := h
  exact h.fl
/-- The slice of slices, read. -/
theorem RP.form (h : RP w b F VL VT Ns S xs) : ∃ A c, VL = .slice A Ns.length c ∧ Ns.length ≤ c ∧ ∀ (k : Nat) (l : List Int), Ns[k]? = some l → ∃ g A' c', A = some ⟨g, 0, none⟩ ∧ g < w.heap.size ∧ w.cell? ⟨g, k, none⟩ = some (.slice A' l.length c') ∧ OwnI w 0 (.slice A' l.length c') l ∧ ∀ a, A' = some a → a.block ∈ F := by
  have hlen := h.len
  rcases h.row.2 with ⟨rfl, hn⟩ | ⟨g, cap, cur, rfl, hb, hg, hnc, _, _, ht⟩
  · have h0 : Ns.length = 0 := by omega
    refine ⟨none, 0, by rw [h0], by omega, fun k l hl => ?_⟩
    rw [List.eq_nil_of_length_eq_zero h0] at hl
    simp at hl
  · refine ⟨some ⟨g, 0, none⟩, cap, by rw [hlen], by omega, fun k l hl => ?_⟩
    have hk : k < xs.length := by have := (List.getElem?_eq_some_iff.1 hl).1; omega
    have hu := List.getElem?_eq_getElem hk
    have ho := h.each k _ l hu hl
    obtain ⟨A', c', e', hi, _⟩ := ho.form
    rw [e'] at hu ho
    have e := World.ownsRow.cellAt (cap := cap) h.row k (by omega)
    exact ⟨g, A', c', rfl, (Array.getElem?_eq_some_iff.1 hg).1, by rw [e, hu], ho, fun a ha => h.fe _ (List.mem_of_getElem? hu) _ (by rw [ha]; rfl)⟩
end

/-- What Find answers. -/
def rfN (Ns : List (List Int)) (ns : List Int) : Int := if ns ∈ Ns then (fnd Ns ns : Int) else -1
theorem rfN_in {Ns : List (List Int)} {ns : List Int} (h : ns ∈ Ns) : rfN Ns ns = (fnd Ns ns : Int) := if_pos h
theorem rfN_out {Ns : List (List Int)} {ns : List Int} (h : ns ∉ Ns) : rfN Ns ns = -1 := if_neg h
theorem fnd_first {α : Type} [DecidableEq α] {Ns : List α} {ns : α} {k : Nat} (h0 : ns ∉ Ns.take k) (h : Ns[k]? = some ns) : fnd Ns ns = k := by
  obtain ⟨hk, e⟩ := List.getElem?_eq_some_iff.1 h
  unfold fnd
  rw [if_pos (List.mem_of_getElem? h)]
  have e1 : Ns = Ns.take k ++ ns :: Ns.drop (k + 1) := by
    rw [← e]
    simp
  refine (congrArg (List.idxOf ns) e1).trans ?_
  rw [List.idxOf_append, if_neg h0]
  simp
  omega
theorem sameB_true {a b : List Int} (h : sameB a b = true) : a = b := by simpa [sameB] using h
theorem sameB_false {a b : List Int} (h : sameB a b = false) : a ≠ b := by simpa [sameB] using h
theorem notin_next {Ns : List (List Int)} {k : Nat} {ns l : List Int} (h : Ns[k]? = some l) (h0 : ns ∉ Ns.take k) (hn : l ≠ ns) : ns ∉ Ns.take (k + 1) := by
  rw [take_snoc h]
  simp
  exact ⟨h0, fun e => hn e.symm⟩

set_option maxHeartbeats 1000000 in
theorem refFind_any (b : Nat) (F : List Nat) (Ns : List (List Int)) (S : List ByteArray) (A : Option Addr) (ns : List Int) (c : Nat) (w : World) (h : Rt w b F Ns S) (hA : Ints w A ns) (hl : Ns.length ≤ 1000000) (hl8 : ∀ l ∈ Ns, l.length ≤ 8) (hn : ns.length ≤ 1000) :
    Calls Try.prog 14 #[.pointer (some ⟨b, 0, none⟩), .slice A ns.length c] w fun e w' => e = .returned (.int .i64 (rfN Ns ns)) ∧ ∃ q, w' = w.drewN q := by
  obtain ⟨VL, VT, xs, hq⟩ := h
  obtain ⟨AL, cL, rfl, hcL, hrows⟩ := hq.form
  have c0 : w.cell? ⟨b, 0, none⟩ = some (.slice AL Ns.length cL) := cell_of_row w b 0 _ 30 (0, 0) hq.blk
  have HR := Lib.hid hrows
  have HA := Lib.hid hA
  have HL := Lib.hid hl8
  clear hq hrows hA hl8
  obtain ⟨N, hN⟩ : ∃ N, Ns.length = N := ⟨_, rfl⟩
  have HN := Lib.hid hN
  rw [hN] at hl hcL c0
  clear hN
  go_enter Try.func14, Try.ntmps14
  go_wp2_with fail
  go_loopw [5] (fun ti wr => ∃ k : Nat, k ≤ N ∧ ti = .int .i64 (k : Int) ∧ Hid (ns ∉ Ns.take k) ∧ ∃ q, wr = w.drewN q) (fun ti _ => N - (intOf ti).toNat)
  case atStart => exact ⟨0, Nat.zero_le _, rfl, Lib.hid (by simp), 0, rfl⟩
  case round =>
    obtain ⟨k, hk, rfl, HC, q, rfl⟩ := hrel
    by_cases hlt : k < N
    · obtain ⟨l, hl'⟩ := at_lt (show k < Ns.length by have := HN.out; omega)
      obtain ⟨g, A', c', rfl, hg, hcell, ho, _⟩ := HR.out k l hl'
      have HY := Lib.hid hl'
      have h8 := HL.out l (List.mem_of_getElem? hl')
      have hI : Ints w A' l := by
        obtain ⟨A2, c2, e, hI, _⟩ := ho.form
        cases e
        exact hI
      have HI := Lib.hid hI
      clear hl' ho hI
      go_wp2_with fail
      refine (refSame_any A' A l.length ns.length c' c l ns _ (HI.out.below ((Turn.refl [] w).drewN q)) (HA.out.below ((Turn.refl [] w).drewN q)) rfl rfl (by omega) (by omega)).mono ?_
      cases hs : sameB l ns
      · have HS := Lib.hid (sameB_false hs)
        clear hs
        rintro e w2 ⟨rfl, q2, rfl⟩
        go_wp2_with fail
        go_roundw
        case rel => exact ⟨k + 1, by omega, by go_num, Lib.hid (notin_next HY.out HC.out HS.out), q + q2, by first | rfl | (rw [World.drewN_drewN])⟩
        case measure => simp [intOf]; omega
      · have HS := Lib.hid (sameB_true hs)
        clear hs
        rintro e w2 ⟨rfl, q2, rfl⟩
        go_wp2_with fail
        go_ret
        refine ⟨ret_int ?_, q + q2, by first | rfl | (rw [World.drewN_drewN])⟩
        have hy := HY.out
        rw [HS.out] at hy
        rw [rfN_in (List.mem_of_getElem? hy), fnd_first HC.out hy]
    · go_wp2_with fail
      go_ret
      refine ⟨ret_int ?_, q, rfl⟩
      have := HC.out
      rw [List.take_of_length_le (by have := HN.out; omega)] at this
      rw [rfN_out this]
end Go.Proofs.Ytepkpllfdfbmiaa
