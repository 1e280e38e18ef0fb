/- The reference's Word and Texts. -/
import Derived.Test.YtepkpllfdfbmiaaRId
import Derived.Test.YtepkpllfdfbmiaaWd
set_option linter.unusedSimpArgs false
set_option linter.unusedVariables false
namespace Go.Proofs.Ytepkpllfdfbmiaa
open Go.RowKit Go.Maps

theorem bytes_eq {a b : ByteArray} (h : a.toList = b.toList) : a = b := by
  rw [ByteArray.toList_eq, ByteArray.toList_eq] at h
  exact ByteArray.ext (by simpa using h)
theorem bytes_t {a b : ByteArray} (h : a = b) : (a.toList == b.toList) = true := by simp [h]
theorem bytes_f {a b : ByteArray} (h : a ≠ b) : (a.toList == b.toList) = false := by
  simpa using fun e => h (bytes_eq e)

/-- A text laid behind the others, and the table's own cell stored anew. -/
theorem RP.doneT {w w1 : World} {b : Nat} {F : List Nat} {VL VT v : Value} {Ns : List (List Int)} {S : List ByteArray} {xs : List Value} {s : ByteArray} (h : RP w b F VL VT Ns S xs)
    (hv : OwnS w1 0 v (S ++ [s])) (t1 : Turn VT.ownBlock.toList w w1) (hvb : v.ownBlock = VT.ownBlock ∨ ∃ g, v.ownBlock = some g ∧ w.heap.size ≤ g) :
    ∃ F', Rt (w1.setCell ⟨b, 1, none⟩ v) b F' Ns (S ++ [s]) ∧ Foot w.heap.size F F' ∧ Turn F w (w1.setCell ⟨b, 1, none⟩ v) := by
  have hbl : b < w.heap.size := h.fl b h.fb
  have kT : ∀ g, VT.ownBlock = some g → ∃ cs, w.heap[g]? = some (.cells cs 9 (0, 0)) := fun g e => ownsRow_blk h.row2 e
  have nTb : ∀ g, VT.ownBlock = some g → g ≠ b := fun g e e2 => by
    obtain ⟨cs, hc⟩ := kT g e
    rw [e2, h.blk] at hc
    cases hc
  have nVT : ∀ g, VL.ownBlock = some g → g ≠ b ∧ VT.ownBlock ≠ some g := fun g e => by
    obtain ⟨cs, hc⟩ := ownsRow_blk h.row e
    refine ⟨fun e2 => ?_, fun e2 => ?_⟩
    · rw [e2, h.blk] at hc
      cases hc
    · obtain ⟨cs2, hc2⟩ := kT g e2
      rw [hc] at hc2
      cases hc2
  have nET : ∀ x ∈ xs, ∀ g, x.ownBlock = some g → g ≠ b ∧ VT.ownBlock ≠ some g := fun x hx g e => by
    obtain ⟨k, hk⟩ := List.getElem?_of_mem hx
    have hkl : k < Ns.length := by have := (List.getElem?_eq_some_iff.1 hk).1; have := h.len; omega
    obtain ⟨cs, hc⟩ := ownsRow_blk (h.each k x _ hk (List.getElem?_eq_getElem hkl)) e
    refine ⟨fun e2 => ?_, fun e2 => ?_⟩
    · rw [e2, h.blk] at hc
      cases hc
    · obtain ⟨cs2, hc2⟩ := kT g e2
      rw [hc] at hc2
      cases hc2
  have nvb : ∀ g, v.ownBlock = some g → g ≠ b := fun g e => by
    rcases hvb with e2 | ⟨g', e2, h1⟩
    · exact nTb g (by rw [← e2]; exact e)
    · rw [e] at e2
      cases e2
      omega
  have tS : Turn [b] w1 (w1.setCell ⟨b, 1, none⟩ v) := (Turn.refl [b] w1).setCell (.inl (by simp)) _
  have tF : Turn F w w1 := t1.more (fun g hg => .inl (h.fv2 g (by simpa using hg)))
  have hb1 : w1.heap[b]? = some (.cells #[VL, VT] 30 (0, 0)) := t1.heap h.blk (fun hg => nTb b (by simpa using hg) rfl)
  refine ⟨v.ownBlock.toList ++ F, ⟨VL, v, xs, heap2_1 hb1, List.mem_append_right _ h.fb, ?_, ?_, h.len, ?_, ?_, ?_, ?_, ?_⟩, ?_, tF.trans tS (by simpa using .inl h.fb)⟩
  · intro g hg
    rcases List.mem_append.1 hg with hg | hg
    · exact Nat.lt_of_lt_of_le (World.ownsRow.lt hv g (by simpa using hg)).2 tS.size
    · exact Nat.lt_of_lt_of_le (h.fl g hg) (Nat.le_trans tF.size tS.size)
  · exact Turn.owns tS (Turn.owns t1 h.row (fun g e hg => (nVT g e).2 (by simpa using hg))) (fun g e => by simpa using (nVT g e).1)
  · intro k x l hx hl
    have hm := List.mem_of_getElem? hx
    exact ((h.each k x l hx hl).turn t1 (fun g e hg => (nET x hm g e).2 (by simpa using hg))).turn tS (fun g e => by simpa using (nET x hm g e).1)
  · exact Turn.owns tS hv (fun g e => by simpa using nvb g e)
  · exact fun g e => List.mem_append_right _ (h.fv g e)
  · exact fun g e => List.mem_append_left _ (by simp [e])
  · exact fun x hx g e => List.mem_append_right _ (h.fe x hx g e)
  · intro g hg
    rcases List.mem_append.1 hg with hg | hg
    · rcases hvb with e | ⟨g', e, h1⟩
      · rw [e] at hg
        exact .inl (h.fv2 g (by simpa using hg))
      · rw [e] at hg
        simp at hg
        exact .inr (by omega)
    · exact .inl hg

theorem RP.nTb {w : World} {b : Nat} {F : List Nat} {VL VT : Value} {Ns : List (List Int)} {S : List ByteArray} {xs : List Value} (h : RP w b F VL VT Ns S xs) : VT.ownBlock ≠ some b := fun e => by
  obtain ⟨cs, hc⟩ := ownsRow_blk h.row2 e
  rw [h.blk] at hc
  cases hc
theorem notin_nextS {S : List ByteArray} {k : Nat} {s x : ByteArray} (h : S[k]? = some x) (h0 : s ∉ S.take k) (hn : x ≠ s) : s ∉ S.take (k + 1) := by
  rw [take_snoc h]
  simp
  exact ⟨h0, fun e => hn e.symm⟩

set_option maxHeartbeats 1600000 in
theorem refWord_any (b : Nat) (F : List Nat) (Ns : List (List Int)) (S : List ByteArray) (s : ByteArray) (w : World) (h : Rt w b F Ns S) (hl : S.length ≤ 1000000) :
    Calls Try.prog 16 #[.pointer (some ⟨b, 0, none⟩), .string s] w fun e w' => e = .returned (.int .i64 (wdN S s : Int)) ∧ ∃ F', Rt w' b F' Ns (wdL S s) ∧ Foot w.heap.size F F' ∧ Turn F w w' := by
  obtain ⟨VL, VT, xs, hq⟩ := h
  obtain ⟨AT, cT, rfl, hcT, -, -, hrow⟩ := OwnS.form hq.row2
  have c1 : w.cell? ⟨b, 1, none⟩ = some (.slice AT S.length cT) := cell_of_row w b 1 _ 30 (0, 0) hq.blk
  have f1 : w.frozen? ⟨b, 1, none⟩ = false := frozen_of_row w b 1 _ 30 hq.blk
  have hbw : b < w.heap.size := hq.fl b hq.fb
  have HQ := Lib.hid hq
  have HR := Lib.hid hrow
  clear hq hrow
  obtain ⟨N, hN⟩ : ∃ N, S.length = N := ⟨_, rfl⟩
  have HN := Lib.hid hN
  rw [hN] at hl hcT c1
  clear hN
  go_enter Try.func16, Try.ntmps16
  go_wp2_with fail
  go_loopw [5] (fun ti wr => ∃ k : Nat, k ≤ N ∧ ti = .int .i64 (k : Int) ∧ Hid (s ∉ S.take k) ∧ w = wr) (fun ti _ => N - (intOf ti).toNat)
  case atStart => exact ⟨0, Nat.zero_le _, rfl, Lib.hid (by simp), rfl⟩
  case round =>
    obtain ⟨k, hk, rfl, HC, rfl⟩ := hrel
    by_cases hlt : k < N
    · obtain ⟨x, hx⟩ := at_lt (show k < S.length by have := HN.out; omega)
      obtain ⟨g, rfl, hg, hcell⟩ := HR.out k x hx
      have HY := Lib.hid hx
      clear hx
      by_cases hs : x = s
      · have e1 := bytes_t hs
        have HS := Lib.hid hs
        clear hs
        go_wp2_with fail
        go_ret
        have hy := HY.out
        rw [HS.out] at hy
        have hw := wd_in (List.mem_of_getElem? hy)
        refine ⟨ret_int ?_, F, ?_, Foot.refl _ _, Turn.refl _ _⟩
        · rw [hw.1, fnd_first HC.out hy]
        · rw [hw.2]
          exact ⟨_, _, _, HQ.out⟩
      · have e1 := bytes_f hs
        have HS := Lib.hid hs
        clear hs
        go_wp2_with fail
        go_roundw
        case rel => exact ⟨k + 1, by omega, by go_num, Lib.hid (notin_nextS HY.out HC.out HS.out), by first | rfl | trivial⟩
        case measure => simp [intOf]; omega
    · have hin : s ∉ S := by
        have := HC.out
        rwa [List.take_of_length_le (by have := HN.out; omega)] at this
      have HI := Lib.hid (wd_out hin)
      have HO : Hid (OwnS w 0 (.slice AT N cT) S) := Lib.hid (by rw [← HN.out]; exact HQ.out.row2)
      have hlS : S.length ≤ 1000000 := by have := HN.out; omega
      clear hin
      go_wp2_with (
         at_builtin
         refine wpList_appS rfl (.tmp 29) (.tmp 31) rfl w (.slice AT N cT) S s _ rfl HO.out rfl hlS ?_
         intro v5 w5 ho5 ht5 hm5
         obtain ⟨A5, c5, hv5, _⟩ := OwnS.form ho5
         subst hv5
         have hb5 := ht5.heap HQ.out.blk (fun hg => HQ.out.nTb (by rw [HN.out]; simpa using hg))
         have m3 : w5.cell? ⟨b, 1, none⟩ = some (.slice AT S.length cT) := cell_of_row w5 b 1 _ 30 (0, 0) hb5
         have g3 : w5.frozen? ⟨b, 1, none⟩ = false := frozen_of_row w5 b 1 _ 30 hb5
         have hlt5 : b < w5.heap.size := (Array.getElem?_eq_some_iff.1 hb5).1
         have HO5 := Lib.hid ho5
         have HT5 := Lib.hid ht5
         have HM5 := Lib.hid hm5
         clear ho5 ht5 hm5 hb5)
      go_ret
      rw [HI.out.1, HI.out.2]
      have hd := RP.doneT HQ.out HO5.out (by rw [HN.out]; exact HT5.out) (by rw [HN.out]; exact HM5.out)
      refine ⟨ret_int (by first | rfl | (simp; done) | (simp; omega)), ?_⟩
      simpa using hd

def sameS (a b : List ByteArray) : Bool := decide (a = b)
theorem sameS_at {a b : List ByteArray} {k : Nat} {x y : ByteArray} (hx : a[k]? = some x) (hy : b[k]? = some y) (hn : x ≠ y) : false = sameS a b := by
  have : a ≠ b := by
    rintro rfl
    rw [hx] at hy
    injection hy with e
    exact hn e
  simp [sameS, this]
theorem sameS_all {a b : List ByteArray} {k : Nat} (hl : a.length = b.length) (hk : ¬ k < a.length) (h0 : a.take k = b.take k) : true = sameS a b := by
  rw [List.take_of_length_le (by omega), List.take_of_length_le (by omega)] at h0
  simp [sameS, h0]
theorem sameS_self (l : List ByteArray) : sameS l l = true := by simp [sameS]
/-- A slice of texts of the program's own, read. -/
theorem OwnS.sts {w : World} {B : Nat} {A : Option Addr} {n c : Nat} {S : List ByteArray} (h : OwnS w B (.slice A n c) S) : ∀ (i : Nat) (s : ByteArray), S[i]? = some s → ∃ g, A = some ⟨g, 0, none⟩ ∧ g < w.heap.size ∧ w.cell? ⟨g, i, none⟩ = some (.string s) := by
  obtain ⟨A', c', e, _, _, _, hr⟩ := OwnS.form h
  cases e
  exact hr
set_option maxHeartbeats 400000 in
theorem refTexts_any (A B : Option Addr) (n m c d : Nat) (l t : List ByteArray) (w : World) (h : OwnS w 0 (.slice A n c) l) (h' : OwnS w 0 (.slice B m d) t) (hn : n = l.length) (hm : m = t.length) (hl : n ≤ 1000000) (hl2 : m ≤ 1000000) :
    Calls Try.prog 18 #[.slice A n c, .slice B m d] w fun e w' => e = .returned (.bool (sameS l t)) ∧ ∃ q, w' = w.drewN q := by
  have HN := Lib.hid hn
  have HM := Lib.hid hm
  have H := Lib.hid h.sts
  have H' := Lib.hid h'.sts
  clear hn hm h h'
  by_cases hnm : n = m
  · subst hnm
    have hne : ((n : Int) != (n : Int)) = false := by simp
    go_enter Try.func18, Try.ntmps18
    go_wp2
    go_loopw [5] (fun i w' => ∃ k : Nat, k ≤ n ∧ i = .int .i64 k ∧ l.take k = t.take k ∧ ∃ q, w' = w.drewN q) (fun i _ => n - (intOf i).toNat)
    case atStart => exact ⟨0, Nat.zero_le _, rfl, by simp, 0, rfl⟩
    case round =>
      obtain ⟨k, hk, rfl, hc, q, rfl⟩ := hrel
      have HC := Lib.hid hc
      clear hc
      by_cases hlt : k < n
      · obtain ⟨y, hy⟩ := at_lt (show k < l.length by have := HN.out; omega)
        obtain ⟨b, rfl, hb, hcell⟩ := H.out k y hy
        obtain ⟨z, hz⟩ := at_lt (show k < t.length by have := HM.out; omega)
        obtain ⟨b', rfl, hb', hcell'⟩ := H'.out k z hz
        have HY := Lib.hid hy
        have HZ := Lib.hid hz
        clear hy hz
        by_cases hq : y = z
        · have e1 := bytes_t hq
          have HE := Lib.hid hq
          clear hq
          go_wp2
          go_quiet (fail)
          go_wp2
          go_roundw
          case rel => exact ⟨k + 1, by omega, by go_num, by
            rw [take_snoc HY.out, take_snoc HZ.out, HC.out, HE.out], _, by first | rfl | (rw [World.drewN_drewN])⟩
          case measure => simp [intOf]; omega
        · have e1 := bytes_f hq
          have HE := Lib.hid hq
          clear hq
          go_wp2
          go_quiet (fail)
          go_wp2
          go_ret
          exact ⟨ret_bool (sameS_at HY.out HZ.out HE.out), _, by first | rfl | (rw [World.drewN_drewN])⟩
      · go_wp2
        go_ret
        exact ⟨ret_bool (sameS_all (by have := HN.out; have := HM.out; omega) (by have := HN.out; omega) HC.out), _, rfl⟩
  · have hne : ((n : Int) != (m : Int)) = true := by simp; omega
    go_enter Try.func18, Try.ntmps18
    go_wp2
    go_ret
    exact ⟨ret_bool (by
      have : l ≠ t := by
        rintro rfl
        exact hnm (HN.out.trans HM.out.symm)
      simp [sameS, this]), 0, rfl⟩
end Go.Proofs.Ytepkpllfdfbmiaa
