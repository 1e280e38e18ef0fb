/- Rows compared; slices.Equal and Same. -/
import Derived.Test.YtclofjlonncnlaaDoorList
set_option linter.unusedSimpArgs false
set_option linter.unusedVariables false
namespace Go.Proofs.YtclofjlonncnlaaDoor
open Go.RowKit

theorem eq44 (d : Nat) (w0 w1 w2 w3 v0 v1 v2 v3 : Nat) (w : World) :
    (Op.equalIn (d + 1 + 1) 44 (.agg #[.int .u64 w0, .int .u64 w1, .int .u64 w2, .int .u64 w3]) (.agg #[.int .u64 v0, .int .u64 v1, .int .u64 v2, .int .u64 v3])).run Tryd.prog w =
      .ok (w0 == v0 && w1 == v1 && w2 == v2 && w3 == v3) w := by
  have u := Tryd.underlying44
  have u43 := Tryd.underlying43
  have a43 := Tryd.isAgg43
  have z43 := Tryd.sizeOf43
  rw [Op.equalIn]
  simp only [Sem.run_bind, run_underlying u, Result.andThen_ok, z43]
  simp [Std.Legacy.Range.forIn_eq_forIn_range', Std.Legacy.Range.size, List.range'_succ, List.range'_zero]
  go_simp
  simp only [Int.natCast_inj]
  by_cases h0 : w0 = v0 <;> by_cases h1 : w1 = v1 <;> by_cases h2 : w2 = v2 <;> by_cases h3 : w3 = v3 <;> simp [h0, h1, h2, h3]
def Row.same (r s : Row) : Bool := r.at_ == s.at_ && (r.w0 == s.w0 && r.w1 == s.w1 && r.w2 == s.w2 && r.w3 == s.w3)
theorem part44 (a w0 w1 w2 w3 : Nat) (w : World) : (part 44 #[.int .i64 a, .int .u64 w0, .int .u64 w1, .int .u64 w2, .int .u64 w3] 1).run Tryd.prog w = .ok (.agg #[.int .u64 w0, .int .u64 w1, .int .u64 w2, .int .u64 w3]) w := by kernel_rfl
theorem part3 (a w0 w1 w2 w3 : Nat) (w : World) : (part 3 #[.int .i64 a, .int .u64 w0, .int .u64 w1, .int .u64 w2, .int .u64 w3] 0).run Tryd.prog w = .ok (.int .i64 a) w := by kernel_rfl
theorem neq46 (a w0 w1 w2 w3 b v0 v1 v2 v3 : Nat) (w : World) :
    (binOp .neq 46 (.agg #[.int .i64 a, .int .u64 w0, .int .u64 w1, .int .u64 w2, .int .u64 w3]) (.agg #[.int .i64 b, .int .u64 v0, .int .u64 v1, .int .u64 v2, .int .u64 v3])).run Tryd.prog w =
      .ok (.bool (!(a == b && (w0 == v0 && w1 == v1 && w2 == v2 && w3 == v3)))) w := by
  have u3 := Tryd.underlying3
  have hS : Tryd.prog.underlying 46 = some (.struct (Tryd.prog.fieldsOf 46)) := by kernel_rfl
  have hp : Tryd.prog.stoodInHeld 46 = false := by kernel_rfl
  rw [run_neq_struct, show (10000 : Nat) = 9999 + 1 from rfl, run_equalIn_agg w 9999 46 _ _ hS hp]
  simp only [Program.fieldsOf, Tryd.underlying46]
  have n1 : ("at" ≠ "_") = True := by simp
  have n2 : ("bits" ≠ "_") = True := by simp
  simp only [Op.eqFields, n1, n2, if_true, Sem.run_bind, part3, part44, Result.andThen_ok]
  rw [show (9999 : Nat) = 9997 + 1 + 1 from rfl]
  simp only [run_equalIn_int _ _ _ _ _ _ _ u3, eq44, Result.andThen_ok, Sem.run_ite, Sem.run_bind, part44, Sem.run_pure]
  have c : ((a : Int) == (b : Int)) = (a == b) := by
    rw [Bool.eq_iff_iff, beq_iff_eq, beq_iff_eq]
    omega
  rw [c]
  cases (a == b) <;> cases (w0 == v0 && w1 == v1 && w2 == v2 && w3 == v3) <;> rfl

def rowNe (a w0 w1 w2 w3 b v0 v1 v2 v3 : Nat) : Bool := !(a == b && (w0 == v0 && w1 == v1 && w2 == v2 && w3 == v3))
theorem neq46' (a w0 w1 w2 w3 b v0 v1 v2 v3 : Nat) (w : World) :
    (binOp .neq 46 (.agg #[.int .i64 a, .int .u64 w0, .int .u64 w1, .int .u64 w2, .int .u64 w3]) (.agg #[.int .i64 b, .int .u64 v0, .int .u64 v1, .int .u64 v2, .int .u64 v3])).run Tryd.prog w =
      .ok (.bool (rowNe a w0 w1 w2 w3 b v0 v1 v2 v3)) w := neq46 a w0 w1 w2 w3 b v0 v1 v2 v3 w
theorem rowNe_iff (r s : Row) : rowNe r.at_ r.w0 r.w1 r.w2 r.w3 s.at_ s.w0 s.w1 s.w2 s.w3 = false ↔ r = s := by
  obtain ⟨a, w0, w1, w2, w3⟩ := r
  obtain ⟨b, v0, v1, v2, v3⟩ := s
  simp [rowNe, and_assoc]
theorem eqg46 : Tryd.prog.eqGuardType Tryd.prog.depth 46 = false := by kernel_rfl
attribute [local go_sem ↓] neq46'
def EqPost (rs ss : List Row) (w : World) (e : Ending) (w' : World) : Prop := ∃ b : Bool, e = .returned (.bool b) ∧ (b = true ↔ rs = ss) ∧ Turn [] w w'
set_option maxHeartbeats 1000000 in
theorem equal_any (A A' : Option Addr) (n m c d : Nat) (rs ss : List Row) (w : World) (h : RowsAt w A rs) (h' : RowsAt w A' ss) (hn : n = rs.length) (hm : m = ss.length) (hl : n ≤ 100000) (hl' : m ≤ 100000) :
    Calls Tryd.prog 31 #[.slice A n c, .slice A' m d] w (EqPost rs ss w) := by
  have HN := Lib.hid hn
  have HM := Lib.hid hm
  have H := Lib.hid h
  have H' := Lib.hid h'
  have hg46 := eqg46
  clear hn hm h h'
  by_cases hnm : n = m
  · subst hnm
    have hne : ((n : Int) != (n : Int)) = false := by simp
    go_enter Tryd.func31, Tryd.ntmps31
    go_wp2
    go_loopw [13] (fun i w' => ∃ k : Nat, k ≤ n ∧ i = .int .i64 k ∧ rs.take k = ss.take k ∧ ∃ q, w' = w.drewN q) (fun i _ => n - (intOf i).toNat)
    case atStart => exact ⟨0, Nat.zero_le _, rfl, by simp, 0, rfl⟩
    case round =>
      obtain ⟨k, hk, rfl, hc, q, rfl⟩ := hrel
      have HC := Lib.hid hc
      clear hc
      by_cases hlt : k < n
      · obtain ⟨r, hr⟩ := at_lt (show k < rs.length by have := HN.out; omega)
        obtain ⟨g, rfl, hg, c0, c1, c2, c3, c4⟩ := H.out k r hr
        obtain ⟨s, hs⟩ := at_lt (show k < ss.length by have := HM.out; omega)
        obtain ⟨g', rfl, hg', d0, d1, d2, d3, d4⟩ := H'.out k s hs
        have HR := Lib.hid hr
        have HS := Lib.hid hs
        clear hr hs
        cases hq : rowNe r.at_ r.w0 r.w1 r.w2 r.w3 s.at_ s.w0 s.w1 s.w2 s.w3
        · go_wp2
          go_quiet (fail)
          go_wp2
          go_roundw
          case rel => exact ⟨k + 1, by omega, by go_num, by
            rw [take_snoc HR.out, take_snoc HS.out, HC.out, (rowNe_iff r s).1 hq], _, by first | rfl | (rw [World.drewN_drewN])⟩
          case measure => simp [intOf]; omega
        · go_wp2
          go_quiet (fail)
          go_wp2
          go_ret
          refine ⟨false, rfl, ?_, ((Turn.refl _ _).drewN _).drewN _⟩
          constructor
          · intro h; cases h
          · rintro rfl
            have e := HR.out.symm.trans HS.out
            injection e with e
            have := (rowNe_iff r s).2 e
            rw [this] at hq
            cases hq
      · go_wp2
        go_ret
        refine ⟨true, rfl, ?_, (Turn.refl _ _).drewN _⟩
        have h1 := HC.out
        rw [List.take_of_length_le (by have := HN.out; omega), List.take_of_length_le (by have := HM.out; omega)] at h1
        simp [h1]
  · have hne : ((n : Int) != (m : Int)) = true := by simp; omega
    go_enter Tryd.func31, Tryd.ntmps31
    go_wp2
    go_ret
    refine ⟨false, rfl, ?_, Turn.refl _ _⟩
    constructor
    · intro h; cases h
    · rintro rfl
      exact absurd (HN.out.trans HM.out.symm) hnm
set_option maxHeartbeats 400000 in
theorem same_any (p v : Value) (rs : List Row) (q u : Value) (ss : List Row) (w : World) (h : SetV w p v rs) (h' : SetV w q u ss) : Calls Tryd.prog 17 #[p, q] w (EqPost rs ss w) := by
  obtain ⟨A, c, rfl, hrow, hc⟩ := h.form
  obtain ⟨A', c', rfl, hrow', hc'⟩ := h'.form
  have hlen := h.ok.len
  have hlen' := h'.ok.len
  have H := Lib.hid h
  have H' := Lib.hid h'
  have HR := Lib.hid hrow
  have HR' := Lib.hid hrow'
  clear h h' hrow hrow'
  go_enter Tryd.func17, Tryd.ntmps17
  go_wp2_with fail
  refine (all_any p _ rs _ H.out).mono ?_
  rintro e w' ⟨rfl, rfl⟩
  go_wp2_with fail
  refine (all_any q _ ss _ H'.out).mono ?_
  rintro e w' ⟨rfl, rfl⟩
  go_wp2_with fail
  refine (equal_any A A' _ _ c c' rs ss _ HR.out HR'.out rfl rfl (by omega) (by omega)).mono ?_
  rintro e w' ⟨b, rfl, hb, ht⟩
  have HB := Lib.hid hb
  clear hb
  go_wp2
  go_ret
  exact ⟨b, rfl, HB.out, ht⟩
end Go.Proofs.YtclofjlonncnlaaDoor
