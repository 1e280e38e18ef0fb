/- Binary search among the rows. -/
import Derived.Test.YtclofjlonncnlaaDoorRow2
set_option linter.unusedSimpArgs false
set_option linter.unusedVariables false
namespace Go.Proofs.YtclofjlonncnlaaDoor
open Go.RowKit

/-- The slice at A reads as the rows rs. -/
def RowsAt (w : World) (A : Option Addr) (rs : List Row) : Prop :=
  ∀ i r, rs[i]? = some r → ∃ g, A = some ⟨g, 0, none⟩ ∧ g < w.heap.size ∧ w.cell? ⟨g, i * 5, none⟩ = some (.int .i64 r.at_) ∧ w.cell? ⟨g, i * 5 + 1, none⟩ = some (.int .u64 r.w0) ∧
    w.cell? ⟨g, i * 5 + 2, none⟩ = some (.int .u64 r.w1) ∧ w.cell? ⟨g, i * 5 + 3, none⟩ = some (.int .u64 r.w2) ∧ w.cell? ⟨g, i * 5 + 4, none⟩ = some (.int .u64 r.w3)
theorem RowsAt.turn {F : List Nat} {w w' : World} {A : Option Addr} {rs : List Row} (h : RowsAt w A rs) (t : Turn F w w') (hn : ∀ g, A = some ⟨g, 0, none⟩ → g ∉ F) : RowsAt w' A rs := fun i r hr => by
  obtain ⟨g, e, hg, c⟩ := h i r hr
  have k := fun o => t.cell (p := ⟨g, o, none⟩) hg (hn g e)
  exact ⟨g, e, Nat.lt_of_lt_of_le hg t.size, (k _).trans c.1, (k _).trans c.2.1, (k _).trans c.2.2.1, (k _).trans c.2.2.2.1, (k _).trans c.2.2.2.2⟩
theorem RowsAt.turn' {w w' : World} {A : Option Addr} {rs : List Row} (h : RowsAt w A rs) (t : Turn [] w w') : RowsAt w' A rs := h.turn t (by simp)
theorem OwnR.form {w : World} {B : Nat} {v : Value} {rs : List Row} (h : OwnR w B v rs) : ∃ A c, v = .slice A rs.length c ∧ RowsAt w A rs ∧ rs.length ≤ c := by
  rcases h.2 with ⟨rfl, hn⟩ | ⟨g, cap, cur, rfl, hb, hg, hnc, _, _, ht⟩
  · refine ⟨none, 0, by rw [hn], fun k y hy => ?_, by omega⟩
    rw [List.eq_nil_of_length_eq_zero hn] at hy
    simp at hy
  · exact ⟨_, cap, rfl, fun k y hy => ⟨g, rfl, (Array.getElem?_eq_some_iff.1 hg).1, OwnR.cells h rfl hy⟩, hnc⟩

/-- Where the row of place t stands, or would stand. -/
structure Cut (rs : List Row) (t k : Nat) : Prop where
  le : k ≤ rs.length
  lo : ∀ i r, i < k → rs[i]? = some r → r.at_ < t
  hi : ∀ i r, k ≤ i → rs[i]? = some r → t ≤ r.at_
def hit (rs : List Row) (t k : Nat) : Bool := match rs[k]? with
  | some r => decide (r.at_ = t)
  | none => false
theorem hit_some {rs : List Row} {t k : Nat} {r : Row} (h : rs[k]? = some r) : hit rs t k = decide (r.at_ = t) := by simp [hit, h]
theorem hit_none {rs : List Row} {t k : Nat} (h : ¬ k < rs.length) : hit rs t k = false := by simp [hit, List.getElem?_eq_none (Nat.le_of_not_lt h)]
def Asc (rs : List Row) : Prop := rs.Pairwise (fun r s => r.at_ < s.at_)
theorem Asc.lt {rs : List Row} (h : Asc rs) {i j : Nat} {r s : Row} (hi : rs[i]? = some r) (hj : rs[j]? = some s) (hij : i < j) : r.at_ < s.at_ := by
  obtain ⟨h1, rfl⟩ := List.getElem?_eq_some_iff.1 hi
  obtain ⟨h2, rfl⟩ := List.getElem?_eq_some_iff.1 hj
  exact List.pairwise_iff_getElem.1 h i j h1 h2 hij
def FoundPost (rs : List Row) (t : Nat) (w : World) (e : Ending) (w' : World) : Prop := ∃ k : Nat, Cut rs t k ∧ e = .returned (.tuple #[.int .i64 k, .bool (hit rs t k)]) ∧ Turn [] w w'
theorem ret_ib {a b : Int} {c d : Bool} (h : a = b) (h' : c = d) : Ending.returned (.tuple #[.int .i64 a, .bool c]) = .returned (.tuple #[.int .i64 b, .bool d]) := by rw [h, h']

set_option maxHeartbeats 1000000 in
theorem search_any (A : Option Addr) (n c : Nat) (rs : List Row) (t : Nat) (w : World) (h : RowsAt w A rs) (hn : n = rs.length) (hl : n ≤ 100000) (ha : Asc rs) (hf : ∀ r ∈ rs, r.Fits) (ht : t < 100000) :
    Calls Tryd.prog 36 #[.slice A n c, .int .i64 t, .func (.func 37) #[] #[]] w (FoundPost rs t w) := by
  have HN := Lib.hid hn
  have H := Lib.hid h
  have HA := Lib.hid ha
  have HF := Lib.hid hf
  clear hn h ha hf
  go_enter Tryd.func36, Tryd.ntmps36
  go_wp2
  go_loopw [9, 10] (fun p q wr => ∃ i j : Nat, i ≤ j ∧ j ≤ n ∧ p = .int .i64 i ∧ q = .int .i64 j ∧ (∀ k r, k < i → rs[k]? = some r → r.at_ < t) ∧ (∀ k r, j ≤ k → rs[k]? = some r → t ≤ r.at_) ∧ Turn [] w wr) (fun p q _ => (intOf q - intOf p).toNat)
  case atStart => exact ⟨0, n, by omega, by omega, rfl, rfl, fun k r hk => by omega, fun k r hk hr => by
    have := (List.getElem?_eq_some_iff.1 hr).1
    have := HN.out
    omega, Turn.refl _ _⟩
  case round =>
    obtain ⟨i, j, hij, hj, rfl, rfl, h1, h2, ht1⟩ := hrel
    have H1 := Lib.hid h1
    have H2 := Lib.hid h2
    have HT := Lib.hid ht1
    clear h1 h2 ht1
    by_cases hlt : i < j
    · obtain ⟨m, hm⟩ : ∃ m, m = (i + j) / 2 := ⟨_, rfl⟩
      obtain ⟨r, hr⟩ := at_lt (show m < rs.length by have := HN.out; omega)
      obtain ⟨g, rfl, hg, c0, c1, c2, c3, c4⟩ := (H.out.turn' HT.out) m r hr
      have hfit := HF.out r (List.mem_of_getElem? hr)
      have hra := hfit.a
      have HR := Lib.hid hr
      have hm1 : i ≤ m := by omega
      have hm2 : m < j := by omega
      have HM := Lib.hid hm
      have hmi : ((i : Int) + (j : Int)) / 2 = (m : Int) := by omega
      clear hr hm hfit
      by_cases hc : r.at_ < t
      · have hd : decide ((r.at_ : Int) - (t : Int) < 0) = true := by simp; omega
        go_wp2_with (go_at_call 37; refine (cmp_walk r.at_ r.w0 r.w1 r.w2 r.w3 t _ (by omega) (by omega)).mono ?_; rintro e w' ⟨rfl, ht2⟩; have HT2 := Lib.hid ht2; clear ht2)
        go_roundw
        case rel => exact ⟨m + 1, j, by omega, by omega, by go_num, rfl, fun k s hk hs => by
          rcases Nat.lt_or_ge k m with h3 | h3
          · exact Nat.lt_trans (HA.out.lt hs HR.out h3) hc
          · have e : k = m := by omega
            subst e
            have := HR.out.symm.trans hs
            injection this with e
            subst e
            exact hc, H2.out, HT.out.trans' HT2.out⟩
        case measure => simp [intOf]; omega
      · have hd : decide ((r.at_ : Int) - (t : Int) < 0) = false := by simp; omega
        go_wp2_with (go_at_call 37; refine (cmp_walk r.at_ r.w0 r.w1 r.w2 r.w3 t _ (by omega) (by omega)).mono ?_; rintro e w' ⟨rfl, ht2⟩; have HT2 := Lib.hid ht2; clear ht2)
        go_roundw
        case rel => exact ⟨i, m, by omega, by omega, rfl, rfl, H1.out, fun k s hk hs => by
          rcases Nat.lt_or_ge m k with h3 | h3
          · have := HA.out.lt HR.out hs h3
            omega
          · have e : k = m := by omega
            subst e
            have := HR.out.symm.trans hs
            injection this with e
            subst e
            omega, HT.out.trans' HT2.out⟩
        case measure => simp [intOf]; omega
    · obtain rfl : i = j := by omega
      have hcut : Cut rs t i := ⟨by have := HN.out; omega, H1.out, H2.out⟩
      have HC := Lib.hid hcut
      clear hcut
      by_cases hin : i < n
      · obtain ⟨r, hr⟩ := at_lt (show i < rs.length by have := HN.out; omega)
        obtain ⟨g, rfl, hg, c0, c1, c2, c3, c4⟩ := (H.out.turn' HT.out) i r hr
        have hfit := HF.out r (List.mem_of_getElem? hr)
        have hra := hfit.a
        have HR := Lib.hid hr
        have hdi : decide ((i : Int) < (n : Int)) = true := by simp; omega
        clear hr hfit
        cases hq : ((r.at_ : Int) - (t : Int) == 0)
        all_goals
          go_wp2_with (go_at_call 37; refine (cmp_walk r.at_ r.w0 r.w1 r.w2 r.w3 t _ (by omega) (by omega)).mono ?_; rintro e w' ⟨rfl, ht2⟩; have HT2 := Lib.hid ht2; clear ht2)
          go_ret2
          refine ⟨i, HC.out, ret_ib rfl ?_, HT.out.trans' HT2.out⟩
          rw [hit_some HR.out]
          simp at hq ⊢
          omega
      · have hdi : decide ((i : Int) < (n : Int)) = false := by simp; omega
        go_wp2
        go_ret2
        refine ⟨i, HC.out, ret_ib rfl ?_, HT.out⟩
        rw [hit_none (by have := HN.out; omega)]
end Go.Proofs.YtclofjlonncnlaaDoor
