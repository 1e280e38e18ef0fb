/- The sets' contracts, said of the lists of their numbers. -/
import Derived.Test.YtclofjlonncnlaaDoorAwake
set_option linter.unusedSimpArgs false
set_option linter.unusedVariables false
namespace Go.Proofs.YtclofjlonncnlaaDoor
open Go.RowKit

def meetL (x y : List Int) : Bool := decide ((minusL x y).length < x.length)
theorem hasL_any (p v : Value) (rs : List Row) (n : Int) (w : World) (h : SetV w p v rs) : Calls Tryd.prog 13 #[p, .int .i64 n] w fun e w' => e = .returned (.bool (hasB (nums rs) n)) ∧ Turn [] w w' := by
  cases hok : okB n
  · refine (has_out p n w hok).mono ?_
    rintro e w' ⟨rfl, rfl⟩
    exact ⟨by rw [hasB_nums_out h.ok hok], Turn.refl _ _⟩
  · obtain ⟨h0, h1⟩ := okB_lo hok
    obtain ⟨m, rfl⟩ := Int.eq_ofNat_of_zero_le h0
    have hm : m < 1048576 := by omega
    refine (has_in p v rs m w h hm).mono ?_
    rintro e w' ⟨rfl, ht⟩
    exact ⟨by rw [hasB_nums h.ok hm], ht⟩
theorem sameL_any (p v : Value) (rs : List Row) (q u : Value) (ss : List Row) (w : World) (h : SetV w p v rs) (h' : SetV w q u ss) : Calls Tryd.prog 17 #[p, q] w fun e w' => e = .returned (.bool (sameB (nums rs) (nums ss))) ∧ Turn [] w w' := by
  refine (same_any p v rs q u ss w h h').mono ?_
  rintro e w' ⟨b, rfl, hb, ht⟩
  refine ⟨ret_bool ?_, ht⟩
  rw [Bool.eq_iff_iff, hb, rows_eq h.ok h'.ok]
  simp [sameB]
theorem meetsL_any (p v : Value) (rs : List Row) (q u : Value) (ss : List Row) (w : World) (h : SetV w p v rs) (h' : SetV w q u ss) : Calls Tryd.prog 22 #[p, q] w fun e w' => e = .returned (.bool (meetL (nums rs) (nums ss))) ∧ Turn [] w w' := by
  refine (meetsSet_any p v rs q u ss w h h').mono ?_
  rintro e w' ⟨rfl, ht⟩
  exact ⟨by rw [meetsB_eq h.ok h'.ok]; rfl, ht⟩
theorem lenL_any (p v : Value) (rs : List Row) (w : World) (h : SetV w p v rs) : Calls Tryd.prog 12 #[p] w fun e w' => e = .returned (.int .i64 ((nums rs).length : Int)) ∧ w = w' := by
  rw [nums_length]
  exact len_any p v rs w h
theorem minusL_any (p v : Value) (rs : List Row) (q u : Value) (ss : List Row) (w : World) (h : SetV w p v rs) (h' : SetV w q u ss) : Calls Tryd.prog 20 #[p, q] w (NewSet w (minusL (nums rs) (nums ss))) := by
  refine (minus_any p v rs q u ss w h h').mono ?_
  rintro e w' ⟨b, v', rfl, hs, hb, hv, ht⟩
  exact ⟨b, v', _, rfl, hs, nums_minus h.ok h'.ok, hb, hv, ht⟩
theorem unionL_nil_right (a : List Int) : unionL (ofL a) [] = ofL a := by
  unfold unionL
  rw [List.append_nil]
  exact ofL_self (sd_ofL a) (fun x hx => ((mem_ofL a x).1 hx).2)
theorem unionL_nil_left (a : List Int) : unionL [] (ofL a) = ofL a := by
  unfold unionL
  rw [List.nil_append]
  exact ofL_self (sd_ofL a) (fun x hx => ((mem_ofL a x).1 hx).2)
theorem minusL_nil_right (l : List Int) : minusL l [] = l := by
  unfold minusL
  exact List.filter_eq_self.2 (fun x _ => by simp [hasB])
theorem minusL_nil_left (l : List Int) : minusL [] l = [] := rfl
theorem meetL_nil_left (l : List Int) : meetL [] l = false := rfl
theorem meetL_nil_right (l : List Int) : meetL l [] = false := by simp [meetL, minusL_nil_right]
theorem sameB_self (l : List Int) : sameB l l = true := by simp [sameB]
theorem sameB_nil (l : List Int) : sameB [] l = decide ((l.length : Int) = 0) := by
  unfold sameB
  rw [decide_eq_decide]
  constructor
  · intro h; subst h; rfl
  · intro h
    exact (List.eq_nil_of_length_eq_zero (by omega)).symm
theorem hasB_nil (n : Int) : hasB [] n = false := rfl
theorem nilSet (w : World) : SetV w (.pointer none) (.slice none 0 0) [] := .inl ⟨rfl, rfl, rfl⟩
/-- Of, as a set that is known by its list. -/
structure Fresh (w w' : World) (b : Nat) (v : Value) (rs : List Row) (l : List Int) : Prop where
  set : SetAt w' b v rs
  nums : nums rs = l
  blk : w.heap.size ≤ b
  own : ∀ g, v.ownBlock = some g → w.heap.size ≤ g
  turn : Turn [] w w'
theorem length_ofL_le {a : List Int} {n : Nat} (h : a.length ≤ n) : (ofL a).length ≤ n := Nat.le_trans (length_ofL a) h
end Go.Proofs.YtclofjlonncnlaaDoor
