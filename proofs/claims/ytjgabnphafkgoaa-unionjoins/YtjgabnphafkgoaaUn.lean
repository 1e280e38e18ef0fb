/- The union's memory, and the calls at its bottom: numbers, has, hasAll, top, climb, link, Count. -/
import Derived.Test.YtjgabnphafkgoaaMap
set_option linter.unusedSimpArgs false
set_option linter.unusedVariables false
namespace Go.Proofs.Ytjgabnphafkgoaa
open Go.RowKit Go.Maps

/-- What the map of parents holds. -/
def pf (p : Nat → Nat) : Nat → Option Nat := fun i => if p i = i then none else some (p i)
theorem pf_head {p : Nat → Nat} {i : Nat} (h : p i = i) : pf p i = none := by simp [pf, h]
theorem pf_other {p : Nat → Nat} {i : Nat} (h : p i ≠ i) : pf p i = some (p i) := by simp [pf, h]
theorem pf_upd {p : Nat → Nat} {x y : Nat} (h : y ≠ x) (i : Nat) : updF (pf p) x y i = pf (upd p x y) i := by
  unfold updF pf
  by_cases e : i = x
  · subst e; rw [upd_same]; simp [h]
  · rw [upd_other e]; simp [e]

/-- Block b is a union of n numbers with the map m of the parents p, whose heads are H. -/
structure UnP (w : World) (b m n : Nat) (p H : Nat → Nat) : Prop where
  c0 : w.cell? ⟨b, 0, none⟩ = some (.int .i64 (n : Int))
  c1 : w.cell? ⟨b, 1, none⟩ = some (.map (some m))
  lt : b < w.heap.size
  ne : b ≠ m
  le : n ≤ 65536
  par : Par n p
  hd : Hd p H
  map : MapF w m (nc n H) (pf p)
def Un (w : World) (b m n : Nat) (H : Nat → Nat) : Prop := ∃ p, UnP w b m n p H

theorem UnP.turn {F : List Nat} {w w' : World} {b m n : Nat} {p H : Nat → Nat} (h : UnP w b m n p H) (t : Turn F w w') (hb : b ∉ F) (hm : m ∉ F) : UnP w' b m n p H :=
  ⟨(t.cell (p := ⟨b, 0, none⟩) h.lt hb).trans h.c0, (t.cell (p := ⟨b, 1, none⟩) h.lt hb).trans h.c1, Nat.lt_of_lt_of_le h.lt t.size, h.ne, h.le, h.par, h.hd, h.map.turn t hm⟩
theorem Un.turn {F : List Nat} {w w' : World} {b m n : Nat} {H : Nat → Nat} (h : Un w b m n H) (t : Turn F w w') (hb : b ∉ F) (hm : m ∉ F) : Un w' b m n H := by
  obtain ⟨p, h⟩ := h
  exact ⟨p, h.turn t hb hm⟩
theorem Un.turn' {w w' : World} {b m n : Nat} {H : Nat → Nat} (h : Un w b m n H) (t : Turn [] w w') : Un w' b m n H := h.turn t (by simp) (by simp)
theorem Un.heads {w : World} {b m n : Nat} {H : Nat → Nat} (h : Un w b m n H) : Heads n H := by
  obtain ⟨p, h⟩ := h
  exact h.hd.heads h.par
theorem Un.le {w : World} {b m n : Nat} {H : Nat → Nat} (h : Un w b m n H) : n ≤ 65536 := by
  obtain ⟨p, h⟩ := h
  exact h.le
theorem Un.lt {w : World} {b m n : Nat} {H : Nat → Nat} (h : Un w b m n H) : b < w.heap.size ∧ m < w.heap.size := by
  obtain ⟨p, h⟩ := h
  exact ⟨h.lt, h.map.lt⟩

theorem numbers_any (b m n : Nat) (H : Nat → Nat) (w : World) (h : Un w b m n H) :
    Calls Try.prog 24 #[.pointer (some ⟨b, 0, none⟩)] w fun e w' => e = .returned (.int .i64 (n : Int)) ∧ w = w' := by
  obtain ⟨p, h⟩ := h
  have c0 := h.c0
  clear h
  go_enter Try.func24, Try.ntmps24
  go_wp2
  go_ret
  exact ⟨rfl, rfl⟩

def inB (n : Nat) (x : Int) : Bool := decide (0 ≤ x) && decide (x < (n : Int))

theorem has_any (b m n : Nat) (H : Nat → Nat) (x : Int) (w : World) (h : Un w b m n H) :
    Calls Try.prog 23 #[.pointer (some ⟨b, 0, none⟩), .int .i64 x] w fun e w' => e = .returned (.bool (inB n x)) ∧ w = w' := by
  by_cases h0 : 0 ≤ x
  · have hd : decide (0 ≤ x) = true := by simpa using h0
    go_enter Try.func23, Try.ntmps23
    go_wp2_with fail
    refine (numbers_any b m n H _ h).mono ?_
    rintro e w' ⟨rfl, rfl⟩
    go_wp2_with fail
    go_ret
    refine ⟨ret_bool ?_, rfl⟩
    unfold inB
    rw [hd]
    rfl
  · have hd : decide (0 ≤ x) = false := by simpa using h0
    go_enter Try.func23, Try.ntmps23
    go_wp2_with fail
    go_ret
    refine ⟨ret_bool ?_, rfl⟩
    unfold inB
    rw [hd]
    rfl

theorem count_any (b m n : Nat) (H : Nat → Nat) (w : World) (h : Un w b m n H) :
    Calls Try.prog 17 #[.pointer (some ⟨b, 0, none⟩)] w fun e w' => e = .returned (.int .i64 (hc n H : Int)) ∧ Turn [] w w' := by
  obtain ⟨p, h⟩ := h
  have c0 := h.c0
  have c1 := h.c1
  have hle := h.le
  have hlen : ∀ k, (Builtin.len_ #[43] 3 #[.map (some m)]).run Try.prog (w.drewN k) = .ok (.int .i64 (nc n H : Int)) (w.drewN k) := fun k => run_lenF _ m _ _ (h.map.turn ((Turn.refl [] w).drewN k) (by simp)) 3
  have HC := Lib.hid (hc_nc n H)
  have hn1 : nc n H ≤ n := nc_le n H
  clear h
  generalize hs : nc n H = s at *
  have HS := Lib.hid hs
  clear hs
  have hw : IntKind.i64.wrap ((n : Int) - (s : Int)) = (n : Int) - (s : Int) := IntWalk.i64_in _ (by omega)
  go_enter Try.func17, Try.ntmps17
  go_wp2_with fail
  go_quiet (fail)
  go_wp2_with fail
  go_ret
  exact ⟨ret_int (by have := HC.out; omega), (Turn.refl _ _).drewN _⟩

theorem top_any (b m n : Nat) (p H : Nat → Nat) (i : Nat) (w : World) (h : UnP w b m n p H) (hi : i < n) :
    Calls Try.prog 25 #[.pointer (some ⟨b, 0, none⟩), .int .i64 (i : Int)] w fun e w' => e = .returned (.int .i64 (H i : Int)) ∧ w = w' := by
  have c1 := h.c1
  have hle := h.le
  have HM := Lib.hid h.map
  have HP := Lib.hid h.par
  have HD := Lib.hid h.hd
  clear h
  go_enter Try.func25, Try.ntmps25
  go_wp2_with fail
  go_loop [1] (fun t => ∃ k : Nat, k < n ∧ Hid (H k = H i) ∧ t = .int .i64 (k : Int)) (fun t => (intOf t).toNat)
  case atStart => exact ⟨i, hi, Lib.hid rfl, rfl⟩
  case round =>
    obtain ⟨k, hk, HE, rfl⟩ := hrel
    by_cases hp : p k = k
    · have HF := Lib.hid (pf_head hp)
      have HR : Hid (H i = k) := Lib.hid (HE.out.symm.trans (HD.out.own k hp))
      clear hp
      go_wp2_with (at_lookup; refine wpList_lookF_ok _ rfl _ _ rfl m _ _ rfl HM.out k rfl (by omega) ?_; rw [HF.out])
      go_ret
      exact ⟨ret_int (by rw [HR.out]), rfl⟩
    · have HF := Lib.hid (pf_other hp)
      have hlt : p k < k := by have := HP.out.le k; omega
      have HR : Hid (H (p k) = H i) := Lib.hid ((HD.out.step k).trans HE.out)
      clear hp
      go_wp2_with (at_lookup; refine wpList_lookF_ok _ rfl _ _ rfl m _ _ rfl HM.out k rfl (by omega) ?_; rw [HF.out])
      go_round
      case rel => exact ⟨p k, by omega, HR, rfl⟩
      case measure => simp [intOf]; omega
end Go.Proofs.Ytjgabnphafkgoaa
