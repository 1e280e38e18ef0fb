/- Functions that tell which octets are meant, and functions that measure, as values. -/
import Derived.Test.YthdoihemjndmlaaDoorKit
import Derived.Laws.ByValue
import Derived.Laws.StandIn
import Derived.Shelf.Abstract
set_option linter.unusedSimpArgs false
set_option linter.unusedVariables false
namespace Go.Proofs.YthdoihemjndmlaaDoor
open Go.RowKit

theorem indexByte_contains (l : List UInt8) (c : UInt8) : decide (0 ≤ Lib.indexByte l c) = l.contains c := by
  induction l with
  | nil => rfl
  | cons b l ih =>
    unfold Lib.indexByte
    have := Lib.indexByte_ge l c
    by_cases h : b = c
    · subst h; simp
    · have h' : (b == c) = false := by simpa using h
      have h2 : (c == b) = false := by simpa using fun e => h e.symm
      rw [h', List.contains_cons, h2, Bool.false_or, ← ih]
      simp only [Bool.false_eq_true, if_false]
      by_cases h3 : Lib.indexByte l c = -1
      · simp [h3]
      · have h4 : (Lib.indexByte l c == -1) = false := by simpa using h3
        rw [h4]
        simp only [Bool.false_eq_true, if_false]
        have e1 : (0 ≤ Lib.indexByte l c + 1) = True := by simp; omega
        have e2 : (0 ≤ Lib.indexByte l c) = True := by simp; omega
        simp [e1, e2]

theorem toUInt8_id (c : UInt8) : ((c.toNat : Int)).toNat.toUInt8 = c := by simp

theorem sliteIndexByte_any (s : ByteArray) (c : UInt8) (w : World) :
    Calls Tryd.prog 44 #[.string s, .int .u8 (c.toNat : Int)] w fun e w' => e = .returned (.int .i64 (Lib.indexByte s.data.toList c)) ∧ w' = w := by
  have h := fun W : World => Lib.run_indexByteString (P := Tryd.prog) s (c.toNat : Int) W
  simp only [toUInt8_id] at h
  have hcf : ∀ W : World, (callFunc 46 #[.string s, .int .u8 (c.toNat : Int)]).run Tryd.prog W = .ok (.value (.int .i64 (Lib.indexByte s.data.toList c))) W := fun W => by
    rw [run_callFunc_indexByte (fn := Tryd.f46) Tryd.func46 (by kernel_rfl) (by kernel_rfl) (by kernel_rfl) (by kernel_rfl), h W]
    rfl
  clear h
  go_enter Tryd.func44, Tryd.ntmps44
  go_wp2_with fail
  go_ret
  exact ⟨rfl, rfl⟩

theorem indexByte_any (s : ByteArray) (c : UInt8) (w : World) :
    Calls Tryd.prog 38 #[.string s, .int .u8 (c.toNat : Int)] w fun e w' => e = .returned (.int .i64 (Lib.indexByte s.data.toList c)) ∧ w' = w := by
  go_enter Tryd.func38, Tryd.ntmps38
  go_wp2_with fail
  refine (sliteIndexByte_any s c w).mono ?_
  rintro e w1 ⟨rfl, rfl⟩
  go_wp2_with fail
  go_ret
  exact ⟨rfl, rfl⟩

theorem among_any (b : Nat) (s : ByteArray) (c : UInt8) (w : World) (hc : w.cell? ⟨b, 0, none⟩ = some (.string s)) :
    Calls Tryd.prog 37 #[.int .u8 (c.toNat : Int), .pointer (some ⟨b, 0, none⟩)] w fun e w' => e = .returned (.bool (s.data.toList.contains c)) ∧ w' = w := by
  go_enter Tryd.func37, Tryd.ntmps37
  go_wp2_with fail
  refine (indexByte_any s c w).mono ?_
  rintro e w1 ⟨rfl, rfl⟩
  go_wp2_with fail
  go_ret
  exact ⟨ret_bool (indexByte_contains _ _), rfl⟩

/-- The value v is a function that tells of each octet whether p holds; it reads the blocks G alone. -/
def Oct (w : World) (G : List Nat) (v : Value) (p : UInt8 → Bool) : Prop :=
  (∀ g ∈ G, g < w.heap.size) ∧ ∃ (k : Nat) (caps : List Value), v = .func (.func k) #[] caps.toArray ∧ (∀ (args : Array Value) (W : World), (callFunc k args).run Tryd.prog W = .ok (.enter k args) W) ∧ ∀ w' : World, (∀ g ∈ G, w'.heap[g]? = w.heap[g]?) → ∀ c : UInt8,
    Calls Tryd.prog k (Value.int .u8 (c.toNat : Int) :: caps).toArray w' fun e w'' => e = .returned (.bool (p c)) ∧ ∃ m, w'' = w'.drewN m

theorem drewN_zero (w : World) : w.drewN 0 = w := rfl

theorem Oct.among {w : World} {b : Nat} {s : ByteArray} (hb : b < w.heap.size) (hc : w.cell? ⟨b, 0, none⟩ = some (.string s)) :
    Oct w [b] (.func (.func 37) #[] #[.pointer (some ⟨b, 0, none⟩)]) (fun c => s.data.toList.contains c) := by
  refine ⟨by simpa using hb, 37, [.pointer (some ⟨b, 0, none⟩)], rfl, enters_of Tryd.func37 (by kernel_rfl) rfl, fun w' h c => ?_⟩
  refine (among_any b s c w' ?_).mono ?_
  · rw [World.cell?_of_block (h b (by simp))]
    exact hc
  · rintro e w1 ⟨rfl, rfl⟩
    exact ⟨rfl, 0, rfl⟩

theorem but_any (b : Nat) (G : List Nat) (v : Value) (p : UInt8 → Bool) (c : UInt8) (w : World) (hc : w.cell? ⟨b, 0, none⟩ = some v) (hv : Oct w G v p) :
    Calls Tryd.prog 39 #[.int .u8 (c.toNat : Int), .pointer (some ⟨b, 0, none⟩)] w fun e w' => e = .returned (.bool (!p c)) ∧ ∃ m, w' = w.drewN m := by
  obtain ⟨hG, k, caps, rfl, hen, hk⟩ := hv
  have hk1 := hk w (fun _ _ => rfl) c
  clear hk
  have HK := Lib.hid hk1
  clear hk1
  go_enter Tryd.func39, Tryd.ntmps39
  go_wp2_with fail
  refine HK.out.mono ?_
  rintro e w1 ⟨rfl, m, rfl⟩
  go_wp2_with fail
  go_ret
  exact ⟨rfl, m, rfl⟩
end Go.Proofs.YthdoihemjndmlaaDoor
