/- plain as a whole (printed by mkstmt.py). -/
import Derived.Test.YtoekaehpcjhhaaaGreatDoorPla
import Derived.Test.YtoekaehpcjhhaaaGreatDoorPlb
import Derived.Test.YtoekaehpcjhhaaaGreatDoorPlc
import Derived.Test.YtoekaehpcjhhaaaGreatDoorPld
set_option linter.unusedSimpArgs false
set_option linter.unusedVariables false
namespace Go.Proofs.YtoekaehpcjhhaaaGreatDoor
open Go.RowKit

theorem plain_any (T b : Nat) (F : List Nat) (R : List Row) (D : Nat) (d : Int) (x y z t f : ByteArray) (ag : List ByteArray) (n : Int) (A1 A3 A4 : Option Addr) (c1 l3 c3 l4 c4 : Nat) (ln cl : Int) (w : World) (h : Sh T w b F R D) (hs : x.size ≤ 1000 ∧ y.size ≤ 1000 ∧ z.size ≤ 1000 ∧ t.size ≤ 1000 ∧ f.size ≤ 1000) (hR : R.length ≤ 1000000000) (ha : ag.length ≤ 1000 ∧ ∀ a ∈ ag, a.size ≤ 1000) (hac : ag.length ≤ c1) (h1 : Sts w A1 ag) (hn : -9223372036854775808 ≤ n ∧ n ≤ 9223372036854775807) (hp : Pow w) (hp8 : 3 < w.heap.size) :
    Calls Tryz.prog 69 #[.pointer (some ⟨b, 0, none⟩), .agg #[.int .i64 d, .string x, .string y, .string z, .string t, .string f, .slice A1 ag.length c1, .int .i64 n, .slice A3 l3 c3, .slice A4 l4 c4, .int .i64 ln, .int .i64 cl]] w fun e w' => e = .returned (.tuple #[]) ∧ Wr T w b F (R ++ (pl d x y z t f ag n).toList.map fun s => (D, s)) D w' := by
  by_cases h_0 : d = 0
  · subst h_0
    rw [show pl 0 x y z t f ag n = some (cat [x, ⟨#[32, 61, 32, 110, 101, 119, 32]⟩, t, ⟨#[59]⟩]) from rfl]
    exact plain_0 T b F R D x y z t f ag n A1 A3 A4 c1 l3 c3 l4 c4 ln cl w h hs hR
  by_cases h_1 : d = 1
  · subst h_1
    rw [show pl 1 x y z t f ag n = some (cat [x, ⟨#[32, 61, 32, 110, 101, 119, 32]⟩, t, ⟨#[91, 93, 59]⟩]) from rfl]
    exact plain_1 T b F R D x y z t f ag n A1 A3 A4 c1 l3 c3 l4 c4 ln cl w h hs hR
  by_cases h_2 : d = 2
  · subst h_2
    rw [show pl 2 x y z t f ag n = some (cat [x, ⟨#[32, 61, 32, 110, 117, 108, 108, 59]⟩]) from rfl]
    exact plain_2 T b F R D x y z t f ag n A1 A3 A4 c1 l3 c3 l4 c4 ln cl w h hs hR
  by_cases h_3 : d = 3
  · subst h_3
    rw [show pl 3 x y z t f ag n = some (cat [x, ⟨#[32, 61, 32]⟩, y, ⟨#[59]⟩]) from rfl]
    exact plain_3 T b F R D x y z t f ag n A1 A3 A4 c1 l3 c3 l4 c4 ln cl w h hs hR
  by_cases h_4 : d = 4
  · subst h_4
    rw [show pl 4 x y z t f ag n = some (cat [x, ⟨#[32, 61, 32, 40]⟩, t, ⟨#[41, 32]⟩, y, ⟨#[59]⟩]) from rfl]
    exact plain_4 T b F R D x y z t f ag n A1 A3 A4 c1 l3 c3 l4 c4 ln cl w h hs hR
  by_cases h_5 : d = 5
  · subst h_5
    rw [show pl 5 x y z t f ag n = some (cat [x, ⟨#[32, 61, 32]⟩, y, ⟨#[46]⟩, f, ⟨#[59]⟩]) from rfl]
    exact plain_5 T b F R D x y z t f ag n A1 A3 A4 c1 l3 c3 l4 c4 ln cl w h hs hR
  by_cases h_6 : d = 6
  · subst h_6
    rw [show pl 6 x y z t f ag n = some (cat [x, ⟨#[46]⟩, f, ⟨#[32, 61, 32]⟩, y, ⟨#[59]⟩]) from rfl]
    exact plain_6 T b F R D x y z t f ag n A1 A3 A4 c1 l3 c3 l4 c4 ln cl w h hs hR
  by_cases h_7 : d = 7
  · subst h_7
    rw [show pl 7 x y z t f ag n = some (cat [x, ⟨#[32, 61, 32]⟩, t, ⟨#[58, 58]⟩, f, ⟨#[59]⟩]) from rfl]
    exact plain_7 T b F R D x y z t f ag n A1 A3 A4 c1 l3 c3 l4 c4 ln cl w h hs hR
  by_cases h_8 : d = 8
  · subst h_8
    rw [show pl 8 x y z t f ag n = some (cat [t, ⟨#[58, 58]⟩, f, ⟨#[32, 61, 32]⟩, y, ⟨#[59]⟩]) from rfl]
    exact plain_8 T b F R D x y z t f ag n A1 A3 A4 c1 l3 c3 l4 c4 ln cl w h hs hR
  by_cases h_9 : d = 9
  · subst h_9
    rw [show pl 9 x y z t f ag n = some (cat [x, ⟨#[32, 61, 32]⟩, y, ⟨#[91]⟩, z, ⟨#[93, 59]⟩]) from rfl]
    exact plain_9 T b F R D x y z t f ag n A1 A3 A4 c1 l3 c3 l4 c4 ln cl w h hs hR
  by_cases h_10 : d = 10
  · subst h_10
    rw [show pl 10 x y z t f ag n = some (cat [x, ⟨#[91]⟩, z, ⟨#[93, 32, 61, 32]⟩, y, ⟨#[59]⟩]) from rfl]
    exact plain_10 T b F R D x y z t f ag n A1 A3 A4 c1 l3 c3 l4 c4 ln cl w h hs hR
  by_cases h_11 : d = 11
  · subst h_11
    rw [show pl 11 x y z t f ag n = some (callT x [y, ⟨#[46]⟩, f] ag) from rfl]
    exact plain_11 T b F R D x y z t f ag n A1 A3 A4 c1 l3 c3 l4 c4 ln cl w h hs hR ha hac h1
  by_cases h_12 : d = 12
  · subst h_12
    rw [show pl 12 x y z t f ag n = some (callT x [y, ⟨#[46]⟩, t, ⟨#[58, 58]⟩, f] ag) from rfl]
    exact plain_12 T b F R D x y z t f ag n A1 A3 A4 c1 l3 c3 l4 c4 ln cl w h hs hR ha hac h1
  by_cases h_13 : d = 13
  · subst h_13
    rw [show pl 13 x y z t f ag n = some (callT x [t, ⟨#[58, 58]⟩, f] ag) from rfl]
    exact plain_13 T b F R D x y z t f ag n A1 A3 A4 c1 l3 c3 l4 c4 ln cl w h hs hR ha hac h1
  by_cases h_14 : d = 14
  · subst h_14
    rw [show pl 14 x y z t f ag n = some (cat [x, ⟨#[32, 61, 32]⟩, mk (Lib.itoa n), ⟨#[59]⟩]) from rfl]
    exact plain_14 T b F R D x y z t f ag n A1 A3 A4 c1 l3 c3 l4 c4 ln cl w h hs hR hn hp hp8
  by_cases h_15 : d = 15
  · subst h_15
    rw [show pl 15 x y z t f ag n = some (cat [x, ⟨#[32, 61, 32]⟩, y, ⟨#[32, 43, 32]⟩, z, ⟨#[59]⟩]) from rfl]
    exact plain_15 T b F R D x y z t f ag n A1 A3 A4 c1 l3 c3 l4 c4 ln cl w h hs hR
  by_cases h_16 : d = 16
  · subst h_16
    rw [show pl 16 x y z t f ag n = some (cat [x, ⟨#[32, 61, 32]⟩, y, ⟨#[32, 45, 32]⟩, z, ⟨#[59]⟩]) from rfl]
    exact plain_16 T b F R D x y z t f ag n A1 A3 A4 c1 l3 c3 l4 c4 ln cl w h hs hR
  by_cases h_17 : d = 17
  · subst h_17
    rw [show pl 17 x y z t f ag n = some (cat [x, ⟨#[32, 61, 32, 105, 110, 112, 117, 116, 59]⟩]) from rfl]
    exact plain_17 T b F R D x y z t f ag n A1 A3 A4 c1 l3 c3 l4 c4 ln cl w h hs hR
  by_cases h_18 : d = 18
  · subst h_18
    rw [show pl 18 x y z t f ag n = some (cat [⟨#[116, 104, 114, 111, 119, 32]⟩, x, ⟨#[59]⟩]) from rfl]
    exact plain_18 T b F R D x y z t f ag n A1 A3 A4 c1 l3 c3 l4 c4 ln cl w h hs hR
  by_cases h_22 : d = 22
  · subst h_22
    rw [show pl 22 x y z t f ag n = some (retT x) from rfl]
    exact plain_22 T b F R D x y z t f ag n A1 A3 A4 c1 l3 c3 l4 c4 ln cl w h hs hR
  have e : pl d x y z t f ag n = none := by
    unfold pl
    rw [if_neg h_0, if_neg h_1, if_neg h_2, if_neg h_3, if_neg h_4, if_neg h_5, if_neg h_6, if_neg h_7, if_neg h_8, if_neg h_9, if_neg h_10, if_neg h_11, if_neg h_12, if_neg h_13, if_neg h_14, if_neg h_15, if_neg h_16, if_neg h_17, if_neg h_18, if_neg h_22]
  rw [e]
  have hd : ∀ k ∈ [0, 1, 2, 3, 4, 5, 6, 7, 8, 9, 10, 11, 12, 13, 14, 15, 16, 17, 18, 22], d ≠ (k : Int) := by
    intro k hk e
    simp at hk
    omega
  have := plain_other T b F R D d x y z t f ag n A1 A3 A4 c1 l3 c3 l4 c4 ln cl w h hd
  simpa using this

end Go.Proofs.YtoekaehpcjhhaaaGreatDoor
