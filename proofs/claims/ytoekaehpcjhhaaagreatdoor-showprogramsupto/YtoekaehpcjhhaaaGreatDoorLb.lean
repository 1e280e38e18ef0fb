/- What the program calls of Go's library: Join, TrimLeft, Itoa, Split, in this proof's words. -/
import Derived.Test.YtoekaehpcjhhaaaGreatDoorMem
import Derived.Test.YtoekaehpcjhhaaaGreatDoorShelf
set_option linter.unusedSimpArgs false
set_option linter.unusedVariables false
namespace Go.Proofs.YtoekaehpcjhhaaaGreatDoor
open Go.RowKit

def bs (s : ByteArray) : List UInt8 := s.data.toList
def mk (l : List UInt8) : ByteArray := ⟨l.toArray⟩
theorem bs_mk (l : List UInt8) : bs (mk l) = l := by simp [bs, mk]
theorem mk_bs (s : ByteArray) : mk (bs s) = s := by simp [bs, mk]
theorem bs_inj {s t : ByteArray} (h : bs s = bs t) : s = t := by rw [← mk_bs s, ← mk_bs t, h]
theorem bs_append (s t : ByteArray) : bs (s ++ t) = bs s ++ bs t := by simp [bs, ByteArray.data_append]
theorem bs_lit (a : Array UInt8) : bs ⟨a⟩ = a.toList := rfl
theorem size_bs (s : ByteArray) : s.size = (bs s).length := Array.length_toList.symm
theorem ret_str {a b : ByteArray} (h : bs a = bs b) : Ending.returned (.string a) = .returned (.string b) := by rw [bs_inj h]

/-- Texts one behind the other. -/
def cat (xs : List ByteArray) : ByteArray := mk (xs.flatMap bs)
theorem bs_cat (xs : List ByteArray) : bs (cat xs) = xs.flatMap bs := bs_mk _
/-- Texts with something between. -/
def jn (xs : List ByteArray) (sep : ByteArray) : ByteArray := mk (Lib.join (xs.map bs) (bs sep))
theorem bs_jn (xs : List ByteArray) (sep : ByteArray) : bs (jn xs sep) = Lib.join (xs.map bs) (bs sep) := bs_mk _
theorem join_none (xs : List (List UInt8)) : Lib.join xs [] = xs.flatten := by
  unfold Lib.join
  rw [List.intercalate]
  induction xs with
  | nil => rfl
  | cons x xs ih =>
    cases xs with
    | nil => simp
    | cons y ys => rw [List.intersperse_cons_cons, List.flatten_cons, List.flatten_cons, ih]; simp
theorem jn_none (xs : List ByteArray) : jn xs ⟨#[]⟩ = cat xs := by
  unfold jn cat
  rw [show bs ⟨#[]⟩ = [] from rfl, join_none, List.flatMap_def]

/-- The slice at A reads as the texts xs. -/
def Sts (w : World) (A : Option Addr) (xs : List ByteArray) : Prop := Rws w 1 A xs.length (xs.map Value.string)
theorem Sts.turn {w w' : World} {A : Option Addr} {xs : List ByteArray} {F : List Nat} (h : Sts w A xs) (t : Turn F w w') (hF : ∀ b off, A = some ⟨b, off, Option.none⟩ → b ∉ F) : Sts w' A xs := Rws.turn h t hF
theorem Sts.turn' {w w' : World} {A : Option Addr} {xs : List ByteArray} (h : Sts w A xs) (t : Turn [] w w') : Sts w' A xs := Rws.turn' h t
theorem Sts.at {w : World} {A : Option Addr} {xs : List ByteArray} (h : Sts w A xs) {j : Nat} {x : ByteArray} (hx : xs[j]? = some x) : ∃ b off, A = some ⟨b, off, none⟩ ∧ b < w.heap.size ∧ w.cell? ⟨b, off + j, none⟩ = some (.string x) := by
  rcases h.2 with h0 | ⟨b, off, rfl, hb, hc⟩
  · have := (List.getElem?_eq_some_iff.1 hx).1
    omega
  · exact ⟨b, off, rfl, hb, hc j _ (by simp [hx])⟩

theorem join_any (A : Option Addr) (c : Nat) (xs : List ByteArray) (sep : ByteArray) (w : World) (h : Sts w A xs) (hc : xs.length ≤ c) (hn : xs.length ≤ 140737488355328) (hl : (jn xs sep).size ≤ 140737488355328) :
    Calls Tryz.prog 32 #[.slice A xs.length c, .string sep] w fun e w' => e = .returned (.string (jn xs sep)) ∧ Turn [] w w' := by
  rcases h.2 with h0 | ⟨b, off, rfl, hb, hcell⟩
  · have hx : xs = [] := List.eq_nil_of_length_eq_zero h0
    subst hx
    refine (show Calls Tryz.prog 32 _ w _ from Any.strings_Join_none lays156 Builder_Extra_156 A c sep w).mono ?_
    rintro e w1 ⟨rfl, rfl⟩
    exact ⟨rfl, Turn.refl _ _⟩
  · refine (show Calls Tryz.prog 32 _ w _ from Any.strings_Join lays156 Builder_Extra_156 b off c xs sep w (fun j x hx => hcell j _ (by simp [hx])) hb hn hc (by rw [size_bs, bs_jn] at hl; exact hl)).mono ?_
    rintro e w1 ⟨rfl, hb⟩
    exact ⟨rfl, Turn.below hb⟩

theorem trim_any (s : ByteArray) (w : World) :
    Calls Tryz.prog 30 #[.string s, .string ⟨#[32]⟩] w fun e w' => e = .returned (.string (mk (Lib.trimLeftB (bs s) 32))) ∧ w = w' := by
  refine (show Calls Tryz.prog 30 _ w _ from Any.strings_TrimLeft_one lays161 s 32 (by decide) w).mono ?_
  rintro e w1 ⟨rfl, rfl⟩
  exact ⟨rfl, rfl⟩

theorem split_any (s sep : ByteArray) (m : Int) (w : World) (hs : s.size < 4294967281) (hm : w.cell? ⟨0, 0, none⟩ = some (.int .i64 m)) (h1 : 1 ≤ sep.size) :
    Calls Tryz.prog 29 #[.string s, .string sep] w fun e w' =>
      e = .returned (.slice (some ⟨w.heap.size, 0, none⟩) (Lib.countB s sep + 1) (Lib.countB s sep + 1)) ∧ w' = w.alloc (.cells ((Lib.splitB sep 0 (Lib.countB s sep) s).map Value.string).toArray 9) :=
  Any.strings_Split lays146 (by kernel_rfl) s sep m w hs hm h1

/-- The table of the powers of ten lies as the program's text lays it. -/
def Pow (w : World) : Prop := Lib.TabIs Tryz.prog w (Rows.showProgramsRow.named.headD default) .u64 Lib.pow10Tab
theorem itoa_any (n : Int) (w : World) (h0 : -9223372036854775808 ≤ n) (h1 : n ≤ 9223372036854775807) (hp : Pow w) :
    Calls Tryz.prog 81 #[.int .i64 n] w fun e w' => e = .returned (.string (mk (Lib.itoa n))) ∧ Turn [] w w' := by
  refine (show Calls Tryz.prog 81 _ w _ from Any.strconv_Itoa laysM171 n h0 h1 w hp).mono ?_
  rintro e w1 ⟨rfl, k, os, rfl⟩
  exact ⟨rfl, ⟨rfl, rfl, rfl, by simp [Sort.grow, World.drewN], fun j hj _ => by simp [Sort.grow, World.drewN, Array.getElem?_append_left hj]⟩⟩
end Go.Proofs.YtoekaehpcjhhaaaGreatDoor
