/- The rows of statements, as plain functions. -/
import Derived.Test.YtoekaehpcjhhaaaGreatDoorPut
set_option linter.unusedSimpArgs false
set_option linter.unusedVariables false
namespace Go.Proofs.YtoekaehpcjhhaaaGreatDoor
open Go.RowKit

/-- What a call's answer is given to. -/
def tgt (x : ByteArray) : ByteArray := if x.size = 0 then ⟨#[]⟩ else x ++ ⟨#[32, 61, 32]⟩
/-- A call's row. -/
def callT (x : ByteArray) (callee ag : List ByteArray) : ByteArray := cat [tgt x, cat callee, ⟨#[40]⟩, jn ag ⟨#[44, 32]⟩, ⟨#[41, 59]⟩]
/-- A return's row. -/
def retT (x : ByteArray) : ByteArray := if x.size = 0 then cat [⟨#[114, 101, 116, 117, 114, 110, 59]⟩] else cat [⟨#[114, 101, 116, 117, 114, 110, 32]⟩, x, ⟨#[59]⟩]
/-- The row of a statement without blocks; none: it is no such. -/
def pl (d : Int) (x y z t f : ByteArray) (ag : List ByteArray) (n : Int) : Option ByteArray :=
  if d = 0 then some (cat [x, ⟨#[32, 61, 32, 110, 101, 119, 32]⟩, t, ⟨#[59]⟩]) else
  if d = 1 then some (cat [x, ⟨#[32, 61, 32, 110, 101, 119, 32]⟩, t, ⟨#[91, 93, 59]⟩]) else
  if d = 2 then some (cat [x, ⟨#[32, 61, 32, 110, 117, 108, 108, 59]⟩]) else
  if d = 3 then some (cat [x, ⟨#[32, 61, 32]⟩, y, ⟨#[59]⟩]) else
  if d = 4 then some (cat [x, ⟨#[32, 61, 32, 40]⟩, t, ⟨#[41, 32]⟩, y, ⟨#[59]⟩]) else
  if d = 5 then some (cat [x, ⟨#[32, 61, 32]⟩, y, ⟨#[46]⟩, f, ⟨#[59]⟩]) else
  if d = 6 then some (cat [x, ⟨#[46]⟩, f, ⟨#[32, 61, 32]⟩, y, ⟨#[59]⟩]) else
  if d = 7 then some (cat [x, ⟨#[32, 61, 32]⟩, t, ⟨#[58, 58]⟩, f, ⟨#[59]⟩]) else
  if d = 8 then some (cat [t, ⟨#[58, 58]⟩, f, ⟨#[32, 61, 32]⟩, y, ⟨#[59]⟩]) else
  if d = 9 then some (cat [x, ⟨#[32, 61, 32]⟩, y, ⟨#[91]⟩, z, ⟨#[93, 59]⟩]) else
  if d = 10 then some (cat [x, ⟨#[91]⟩, z, ⟨#[93, 32, 61, 32]⟩, y, ⟨#[59]⟩]) else
  if d = 11 then some (callT x [y, ⟨#[46]⟩, f] ag) else
  if d = 12 then some (callT x [y, ⟨#[46]⟩, t, ⟨#[58, 58]⟩, f] ag) else
  if d = 13 then some (callT x [t, ⟨#[58, 58]⟩, f] ag) else
  if d = 14 then some (cat [x, ⟨#[32, 61, 32]⟩, mk (Lib.itoa n), ⟨#[59]⟩]) else
  if d = 15 then some (cat [x, ⟨#[32, 61, 32]⟩, y, ⟨#[32, 43, 32]⟩, z, ⟨#[59]⟩]) else
  if d = 16 then some (cat [x, ⟨#[32, 61, 32]⟩, y, ⟨#[32, 45, 32]⟩, z, ⟨#[59]⟩]) else
  if d = 17 then some (cat [x, ⟨#[32, 61, 32, 105, 110, 112, 117, 116, 59]⟩]) else
  if d = 18 then some (cat [⟨#[116, 104, 114, 111, 119, 32]⟩, x, ⟨#[59]⟩]) else
  if d = 22 then some (retT x) else none

def tryT : ByteArray := cat [⟨#[116, 114, 121, 32, 123]⟩]
def catchT (t x : ByteArray) : ByteArray := cat [⟨#[125, 32, 99, 97, 116, 99, 104, 32, 40]⟩, t, ⟨#[32]⟩, x, ⟨#[41, 32, 123]⟩]
def ifT (y z : ByteArray) : ByteArray := cat [⟨#[105, 102, 32, 40]⟩, y, ⟨#[32, 60, 32]⟩, z, ⟨#[41, 32, 123]⟩]
def elseT : ByteArray := cat [⟨#[125, 32, 101, 108, 115, 101, 32, 123]⟩]
def whileT (y z : ByteArray) : ByteArray := cat [⟨#[119, 104, 105, 108, 101, 32, 40]⟩, y, ⟨#[32, 60, 32]⟩, z, ⟨#[41, 32, 123]⟩]
def shutT : ByteArray := cat [⟨#[125]⟩]

mutual
/-- A statement's rows, D braces in. -/
def rw1 (D : Nat) : St → List Row
  | .mk d x y z t f ag n bd ot ln cl =>
    if d = 19 then [(D, tryT)] ++ rwL (D + 1) bd ++ [(D, catchT t x)] ++ rwL (D + 1) ot ++ [(D, shutT)]
    else if d = 20 then [(D, ifT y z)] ++ rwL (D + 1) bd ++ (if ot.length = 0 then [] else [(D, elseT)] ++ rwL (D + 1) ot) ++ [(D, shutT)]
    else if d = 21 then [(D, whileT y z)] ++ rwL (D + 1) bd ++ [(D, shutT)]
    else (pl d x y z t f ag n).toList.map fun s => (D, s)
def rwL (D : Nat) : List St → List Row
  | [] => []
  | s :: l => rw1 D s ++ rwL D l
end
theorem rw1_try {D : Nat} {x y z t f : ByteArray} {ag : List ByteArray} {n : Int} {bd ot : List St} {ln cl : Int} : rw1 D (.mk 19 x y z t f ag n bd ot ln cl) = [(D, tryT)] ++ rwL (D + 1) bd ++ [(D, catchT t x)] ++ rwL (D + 1) ot ++ [(D, shutT)] := by
  rw [rw1]; simp
theorem rw1_if {D : Nat} {x y z t f : ByteArray} {ag : List ByteArray} {n : Int} {bd ot : List St} {ln cl : Int} : rw1 D (.mk 20 x y z t f ag n bd ot ln cl) = [(D, ifT y z)] ++ rwL (D + 1) bd ++ (if ot.length = 0 then [] else [(D, elseT)] ++ rwL (D + 1) ot) ++ [(D, shutT)] := by
  rw [rw1]; simp
theorem rw1_while {D : Nat} {x y z t f : ByteArray} {ag : List ByteArray} {n : Int} {bd ot : List St} {ln cl : Int} : rw1 D (.mk 21 x y z t f ag n bd ot ln cl) = [(D, whileT y z)] ++ rwL (D + 1) bd ++ [(D, shutT)] := by
  rw [rw1]; simp
theorem rw1_plain {D : Nat} {d : Int} {x y z t f : ByteArray} {ag : List ByteArray} {n : Int} {bd ot : List St} {ln cl : Int} (h1 : d ≠ 19) (h2 : d ≠ 20) (h3 : d ≠ 21) : rw1 D (.mk d x y z t f ag n bd ot ln cl) = (pl d x y z t f ag n).toList.map fun s => (D, s) := by
  rw [rw1, if_neg h1, if_neg h2, if_neg h3]
theorem rwL_nil (D : Nat) : rwL D [] = [] := by rw [rwL]
theorem rwL_cons (D : Nat) (s : St) (l : List St) : rwL D (s :: l) = rw1 D s ++ rwL D l := by rw [rwL]
theorem rwL_append (D : Nat) : ∀ (l m : List St), rwL D (l ++ m) = rwL D l ++ rwL D m
  | [], m => by rw [rwL_nil]; rfl
  | s :: l, m => by rw [List.cons_append, rwL_cons, rwL_cons, rwL_append D l m, List.append_assoc]
theorem rwL_one (D : Nat) (s : St) : rwL D [s] = rw1 D s := by rw [rwL_cons, rwL_nil, List.append_nil]

mutual
/-- Names and lists are short. -/
def FtS : St → Prop
  | .mk d x y z t f ag n bd ot ln cl => (-9223372036854775808 ≤ n ∧ n ≤ 9223372036854775807) ∧ (x.size ≤ 1000 ∧ y.size ≤ 1000 ∧ z.size ≤ 1000 ∧ t.size ≤ 1000 ∧ f.size ≤ 1000) ∧ (ag.length ≤ 1000 ∧ ∀ a ∈ ag, a.size ≤ 1000) ∧ FtL bd ∧ FtL ot
def FtL : List St → Prop
  | [] => True
  | s :: l => FtS s ∧ FtL l
end
theorem FtS.parts {d : Int} {x y z t f : ByteArray} {ag : List ByteArray} {n : Int} {bd ot : List St} {ln cl : Int} (h : FtS (.mk d x y z t f ag n bd ot ln cl)) :
    (-9223372036854775808 ≤ n ∧ n ≤ 9223372036854775807) ∧ (x.size ≤ 1000 ∧ y.size ≤ 1000 ∧ z.size ≤ 1000 ∧ t.size ≤ 1000 ∧ f.size ≤ 1000) ∧ (ag.length ≤ 1000 ∧ ∀ a ∈ ag, a.size ≤ 1000) ∧ FtL bd ∧ FtL ot := by
  rw [FtS] at h
  exact h
theorem FtL.at : ∀ {l : List St} {j : Nat} {s : St}, FtL l → l[j]? = some s → FtS s
  | [], j, s, h, hj => by simp at hj
  | u :: l, 0, s, h, hj => by rw [FtL] at h; simp at hj; subst hj; exact h.1
  | u :: l, j + 1, s, h, hj => by rw [FtL] at h; exact FtL.at h.2 (j := j) (by simpa using hj)
theorem size_cat (xs : List ByteArray) : (cat xs).size = (xs.map (·.size)).sum := by
  rw [size_bs, bs_cat, List.length_flatMap]
  congr 1
theorem size_jn_le (ag : List ByteArray) (sep : ByteArray) (k m : Nat) (h : ∀ a ∈ ag, a.size ≤ k) (hs : sep.size ≤ m) : (jn ag sep).size ≤ ag.length * (k + m) := by
  rw [size_bs, bs_jn]
  have key : ∀ l : List (List UInt8), (∀ a ∈ l, a.length ≤ k) → (Lib.join l (bs sep)).length ≤ l.length * (k + m) := by
    intro l
    induction l with
    | nil => intro _; simp [Lib.join_nil]
    | cons a l ih =>
      intro hl
      have ha := hl a (by simp)
      rw [size_bs] at hs
      rw [Lib.join_cons]
      have h2 : (Lib.joinTail (bs sep) l).length ≤ l.length * (k + m) := by
        clear ih
        have hl' : ∀ b ∈ l, b.length ≤ k := fun b hb => hl b (by simp [hb])
        clear hl
        induction l with
        | nil => simp [Lib.joinTail]
        | cons b l ih2 =>
          have hb := hl' b (by simp)
          have := ih2 (fun c hc => hl' c (by simp [hc]))
          unfold Lib.joinTail at this ⊢
          simp only [List.map_cons, List.flatten_cons, List.length_append, List.length_cons, Nat.add_mul, Nat.one_mul] at this ⊢
          omega
      simp only [List.length_append, List.length_cons, Nat.add_mul, Nat.one_mul]
      omega
  have := key (ag.map bs) (by
    intro a ha
    obtain ⟨b, hb, rfl⟩ := List.mem_map.1 ha
    rw [← size_bs]
    exact h b hb)
  simpa using this
end Go.Proofs.YtoekaehpcjhhaaaGreatDoor
