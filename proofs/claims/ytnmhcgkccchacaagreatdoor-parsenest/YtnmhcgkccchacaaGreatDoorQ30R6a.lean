import Derived.Test.YtnmhcgkccchacaaGreatDoorQ00Kit
import Derived.Lib.Join
import Derived.Deep.RegionLaw
import Derived.Deep.RegionHeld3
import Derived.StillTailTactics
import Derived.Laws.IdiomStrings
import Derived.Lib.ItoaLen
import Derived.IntWalk

/- Of the reference that prints (stage 6's texts Lb, Dat, Shp, Tx, Ans, Stm, Rfj, Rfl, Dig, Onx, what is wanted of them; printed by mkr6.py). -/
set_option linter.unusedSimpArgs false
set_option linter.unusedVariables false
set_option maxRecDepth 100000
namespace Go.Proofs.YtnmhcgkccchacaaGreatDoor.R6
open Go.RowKit

def bs (s : ByteArray) : List UInt8 := s.data.toList
def mk (l : List UInt8) : ByteArray := ⟨l.toArray⟩
theorem bs_mk (l : List UInt8) : bs (mk l) = l := by simp [bs, mk]
theorem mk_bs (s : ByteArray) : mk (bs s) = s := by simp [bs, mk]
theorem bs_inj {s t : ByteArray} (h : bs s = bs t) : s = t := by rw [← mk_bs s, ← mk_bs t, h]
theorem bs_append (s t : ByteArray) : bs (s ++ t) = bs s ++ bs t := by simp [bs, ByteArray.data_append]
theorem bs_lit (a : Array UInt8) : bs ⟨a⟩ = a.toList := rfl
theorem size_bs (s : ByteArray) : s.size = (bs s).length := Array.length_toList.symm
theorem ret_str {a b : ByteArray} (h : bs a = bs b) : Ending.returned (.string a) = .returned (.string b) := by rw [bs_inj h]
/-- Texts one behind the other. -/
def cat (xs : List ByteArray) : ByteArray := mk (xs.flatMap bs)
theorem bs_cat (xs : List ByteArray) : bs (cat xs) = xs.flatMap bs := bs_mk _
/-- Texts with something between. -/
def jn (xs : List ByteArray) (sep : ByteArray) : ByteArray := mk (Lib.join (xs.map bs) (bs sep))
theorem bs_jn (xs : List ByteArray) (sep : ByteArray) : bs (jn xs sep) = Lib.join (xs.map bs) (bs sep) := bs_mk _
/-- The slice at A reads as the texts xs. -/
def Sts (w : World) (A : Option Addr) (xs : List ByteArray) : Prop := Rws w 1 A xs.length (xs.map Value.string)
theorem Sts.turn {w w' : World} {A : Option Addr} {xs : List ByteArray} {F : List Nat} (h : Sts w A xs) (t : Turn F w w') (hF : ∀ b off, A = some ⟨b, off, Option.none⟩ → b ∉ F) : Sts w' A xs := Rws.turn h t hF
theorem Sts.turn' {w w' : World} {A : Option Addr} {xs : List ByteArray} (h : Sts w A xs) (t : Turn [] w w') : Sts w' A xs := Rws.turn' h t
theorem Sts.at {w : World} {A : Option Addr} {xs : List ByteArray} (h : Sts w A xs) {j : Nat} {x : ByteArray} (hx : xs[j]? = some x) : ∃ b off, A = some ⟨b, off, none⟩ ∧ b < w.heap.size ∧ w.cell? ⟨b, off + j, none⟩ = some (.string x) := by
  rcases h.2 with h0 | ⟨b, off, rfl, hb, hc⟩
  · have := (List.getElem?_eq_some_iff.1 hx).1
    omega
  · exact ⟨b, off, rfl, hb, hc j _ (by simp [hx])⟩
mutual
/-- The twelve cells cs read ag the statement, all that it leads to in blocks below B. -/
def RdS (B : Nat) (w : World) : List Value → St → Prop
  | cs, .mk d x y z t f ag n bd ot ln cl => ∃ A1 c1 A2 c2 A3 c3, cs = [.int .i64 d, .string x, .string y, .string z, .string t, .string f, .slice A1 ag.length c1, .int .i64 n, .slice A2 bd.length c2, .slice A3 ot.length c3, .int .i64 ln, .int .i64 cl] ∧
      ag.length ≤ c1 ∧ bd.length ≤ c2 ∧ ot.length ≤ c3 ∧ Sts w A1 ag ∧ (∀ b off, A1 = some ⟨b, off, none⟩ → 0 < ag.length → b < B) ∧ RdL B w A2 0 bd ∧ RdL B w A3 0 ot
/-- From its k-th thing on the slice at A reads ag the statements. -/
def RdL (B : Nat) (w : World) (A : Option Addr) (k : Nat) : List St → Prop
  | [] => True
  | s :: l => (∃ b off cs, A = some ⟨b, off, none⟩ ∧ b < B ∧ b < w.heap.size ∧ (∀ j v, cs[j]? = some v → w.cell? ⟨b, off + k * 12 + j, none⟩ = some v) ∧ RdS B w cs s) ∧ RdL B w A (k + 1) l
end
mutual
theorem RdS.turn {B : Nat} {w w' : World} {F : List Nat} (t : Turn F w w') (hF : ∀ g ∈ F, B ≤ g) : ∀ {cs : List Value} {s : St}, RdS B w cs s → RdS B w' cs s
  | cs, .mk d x y z tt f ag n bd ot ln cl, h => by
    unfold RdS at h ⊢
    obtain ⟨A1, c1, A2, c2, A3, c3, e, k1, k2, k3, h1, hb, h2, h3⟩ := h
    refine ⟨A1, c1, A2, c2, A3, c3, e, k1, k2, k3, ?_, hb, RdL.turn t hF bd h2, RdL.turn t hF ot h3⟩
    by_cases h0 : ag.length = 0
    · exact ⟨h1.1, .inl h0⟩
    · exact h1.turn t (fun b off e hg => by have := hb b off e (by omega); have := hF b hg; omega)
theorem RdL.turn {B : Nat} {w w' : World} {F : List Nat} (t : Turn F w w') (hF : ∀ g ∈ F, B ≤ g) {A : Option Addr} {k : Nat} : ∀ (l : List St), RdL B w A k l → RdL B w' A k l
  | [], h => by unfold RdL; trivial
  | s :: l, h => by
    unfold RdL at h ⊢
    obtain ⟨⟨b, off, cs, e, hb, hlt, hc, hs⟩, hl⟩ := h
    refine ⟨⟨b, off, cs, e, hb, Nat.lt_of_lt_of_le hlt t.size, fun j v hv => ?_, RdS.turn t hF hs⟩, RdL.turn t hF l hl⟩
    exact (t.cell (p := ⟨b, off + k * 12 + j, none⟩) hlt (fun hg => by have := hF b hg; omega)).trans (hc j v hv)
end
theorem RdL.at {B : Nat} {w : World} {A : Option Addr} : ∀ {l : List St} {k j : Nat} {s : St}, RdL B w A k l → l[j]? = some s →
    ∃ b off cs, A = some ⟨b, off, none⟩ ∧ b < B ∧ b < w.heap.size ∧ (∀ i v, cs[i]? = some v → w.cell? ⟨b, off + (k + j) * 12 + i, none⟩ = some v) ∧ RdS B w cs s
  | [], k, j, s, h, hj => by simp at hj
  | u :: l, k, 0, s, h, hj => by
    unfold RdL at h
    simp at hj
    subst hj
    exact h.1
  | u :: l, k, j + 1, s, h, hj => by
    unfold RdL at h
    have := RdL.at h.2 (j := j) (s := s) (by simpa using hj)
    rw [show k + (j + 1) = k + 1 + j by omega]
    exact this
/-- A statement's cells. -/
theorem RdS.cells {B : Nat} {w : World} {cs : List Value} {d : Int} {x y z t f : ByteArray} {ag : List ByteArray} {n : Int} {bd ot : List St} {ln cl : Int} (h : RdS B w cs (.mk d x y z t f ag n bd ot ln cl)) :
    ∃ A1 c1 A2 c2 A3 c3, cs = [.int .i64 d, .string x, .string y, .string z, .string t, .string f, .slice A1 ag.length c1, .int .i64 n, .slice A2 bd.length c2, .slice A3 ot.length c3, .int .i64 ln, .int .i64 cl] ∧
      ag.length ≤ c1 ∧ bd.length ≤ c2 ∧ ot.length ≤ c3 ∧ Sts w A1 ag ∧ (∀ b off, A1 = some ⟨b, off, none⟩ → 0 < ag.length → b < B) ∧ RdL B w A2 0 bd ∧ RdL B w A3 0 ot := by
  unfold RdS at h
  exact h
/-- A text that a machine can hold. -/
def Fit (s : ByteArray) : Prop := s.size ≤ 281474976710656
mutual
/-- Numbers and texts are such as there can be. -/
def OkS : St → Prop
  | .mk d x y z t f ag n bd ot ln cl => (-9223372036854775808 ≤ d ∧ d ≤ 9223372036854775807) ∧ (-9223372036854775808 ≤ n ∧ n ≤ 9223372036854775807) ∧ (-9223372036854775808 ≤ ln ∧ ln ≤ 9223372036854775807) ∧ (Fit x ∧ Fit y ∧ Fit z ∧ Fit t ∧ Fit f) ∧ (∀ a ∈ ag, Fit a) ∧ OkL bd ∧ OkL ot
def OkL : List St → Prop
  | [] => True
  | s :: l => OkS s ∧ OkL l
end
theorem OkL.at : ∀ {l : List St} {j : Nat} {s : St}, OkL l → l[j]? = some s → OkS s
  | [], j, s, h, hj => by simp at hj
  | u :: l, 0, s, h, hj => by unfold OkL at h; simp at hj; subst hj; exact h.1
  | u :: l, j + 1, s, h, hj => by unfold OkL at h; exact OkL.at h.2 (j := j) (by simpa using hj)
theorem OkS.parts {d : Int} {x y z t f : ByteArray} {ag : List ByteArray} {n : Int} {bd ot : List St} {ln cl : Int} (h : OkS (.mk d x y z t f ag n bd ot ln cl)) :
    (-9223372036854775808 ≤ d ∧ d ≤ 9223372036854775807) ∧ (-9223372036854775808 ≤ n ∧ n ≤ 9223372036854775807) ∧ (-9223372036854775808 ≤ ln ∧ ln ≤ 9223372036854775807) ∧ (Fit x ∧ Fit y ∧ Fit z ∧ Fit t ∧ Fit f) ∧ (∀ a ∈ ag, Fit a) ∧ OkL bd ∧ OkL ot := by
  unfold OkS at h
  exact h
/-- A row: how many braces it stands in, its text. -/
abbrev Row := Nat × ByteArray
/-- What a call's answer is given to. -/
def tgt (x : ByteArray) : ByteArray := if x.size = 0 then ⟨#[]⟩ else x ++ ⟨#[32, 61, 32]⟩
/-- A call's row. -/
def callT (x : ByteArray) (callee ag : List ByteArray) : ByteArray := cat [tgt x, cat callee, ⟨#[40]⟩, jn ag ⟨#[44, 32]⟩, ⟨#[41, 59]⟩]
/-- A return's row. -/
def retT (x : ByteArray) : ByteArray := if x.size = 0 then cat [⟨#[114, 101, 116, 117, 114, 110, 59]⟩] else cat [⟨#[114, 101, 116, 117, 114, 110, 32]⟩, x, ⟨#[59]⟩]
/-- The row of a statement without blocks; none: it is no such. -/
def pl (d : Int) (x y z t f : ByteArray) (ag : List ByteArray) (n : Int) : Option ByteArray :=
  if d = 0 then some (cat [x, ⟨#[32, 61, 32, 110, 101, 119, 32]⟩, t, ⟨#[59]⟩]) else
  if d = 1 then some (cat [x, ⟨#[32, 61, 32, 110, 101, 119, 32]⟩, t, ⟨#[91, 93, 59]⟩]) else
  if d = 2 then some (cat [x, ⟨#[32, 61, 32, 110, 117, 108, 108, 59]⟩]) else
  if d = 3 then some (cat [x, ⟨#[32, 61, 32]⟩, y, ⟨#[59]⟩]) else
  if d = 4 then some (cat [x, ⟨#[32, 61, 32, 40]⟩, t, ⟨#[41, 32]⟩, y, ⟨#[59]⟩]) else
  if d = 5 then some (cat [x, ⟨#[32, 61, 32]⟩, y, ⟨#[46]⟩, f, ⟨#[59]⟩]) else
  if d = 6 then some (cat [x, ⟨#[46]⟩, f, ⟨#[32, 61, 32]⟩, y, ⟨#[59]⟩]) else
  if d = 7 then some (cat [x, ⟨#[32, 61, 32]⟩, t, ⟨#[58, 58]⟩, f, ⟨#[59]⟩]) else
  if d = 8 then some (cat [t, ⟨#[58, 58]⟩, f, ⟨#[32, 61, 32]⟩, y, ⟨#[59]⟩]) else
  if d = 9 then some (cat [x, ⟨#[32, 61, 32]⟩, y, ⟨#[91]⟩, z, ⟨#[93, 59]⟩]) else
  if d = 10 then some (cat [x, ⟨#[91]⟩, z, ⟨#[93, 32, 61, 32]⟩, y, ⟨#[59]⟩]) else
  if d = 11 then some (callT x [y, ⟨#[46]⟩, f] ag) else
  if d = 12 then some (callT x [y, ⟨#[46]⟩, t, ⟨#[58, 58]⟩, f] ag) else
  if d = 13 then some (callT x [t, ⟨#[58, 58]⟩, f] ag) else
  if d = 14 then some (cat [x, ⟨#[32, 61, 32]⟩, mk (Lib.itoa n), ⟨#[59]⟩]) else
  if d = 15 then some (cat [x, ⟨#[32, 61, 32]⟩, y, ⟨#[32, 43, 32]⟩, z, ⟨#[59]⟩]) else
  if d = 16 then some (cat [x, ⟨#[32, 61, 32]⟩, y, ⟨#[32, 45, 32]⟩, z, ⟨#[59]⟩]) else
  if d = 17 then some (cat [x, ⟨#[32, 61, 32, 105, 110, 112, 117, 116, 59]⟩]) else
  if d = 18 then some (cat [⟨#[116, 104, 114, 111, 119, 32]⟩, x, ⟨#[59]⟩]) else
  if d = 22 then some (retT x) else none
def tryT : ByteArray := cat [⟨#[116, 114, 121, 32, 123]⟩]
def catchT (t x : ByteArray) : ByteArray := cat [⟨#[125, 32, 99, 97, 116, 99, 104, 32, 40]⟩, t, ⟨#[32]⟩, x, ⟨#[41, 32, 123]⟩]
def ifT (y z : ByteArray) : ByteArray := cat [⟨#[105, 102, 32, 40]⟩, y, ⟨#[32, 60, 32]⟩, z, ⟨#[41, 32, 123]⟩]
def elseT : ByteArray := cat [⟨#[125, 32, 101, 108, 115, 101, 32, 123]⟩]
def whileT (y z : ByteArray) : ByteArray := cat [⟨#[119, 104, 105, 108, 101, 32, 40]⟩, y, ⟨#[32, 60, 32]⟩, z, ⟨#[41, 32, 123]⟩]
def shutT : ByteArray := cat [⟨#[125]⟩]
mutual
/-- A statement's rows, D braces in. -/
def rw1 (D : Nat) : St → List Row
  | .mk d x y z t f ag n bd ot ln cl =>
    if d = 19 then [(D, tryT)] ++ rwL (D + 1) bd ++ [(D, catchT t x)] ++ rwL (D + 1) ot ++ [(D, shutT)]
    else if d = 20 then [(D, ifT y z)] ++ rwL (D + 1) bd ++ (if ot.length = 0 then [] else [(D, elseT)] ++ rwL (D + 1) ot) ++ [(D, shutT)]
    else if d = 21 then [(D, whileT y z)] ++ rwL (D + 1) bd ++ [(D, shutT)]
    else (pl d x y z t f ag n).toList.map fun s => (D, s)
def rwL (D : Nat) : List St → List Row
  | [] => []
  | s :: l => rw1 D s ++ rwL D l
end
theorem rw1_try {D : Nat} {x y z t f : ByteArray} {ag : List ByteArray} {n : Int} {bd ot : List St} {ln cl : Int} : rw1 D (.mk 19 x y z t f ag n bd ot ln cl) = [(D, tryT)] ++ rwL (D + 1) bd ++ [(D, catchT t x)] ++ rwL (D + 1) ot ++ [(D, shutT)] := by
  rw [rw1]; simp
theorem rw1_if {D : Nat} {x y z t f : ByteArray} {ag : List ByteArray} {n : Int} {bd ot : List St} {ln cl : Int} : rw1 D (.mk 20 x y z t f ag n bd ot ln cl) = [(D, ifT y z)] ++ rwL (D + 1) bd ++ (if ot.length = 0 then [] else [(D, elseT)] ++ rwL (D + 1) ot) ++ [(D, shutT)] := by
  rw [rw1]; simp
theorem rw1_while {D : Nat} {x y z t f : ByteArray} {ag : List ByteArray} {n : Int} {bd ot : List St} {ln cl : Int} : rw1 D (.mk 21 x y z t f ag n bd ot ln cl) = [(D, whileT y z)] ++ rwL (D + 1) bd ++ [(D, shutT)] := by
  rw [rw1]; simp
theorem rw1_plain {D : Nat} {d : Int} {x y z t f : ByteArray} {ag : List ByteArray} {n : Int} {bd ot : List St} {ln cl : Int} (h1 : d ≠ 19) (h2 : d ≠ 20) (h3 : d ≠ 21) : rw1 D (.mk d x y z t f ag n bd ot ln cl) = (pl d x y z t f ag n).toList.map fun s => (D, s) := by
  rw [rw1, if_neg h1, if_neg h2, if_neg h3]
theorem rwL_nil (D : Nat) : rwL D [] = [] := by rw [rwL]
theorem rwL_cons (D : Nat) (s : St) (l : List St) : rwL D (s :: l) = rw1 D s ++ rwL D l := by rw [rwL]
theorem rwL_append (D : Nat) : ∀ (l m : List St), rwL D (l ++ m) = rwL D l ++ rwL D m
  | [], m => by rw [rwL_nil]; rfl
  | s :: l, m => by rw [List.cons_append, rwL_cons, rwL_cons, rwL_append D l m, List.append_assoc]
theorem rwL_one (D : Nat) (s : St) : rwL D [s] = rw1 D s := by rw [rwL_cons, rwL_nil, List.append_nil]
mutual
/-- Names and lists are short. -/
def FtS : St → Prop
  | .mk d x y z t f ag n bd ot ln cl => (-9223372036854775808 ≤ n ∧ n ≤ 9223372036854775807) ∧ (x.size ≤ 1000 ∧ y.size ≤ 1000 ∧ z.size ≤ 1000 ∧ t.size ≤ 1000 ∧ f.size ≤ 1000) ∧ (ag.length ≤ 1000 ∧ ∀ a ∈ ag, a.size ≤ 1000) ∧ FtL bd ∧ FtL ot
def FtL : List St → Prop
  | [] => True
  | s :: l => FtS s ∧ FtL l
end
theorem FtS.parts {d : Int} {x y z t f : ByteArray} {ag : List ByteArray} {n : Int} {bd ot : List St} {ln cl : Int} (h : FtS (.mk d x y z t f ag n bd ot ln cl)) :
    (-9223372036854775808 ≤ n ∧ n ≤ 9223372036854775807) ∧ (x.size ≤ 1000 ∧ y.size ≤ 1000 ∧ z.size ≤ 1000 ∧ t.size ≤ 1000 ∧ f.size ≤ 1000) ∧ (ag.length ≤ 1000 ∧ ∀ a ∈ ag, a.size ≤ 1000) ∧ FtL bd ∧ FtL ot := by
  rw [FtS] at h
  exact h
theorem FtL.at : ∀ {l : List St} {j : Nat} {s : St}, FtL l → l[j]? = some s → FtS s
  | [], j, s, h, hj => by simp at hj
  | u :: l, 0, s, h, hj => by rw [FtL] at h; simp at hj; subst hj; exact h.1
  | u :: l, j + 1, s, h, hj => by rw [FtL] at h; exact FtL.at h.2 (j := j) (by simpa using hj)
theorem size_cat (xs : List ByteArray) : (cat xs).size = (xs.map (·.size)).sum := by
  rw [size_bs, bs_cat, List.length_flatMap]
  congr 1
theorem size_jn_le (ag : List ByteArray) (sep : ByteArray) (k m : Nat) (h : ∀ a ∈ ag, a.size ≤ k) (hs : sep.size ≤ m) : (jn ag sep).size ≤ ag.length * (k + m) := by
  rw [size_bs, bs_jn]
  have key : ∀ l : List (List UInt8), (∀ a ∈ l, a.length ≤ k) → (Lib.join l (bs sep)).length ≤ l.length * (k + m) := by
    intro l
    induction l with
    | nil => intro _; simp [Lib.join_nil]
    | cons a l ih =>
      intro hl
      have ha := hl a (by simp)
      rw [size_bs] at hs
      rw [Lib.join_cons]
      have h2 : (Lib.joinTail (bs sep) l).length ≤ l.length * (k + m) := by
        clear ih
        have hl' : ∀ b ∈ l, b.length ≤ k := fun b hb => hl b (by simp [hb])
        clear hl
        induction l with
        | nil => simp [Lib.joinTail]
        | cons b l ih2 =>
          have hb := hl' b (by simp)
          have := ih2 (fun c hc => hl' c (by simp [hc]))
          unfold Lib.joinTail at this ⊢
          simp only [List.map_cons, List.flatten_cons, List.length_append, List.length_cons, Nat.add_mul, Nat.one_mul] at this ⊢
          omega
      simp only [List.length_append, List.length_cons, Nat.add_mul, Nat.one_mul]
      omega
  have := key (ag.map bs) (by
    intro a ha
    obtain ⟨b, hb, rfl⟩ := List.mem_map.1 ha
    rw [← size_bs]
    exact h b hb)
  simpa using this
theorem sz_lit (a : Array UInt8) : (⟨a⟩ : ByteArray).size = a.size := rfl
theorem sts_new (w : World) (xs : List ByteArray) (C : Array Value) (hC : C = (xs.map Value.string).toArray) : Sts (w.alloc (.cells C 9)) (some ⟨w.heap.size, 0, none⟩) xs := by
  subst hC
  refine ⟨by simp, .inr ⟨_, 0, rfl, by simp, fun j u hj => ?_⟩⟩
  rw [cell_of_row _ w.heap.size _ _ _ _ (heap_alloc_new w _), Nat.zero_add]
  simpa using hj
theorem toList_inj {a b : ByteArray} (h : a.toList = b.toList) : a = b := by
  rw [ByteArray.toList_eq, ByteArray.toList_eq] at h
  exact bs_inj h
theorem bytes_f {a b : ByteArray} (h : a ≠ b) : (a.toList == b.toList) = false := by
  simpa using fun e => h (toList_inj e)
theorem bytes_eq {s : ByteArray} (h : s.size = 0) : s = ⟨#[]⟩ := by
  apply bs_inj
  have : (bs s).length = 0 := by rw [← size_bs]; exact h
  rw [List.eq_nil_of_length_eq_zero this]
  rfl
theorem bx (w : World) (C : Array Value) (t : TypeId) : Turn [] w (w.alloc (.cells C t)) := (Turn.refl [] w).alloc _
theorem jn_nil (sep : ByteArray) : jn [] sep = ⟨#[]⟩ := rfl
theorem jn_one (x sep : ByteArray) : jn [x] sep = x := by
  apply bs_inj
  rw [bs_jn, List.map_cons, List.map_nil, Lib.join_one]
theorem joinTail_append (sep : List UInt8) (l m : List (List UInt8)) : Lib.joinTail sep (l ++ m) = Lib.joinTail sep l ++ Lib.joinTail sep m := by
  simp [Lib.joinTail]
theorem jn_snoc {l : List ByteArray} (h : l ≠ []) (x sep : ByteArray) : jn (l ++ [x]) sep = jn l sep ++ sep ++ x := by
  apply bs_inj
  cases l with
  | nil => exact absurd rfl h
  | cons a l =>
    rw [bs_append, bs_append, bs_jn, bs_jn, List.map_append, List.map_cons, List.cons_append, Lib.join_cons, Lib.join_cons, joinTail_append]
    simp [Lib.joinTail]
theorem jn_take_le (l : List ByteArray) (k : Nat) (sep : ByteArray) : (jn (l.take k) sep).size ≤ (jn l sep).size := by
  rw [size_bs, size_bs, bs_jn, bs_jn, List.map_take]
  cases l with
  | nil => simp
  | cons a l =>
    cases k with
    | zero => simp [Lib.join_nil]
    | succ k =>
      rw [List.map_cons, List.take_succ_cons, Lib.join_cons, Lib.join_cons]
      conv => rhs; rw [← List.take_append_drop k (l.map bs), joinTail_append]
      simp
theorem jn_succ {l : List ByteArray} {k : Nat} {x : ByteArray} (h : l[k]? = some x) (sep : ByteArray) : jn (l.take (k + 1)) sep = if k = 0 then x else jn (l.take k) sep ++ sep ++ x := by
  rw [take_snoc h]
  by_cases h0 : k = 0
  · rw [if_pos h0]; subst h0; rw [List.take_zero]; exact jn_one x sep
  · rw [if_neg h0]
    refine jn_snoc (fun e => ?_) x sep
    have := (List.getElem?_eq_some_iff.1 h).1
    have h2 : (l.take k).length = 0 := by rw [e]; rfl
    rw [List.length_take] at h2
    omega
theorem size_app (a b : ByteArray) : (a ++ b).size = a.size + b.size := by rw [size_bs, bs_append, List.length_append, ← size_bs, ← size_bs]
theorem ret_s {a b : ByteArray} (h : a = b) : Ending.returned (.string a) = .returned (.string b) := by rw [h]
set_option maxHeartbeats 2000000 in
theorem rjoin_any (A : Option Addr) (c : Nat) (xs : List ByteArray) (sep : ByteArray) (w : World) (h : Sts w A xs) (hn : xs.length ≤ 1000000000) (hl : (jn xs sep).size ≤ 2305843009213693952) :
    Calls Tryz.prog 41 #[.slice A xs.length c, .string sep] w fun e w' => e = .returned (.string (jn xs sep)) ∧ w = w' := by
  have H := Lib.hid h
  obtain ⟨n, hnn⟩ : ∃ n, xs.length = n := ⟨_, rfl⟩
  have HN := Lib.hid hnn
  rw [hnn] at hn ⊢
  clear h hnn
  go_enter Tryz.func41, Tryz.ntmps41
  go_wp2_with fail
  go_loop [5, 6] (fun s i => ∃ (k : Nat) (S : ByteArray), k ≤ n ∧ i = .int .i64 (k : Int) ∧ s = .string S ∧ Hid (S = jn (xs.take k) sep)) (fun _ i => n - (intOf i).toNat)
  case atStart => exact ⟨0, _, Nat.zero_le _, rfl, rfl, Lib.hid rfl⟩
  case round =>
    obtain ⟨k, S, hk, rfl, rfl, HSk⟩ := hrel
    have hS : S.size ≤ 2305843009213693952 := by rw [HSk.out]; exact Nat.le_trans (jn_take_le xs k sep) hl
    by_cases hlt : k < n
    · obtain ⟨x, hx⟩ := at_lt (l := xs) (k := k) (by rw [HN.out]; exact hlt)
      obtain ⟨g, off, rfl, hg, hc⟩ := H.out.at hx
      have hnext := jn_take_le xs (k + 1) sep
      have HX := Lib.hid (jn_succ hx sep)
      by_cases h0 : k = 0
      · have hx1 : x.size ≤ 2305843009213693952 := by rw [HX.out, if_pos h0] at hnext; exact Nat.le_trans hnext hl
        have hS0 : S.size + x.size ≤ 9223372036854775807 := by omega
        have HK0 := Lib.hid h0
        have HS0 : Hid (S ++ x = x) := Lib.hid (by
          rw [HSk.out, h0, List.take_zero, jn_nil]
          apply bs_inj
          rw [bs_append]
          rfl)
        subst h0
        have hc0 : w.cell? ⟨g, off, none⟩ = some (.string x) := hc
        clear hx hnext
        go_wp2_with fail
        go_round
        case rel => exact ⟨1, _, by omega, by go_num, rfl, Lib.hid (by rw [HX.out, if_pos rfl, HS0.out])⟩
        case measure => simp [intOf]; omega
      · have h2 : (S ++ sep).size + x.size ≤ 2305843009213693952 := by
          rw [HX.out, if_neg h0, ← HSk.out, size_app] at hnext
          omega
        have h1 : S.size + sep.size ≤ 2305843009213693952 := by rw [size_app] at h2; omega
        have h1' : S.size + sep.size ≤ 9223372036854775807 := by omega
        have h2' : (S ++ sep).size + x.size ≤ 9223372036854775807 := by omega
        have hk0 : 0 < k := by omega
        have hk0I : (0 : Int) < (k : Int) := by omega
        have H0 := Lib.hid h0
        clear hx hnext h0 h1 h2
        go_wp2_with fail
        go_round
        case rel => exact ⟨k + 1, _, by omega, by go_num, rfl, Lib.hid (by rw [HX.out, if_neg H0.out, ← HSk.out])⟩
        case measure => simp [intOf]; omega
    · go_wp2_with fail
      go_ret
      exact ⟨ret_s (by
        have hkn : k = n := by omega
        rw [HSk.out, hkn, List.take_of_length_le (by rw [HN.out]; exact Nat.le_refl _)]), rfl⟩
theorem to_any (x s : ByteArray) (w : World) (hx : x.size ≤ 1000000) (hs : s.size ≤ 1000000000) :
    Calls Tryz.prog 98 #[.string x, .string s] w fun e w' => e = .returned (.string (tgt x ++ s)) ∧ w = w' := by
  by_cases h0 : x.size = 0
  · obtain rfl := bytes_eq h0
    go_enter Tryz.func98, Tryz.ntmps98
    go_wp2_with fail
    go_ret
    exact ⟨ret_s (by apply bs_inj; rw [bs_append]; rfl), rfl⟩
  · have hb := bytes_ne (fun e : x = ⟨#[]⟩ => h0 (by rw [e]; rfl))
    have h1 : x.size + 3 ≤ 9223372036854775807 := by omega
    have h2 : (x ++ ⟨#[32, 61, 32]⟩).size + s.size ≤ 9223372036854775807 := by rw [size_app, show (⟨#[32, 61, 32]⟩ : ByteArray).size = 3 from rfl]; omega
    have HT : Hid (tgt x = x ++ ⟨#[32, 61, 32]⟩) := Lib.hid (by rw [tgt, if_neg h0])
    clear h0
    go_enter Tryz.func98, Tryz.ntmps98
    go_wp2_with fail
    go_ret
    exact ⟨ret_s (by rw [HT.out]), rfl⟩
/-- The slice v is of the program's own making and holds the texts. -/
def OwnS (w : World) (v : Value) (l : List ByteArray) : Prop := w.ownsRow 0 9 1 v l.length (l.map Value.string)
theorem OwnS.nil (w : World) : OwnS w (.slice none 0 0) [] := World.ownsRow_nil w 0 9 1
/-- It lies in a block from n on. -/
def Nw (n : Nat) (v : Value) : Prop := ∀ g, v.ownBlock = some g → n ≤ g
theorem OwnS.sts {w : World} {A : Option Addr} {m c : Nat} {l : List ByteArray} (h : OwnS w (.slice A m c) l) : m = l.length ∧ l.length ≤ c ∧ Sts w A l := Rws.of_owns h
theorem str_info : (Tryz.prog.info? 9).map (fun i => (i.zero, i.size, i.bytes)) = some (some (.string ⟨#[]⟩), 1, 16) := by kernel_rfl
theorem OwnS.one (w : World) (s : ByteArray) : OwnS (w.alloc (.cells #[.string s] 9)) (.slice (some ⟨w.heap.size, 0, none⟩) 1 1) [s] := World.ownsRow_lit w #[.string s] 1 (Nat.zero_le _) (by simp [maxLen]) rfl
theorem OwnS.turn {w w' : World} {F : List Nat} {v : Value} {l : List ByteArray} (h : OwnS w v l) (t : Turn F w w') (hn : ∀ g, v.ownBlock = some g → g ∉ F) : OwnS w' v l := Turn.owns t h hn
/-- append of texts. -/
theorem wpList_appS {ops : Array Oper} {rest : List Oper} {o : Oper} {a : Act} {Q : Exit → Act → World → Prop} (hgd : o.guard = none) (s x : Operand)
    (ho : o.op = .call { callee := .builtin .append, args := #[s, x], argTypes := #[39, 39] }) (w : World) (v : Value) (l m : List ByteArray) (A : Option Addr) (n c : Nat)
    (hs : a.eval s = v) (hx : a.eval x = .slice A n c) (hown : OwnS w v l) (hm : Sts w A m) (hn : n = m.length) (hl : l.length + m.length ≤ 1000000000)
    (h : ∀ v' w', OwnS w' v' (l ++ m) → Turn v.ownBlock.toList w w' → (∀ k, Nw k v → k ≤ w.heap.size → Nw k v') → wpList Tryz.prog ops Q rest (a.put o.dst v') w') :
    wpList Tryz.prog ops Q (o :: rest) a w := by
  subst hn
  refine wpList_appR hgd s x 39 ho w 9 _ 1 16 Tryz.underlying39 str_info rfl (by omega) v l.length _ hs hown A m.length c _ hx hm ?_ (by simp only [maxLen]; omega) (by omega) ?_
  · intro u hu
    obtain ⟨b, _, rfl⟩ := List.mem_map.1 hu
    rfl
  · intro v' w' h1 h2 h3
    refine h v' w' ?_ h2 (fun k hk hkw => ?_)
    · unfold OwnS
      rw [List.length_append, List.map_append]
      exact h1
    · intro g hg
      rcases h3 with h3 | h3
      · rw [h3] at hg; exact hk g hg
      · rw [h3] at hg; injection hg with hg; omega
def fur (s : ByteArray) : ByteArray := ⟨#[32, 32]⟩ ++ s
set_option maxHeartbeats 2000000 in
theorem further_any (A : Option Addr) (c : Nat) (xs : List ByteArray) (w : World) (h : Sts w A xs) (hn : xs.length ≤ 100000000) (hz : ∀ x ∈ xs, x.size ≤ 1000000000) :
    Calls Tryz.prog 72 #[.slice A xs.length c] w fun e w' => ∃ A' c', e = .returned (.slice A' xs.length c') ∧ OwnS w' (.slice A' xs.length c') (xs.map fur) ∧ Nw w.heap.size (.slice A' xs.length c') ∧ Turn [] w w' := by
  have H := Lib.hid h
  have HZ := Lib.hid hz
  obtain ⟨n, hnn⟩ : ∃ n, xs.length = n := ⟨_, rfl⟩
  have HN := Lib.hid hnn
  rw [hnn] at hn ⊢
  clear h hnn hz
  go_enter Tryz.func72, Tryz.ntmps72
  go_wp2_with fail
  go_loopw [3, 4] (fun v i wr => ∃ k : Nat, k ≤ n ∧ i = .int .i64 (k : Int) ∧ Hid (OwnS wr v ((xs.take k).map fur) ∧ Nw w.heap.size v ∧ Turn [] w wr)) (fun _ i _ => n - (intOf i).toNat)
  case atStart => exact ⟨0, Nat.zero_le _, rfl, Lib.hid ⟨OwnS.nil _, (fun g hg => by cases hg), Turn.refl _ _⟩⟩
  case round =>
    obtain ⟨k, hk, rfl, HR⟩ := hrel
    by_cases hlt : k < n
    · obtain ⟨x, hx⟩ := at_lt (l := xs) (k := k) (by rw [HN.out]; exact hlt)
      obtain ⟨g, off, rfl, hg, hc⟩ := (H.out.turn' HR.out.2.2).at hx
      have hxs : 2 + x.size ≤ 9223372036854775807 := by have := HZ.out x (List.mem_of_getElem? hx); omega
      have HX : Hid ((xs.take (k + 1)).map fur = (xs.take k).map fur ++ [⟨#[32, 32]⟩ ++ x]) := Lib.hid (by rw [take_snoc hx, List.map_append]; rfl)
      have hlk : ((xs.take k).map fur).length = k := by rw [List.length_map, List.length_take, HN.out]; omega
      have HLK := Lib.hid hlk
      clear hx hlk
      go_wp2_with (at_builtin
                   refine wpList_appS rfl (.tmp 11) (.tmp 17) rfl _ u3 ((xs.take k).map fur) [⟨#[32, 32]⟩ ++ x] (some ⟨wr.heap.size, 0, none⟩) 1 1 rfl rfl (HR.out.1.turn (bx wr _ _) (by simp)) (sts_new wr _ _ rfl) rfl (by rw [HLK.out]; simp; omega) ?_
                   intro v1 w1 ho1 ht1 hn1
                   have HO := Lib.hid (And.intro ho1 (And.intro ht1 hn1))
                   clear ho1 ht1 hn1)
      go_roundw
      case rel =>
        refine ⟨k + 1, by omega, by go_num, Lib.hid ⟨?_, ?_, ?_⟩⟩
        · rw [HX.out]; exact HO.out.1
        · exact HO.out.2.2 _ HR.out.2.1 (Nat.le_trans HR.out.2.2.size (bx wr _ _).size)
        · exact (HR.out.2.2.trans' (bx wr _ _)).trans HO.out.2.1 (fun g hg => .inr (HR.out.2.1 g (by simpa using hg)))
      case measure => simp [intOf]; omega
    · have hkn : k = n := by omega
      subst hkn
      have HR2 := HR.out
      rw [List.take_of_length_le (by rw [HN.out]; exact Nat.le_refl _)] at HR2
      obtain ⟨A', c', hv, _, _⟩ := owns_form HR2.1
      rw [List.length_map, HN.out] at hv
      subst hv
      have HR3 := Lib.hid HR2
      clear HR2 HR
      go_wp2_with fail
      go_ret
      exact ⟨A', c', rfl, HR3.out⟩
/-- A row as a line of the text. -/
def ln (r : Row) : ByteArray := mk (List.replicate (2 * r.1) 32 ++ bs r.2)
theorem ln_zero (t : ByteArray) : ln (0, t) = t := by apply bs_inj; unfold ln; rw [bs_mk]; rfl
theorem fur_ln (k : Nat) (t : ByteArray) : fur (ln (k, t)) = ln (k + 1, t) := by
  apply bs_inj
  unfold fur ln
  rw [bs_append, bs_mk, bs_mk, show 2 * ((k + 1, t) : Row).1 = 2 * k + 1 + 1 by simp; omega, List.replicate_succ, List.replicate_succ]
  rfl
mutual
theorem rw1_deep (D : Nat) : ∀ (s : St), (rw1 D s).map (fun r => ((r.1 + 1, r.2) : Row)) = rw1 (D + 1) s
  | .mk d x y z t f ag n bd ot lin cl => by
    have hb := rwL_deep (D + 1) bd
    have ho := rwL_deep (D + 1) ot
    by_cases h19 : d = 19
    · subst h19
      rw [rw1_try, rw1_try]
      simp only [List.map_append, List.map_cons, List.map_nil, hb, ho]
    · by_cases h20 : d = 20
      · subst h20
        rw [rw1_if, rw1_if]
        by_cases h : ot.length = 0
        · simp only [if_pos h, List.map_append, List.map_cons, List.map_nil, hb]
        · simp only [if_neg h, List.map_append, List.map_cons, List.map_nil, hb, ho]
      · by_cases h21 : d = 21
        · subst h21
          rw [rw1_while, rw1_while]
          simp only [List.map_append, List.map_cons, List.map_nil, hb]
        · rw [rw1_plain h19 h20 h21, rw1_plain h19 h20 h21, List.map_map]
          rfl
theorem rwL_deep (D : Nat) : ∀ (l : List St), (rwL D l).map (fun r => ((r.1 + 1, r.2) : Row)) = rwL (D + 1) l
  | [] => by rw [rwL_nil, rwL_nil]; rfl
  | s :: l => by rw [rwL_cons, rwL_cons, List.map_append, rw1_deep D s, rwL_deep D l]
end
theorem fur_rows (D : Nat) (l : List St) : ((rwL D l).map ln).map fur = (rwL (D + 1) l).map ln := by
  rw [← rwL_deep, List.map_map, List.map_map]
  apply List.map_congr_left
  intro r _
  obtain ⟨k, t⟩ := r
  exact fur_ln k t
def digT (n : Int) : ByteArray := mk (Lib.decDigits n.toNat)
theorem digT_small {n : Int} (h0 : 0 ≤ n) (h : n < 10) : digT n = ⟨#[UInt8.ofNat (48 + n.toNat)]⟩ := by
  unfold digT
  rw [Lib.decDigits_one (by omega)]
  rfl
theorem digT_great {n : Int} (h : 10 ≤ n) : digT n = digT (n / 10) ++ digT (n % 10) := by
  apply bs_inj
  unfold digT
  rw [bs_append, bs_mk, bs_mk, bs_mk, Lib.decDigits, dif_neg (by omega), show (n / 10).toNat = n.toNat / 10 by omega, Lib.decDigits_one (i := (n % 10).toNat) (by omega), show (n % 10).toNat = n.toNat % 10 by omega]
theorem digT_size {n : Int} (h0 : 0 ≤ n) (h : n ≤ 9223372036854775808) : (digT n).size ≤ 20 := by
  unfold digT
  rw [size_bs, bs_mk, Lib.decDigits_length]
  exact Lib.nDigits_le20 _ (by omega)
set_option maxRecDepth 20000 in
theorem dig_small (n : Int) (w : World) (h0 : 0 ≤ n) (h : n < 10) :
    Calls Tryz.prog 99 #[.int .i64 n] w fun e w' => e = .returned (.string (digT n)) ∧ Turn [] w w' := by
  have h1 : ¬ n < 0 := by omega
  have hcv : (convert 167 9 (.slice (some ⟨w.heap.size, 0, none⟩) 1 1)).run Tryz.prog (w.alloc (.cells #[.int .u8 (48 + n)] 5)) = .ok (.string ⟨#[UInt8.ofNat (48 + n.toNat)]⟩) (w.alloc (.cells #[.int .u8 (48 + n)] 5)) := by
    have := run_convert_bytes_back (P := Tryz.prog) (w.alloc (.cells #[.int .u8 (48 + n)] 5)) 167 9 5 ⟨w.heap.size, 0, none⟩ 1 [UInt8.ofNat (48 + n.toNat)] Tryz.underlying167 Tryz.underlying5 Tryz.underlying9 (fun j hj => by
      have hj0 : j = 0 := by simp at hj; omega
      subst hj0
      rw [Addr.add_lit, cell_of_row _ w.heap.size _ _ _ _ (heap_alloc_new w _)]
      simp
      omega)
    exact this
  obtain ⟨c, hc⟩ : ∃ c, UInt8.ofNat (48 + n.toNat) = c := ⟨_, rfl⟩
  rw [hc] at hcv
  have HC := Lib.hid hc
  clear hc
  go_enter Tryz.func99, Tryz.ntmps99
  go_wp2_with fail
  go_ret
  exact ⟨ret_s (by rw [digT_small h0 h, HC.out]), bx w _ _⟩
set_option maxRecDepth 20000 in
theorem dig_nat : ∀ (k : Nat) (n : Int) (w : World), n.toNat ≤ k → 0 ≤ n → n ≤ 9223372036854775807 → Calls Tryz.prog 99 #[.int .i64 n] w fun e w' => e = .returned (.string (digT n)) ∧ Turn [] w w'
  | 0, n, w, hk, h0, h => dig_small n w h0 (by omega)
  | k + 1, n, w, hk, h0, h => by
    by_cases hs : n < 10
    · exact dig_small n w h0 hs
    · have h1 : ¬ n < 0 := by omega
      have HA := Lib.hid (dig_nat k (n / 10) w (by omega) (by omega) (by omega))
      have HB := Lib.hid (fun W => dig_small (n % 10) W (by omega) (by omega))
      have hz1 := digT_size (n := n / 10) (by omega) (by omega)
      have hz2 := digT_size (n := n % 10) (by omega) (by omega)
      have hz : (digT (n / 10)).size + (digT (n % 10)).size ≤ 9223372036854775807 := by omega
      have HG := Lib.hid (digT_great (n := n) (by omega))
      clear hz1 hz2
      go_enter Tryz.func99, Tryz.ntmps99
      go_wp2_with fail
      refine HA.out.mono ?_
      rintro e w1 ⟨rfl, t1⟩
      have HT1 := Lib.hid t1
      clear t1
      go_wp2_with fail
      refine (HB.out w1).mono ?_
      rintro e w2 ⟨rfl, t2⟩
      have HT2 := Lib.hid t2
      clear t2
      go_wp2_with fail
      go_ret
      exact ⟨ret_s HG.out.symm, HT1.out.trans' HT2.out⟩
theorem itoa_neg {n : Int} (h : n < 0) : mk (Lib.itoa n) = ⟨#[45]⟩ ++ digT (-n) := by
  apply bs_inj
  unfold digT Lib.itoa
  rw [if_pos h, bs_append, bs_mk, bs_mk, show (-n).toNat = n.natAbs by omega]
  rfl
theorem itoa_pos {n : Int} (h : 0 ≤ n) : mk (Lib.itoa n) = digT n := by
  unfold digT Lib.itoa
  rw [if_neg (by omega)]
set_option maxRecDepth 20000 in
theorem digits_any (n : Int) (w : World) (h0 : -9223372036854775808 ≤ n) (h : n ≤ 9223372036854775807) :
    Calls Tryz.prog 99 #[.int .i64 n] w fun e w' => e = .returned (.string (mk (Lib.itoa n))) ∧ Turn [] w w' := by
  by_cases hn : n < 0
  · have HI := Lib.hid (itoa_neg hn)
    obtain ⟨u, hu⟩ : ∃ u, -n = u := ⟨_, rfl⟩
    obtain rfl : n = -u := by omega
    rw [Int.neg_neg] at HI
    have hu0 : 0 < u := by omega
    have hu1 : u ≤ 9223372036854775808 := by omega
    have hA : IntKind.u64.wrap (-IntKind.u64.wrap (-u)) = u := by
      have e : ∀ m : Int, IntKind.u64.wrap m = m % 18446744073709551616 := fun m => by simp [IntKind.wrap, IntKind.bits, IntKind.signed]
      rw [e, e]
      omega
    have hq : IntKind.u64.wrap (u.tdiv 10) = u / 10 := IntWalk.u64_quo u 10 (by omega)
    have hr : u.tmod 10 = u % 10 := IntWalk.rem_in u 10 (by omega)
    have hz0 := digT_size (n := u) (by omega) (by omega)
    clear hu h0 h hn
    by_cases hs : u < 10
    · have HA := Lib.hid (dig_small u w (by omega) hs)
      have hz : 1 + (digT u).size ≤ 9223372036854775807 := by omega
      have hi : wrap64 u = u := by unfold wrap64; omega
      clear hz0
      go_enter Tryz.func99, Tryz.ntmps99
      go_wp2_with fail
      refine HA.out.mono ?_
      rintro e w1 ⟨rfl, t1⟩
      have HT1 := Lib.hid t1
      clear t1
      go_wp2_with fail
      go_ret
      exact ⟨ret_s HI.out.symm, HT1.out⟩
    · have HA := Lib.hid (dig_nat (u / 10).toNat (u / 10) w (Nat.le_refl _) (by omega) (by omega))
      have HB := Lib.hid (fun W => dig_small (u % 10) W (by omega) (by omega))
      have hz1 := digT_size (n := u / 10) (by omega) (by omega)
      have hz2 := digT_size (n := u % 10) (by omega) (by omega)
      have hz : 1 + (digT (u / 10)).size ≤ 9223372036854775807 := by omega
      have hzz : (⟨#[45]⟩ ++ digT (u / 10)).size + (digT (u % 10)).size ≤ 9223372036854775807 := by rw [size_app, show (⟨#[45]⟩ : ByteArray).size = 1 from rfl]; omega
      have HG := Lib.hid (digT_great (n := u) (by omega))
      have hi : wrap64 (u / 10) = u / 10 := by unfold wrap64; omega
      have hi2 : wrap64 (u % 10) = u % 10 := by unfold wrap64; omega
      have hi3 : IntKind.u64.wrap (u % 10) = u % 10 := IntWalk.u64_in _ (by omega)
      clear hz1 hz2 hz0
      go_enter Tryz.func99, Tryz.ntmps99
      go_wp2_with fail
      refine HA.out.mono ?_
      rintro e w1 ⟨rfl, t1⟩
      have HT1 := Lib.hid t1
      clear t1
      go_wp2_with fail
      refine (HB.out w1).mono ?_
      rintro e w2 ⟨rfl, t2⟩
      have HT2 := Lib.hid t2
      clear t2
      go_wp2_with fail
      go_ret
      exact ⟨ret_s (by rw [HI.out, HG.out]; apply bs_inj; simp only [bs_append, List.append_assoc]), HT1.out.trans' HT2.out⟩
  · rw [itoa_pos (by omega)]
    exact dig_nat n.toNat n w (Nat.le_refl _) (by omega) h
theorem add_run (a b : ByteArray) (h : a.size + b.size ≤ 9223372036854775807) : ∀ W : World, (Op.stringOp .add a b).run Tryz.prog W = .ok (.string (a ++ b)) W := fun W => run_string_add_sum (P := Tryz.prog) W a b h
theorem jn_sz (ag : List ByteArray) (ha : ag.length ≤ 1000 ∧ ∀ a ∈ ag, a.size ≤ 1000) : (jn ag ⟨#[44, 32]⟩).size ≤ 2000000 := by
  have := size_jn_le ag ⟨#[44, 32]⟩ 1000 2 ha.2 (by decide)
  have h3 : ag.length * (1000 + 2) ≤ 1000 * 1002 := Nat.mul_le_mul ha.1 (by omega)
  omega
end Go.Proofs.YtnmhcgkccchacaaGreatDoor.R6

/- Of the reference that prints (stage 6's texts Ona, what is wanted of them; printed by mkr6.py). -/
set_option linter.unusedSimpArgs false
set_option linter.unusedVariables false
set_option maxRecDepth 100000
namespace Go.Proofs.YtnmhcgkccchacaaGreatDoor.R6
open Go.RowKit

set_option maxHeartbeats 2000000 in
set_option maxRecDepth 100000 in
theorem one_0 (x y z t f : ByteArray) (ag : List ByteArray) (n : Int) (A1 A3 A4 : Option Addr) (c1 l3 c3 l4 c4 : Nat) (ln cl : Int) (w : World) (hs : x.size ≤ 1000 ∧ y.size ≤ 1000 ∧ z.size ≤ 1000 ∧ t.size ≤ 1000 ∧ f.size ≤ 1000) (ha : ag.length ≤ 1000 ∧ ∀ a ∈ ag, a.size ≤ 1000) (h1 : Sts w A1 ag) :
    Calls Tryz.prog 74 #[.agg #[.int .i64 0, .string x, .string y, .string z, .string t, .string f, .slice A1 ag.length c1, .int .i64 n, .slice A3 l3 c3, .slice A4 l4 c4, .int .i64 ln, .int .i64 cl]] w fun e w' => e = .returned (.string (cat [x, ⟨#[32, 61, 32, 110, 101, 119, 32]⟩, t, ⟨#[59]⟩])) ∧ Turn [] w w' := by
  obtain ⟨hx, hy, hz, ht, hf⟩ := hs
  have hjs : (jn ag ⟨#[44, 32]⟩).size ≤ 2000000 := jn_sz ag ha
  have HJ : Hid (∀ W, Sts W A1 ag → Calls Tryz.prog 41 #[.slice A1 ag.length c1, .string ⟨#[44, 32]⟩] W fun e w' => e = .returned (.string (jn ag ⟨#[44, 32]⟩)) ∧ W = w') := Lib.hid (fun W hW => rjoin_any A1 c1 ag ⟨#[44, 32]⟩ W hW (by omega) (by omega))
  obtain ⟨J, hJ⟩ : ∃ J, jn ag ⟨#[44, 32]⟩ = J := ⟨_, rfl⟩
  rw [hJ] at HJ hjs
  have HJJ := Lib.hid hJ
  have H1 := Lib.hid h1
  have b1 := add_run f ⟨#[40]⟩ (by rw [show (⟨#[40]⟩ : ByteArray).size = 1 from rfl]; omega)
  have b2 := add_run (f ++ ⟨#[40]⟩) J (by rw [size_app, show (⟨#[40]⟩ : ByteArray).size = 1 from rfl]; omega)
  have b3 := add_run (f ++ ⟨#[40]⟩ ++ J) ⟨#[41, 59]⟩ (by rw [size_app, size_app, show (⟨#[40]⟩ : ByteArray).size = 1 from rfl, show (⟨#[41, 59]⟩ : ByteArray).size = 2 from rfl]; omega)
  have d2 : x.size + 7 ≤ 9223372036854775807 := by omega
  have d3 : x.size + 7 + t.size ≤ 9223372036854775807 := by omega
  have d4 : x.size + 7 + t.size + 1 ≤ 9223372036854775807 := by omega
  clear hJ ha h1
  go_enter Tryz.func74, Tryz.ntmps74
  go_wp2_with fail
  obtain ⟨W, hW⟩ : ∃ W, w.alloc (.cells #[.int .i64 0, .string x, .string y, .string z, .string t, .string f, .slice A1 ag.length c1, .int .i64 n, .slice A3 l3 c3, .slice A4 l4 c4, .int .i64 ln, .int .i64 cl] 41) = W := ⟨_, rfl⟩
  have hg : W.heap[w.heap.size]? = some (.cells #[.int .i64 0, .string x, .string y, .string z, .string t, .string f, .slice A1 ag.length c1, .int .i64 n, .slice A3 l3 c3, .slice A4 l4 c4, .int .i64 ln, .int .i64 cl] 41 (0, 0)) := by rw [← hW]; exact heap_alloc_new w _
  have HT : Hid (Turn [] w W) := Lib.hid (by rw [← hW]; exact (Turn.refl [] w).alloc _)
  rw [hW]
  have e0 : W.cell? ⟨w.heap.size, 0, none⟩ = some (.int .i64 0) := cell_of_row W _ 0 _ _ _ hg
  have e1 : W.cell? ⟨w.heap.size, 1, none⟩ = some (.string x) := cell_of_row W _ 1 _ _ _ hg
  have e2 : W.cell? ⟨w.heap.size, 2, none⟩ = some (.string y) := cell_of_row W _ 2 _ _ _ hg
  have e3 : W.cell? ⟨w.heap.size, 3, none⟩ = some (.string z) := cell_of_row W _ 3 _ _ _ hg
  have e4 : W.cell? ⟨w.heap.size, 4, none⟩ = some (.string t) := cell_of_row W _ 4 _ _ _ hg
  have e5 : W.cell? ⟨w.heap.size, 5, none⟩ = some (.string f) := cell_of_row W _ 5 _ _ _ hg
  have e6 : W.cell? ⟨w.heap.size, 6, none⟩ = some (.slice A1 ag.length c1) := cell_of_row W _ 6 _ _ _ hg
  have e7 : W.cell? ⟨w.heap.size, 7, none⟩ = some (.int .i64 n) := cell_of_row W _ 7 _ _ _ hg
  have hgl : w.heap.size < W.heap.size := (Array.getElem?_eq_some_iff.1 hg).1
  clear hW hg
  go_region_held3 (fun w' => w'.cell? ⟨w.heap.size, 5, none⟩ = some (.string f) ∧ w'.cell? ⟨w.heap.size, 6, none⟩ = some (.slice A1 ag.length c1))
    (first | exact ⟨e5, e6⟩ | go_keep)
    (first
      | (go_at_call 41; (with_reducible refine (HJ.out _ (by exact H1.out.turn' HT.out.drew)).mono ?_); rintro e w2 ⟨rfl, rfl⟩))
  go_wp2_with fail
  go_ret
  exact ⟨ret_str (by simp only [bs_append, bs_cat, List.flatMap_cons, List.flatMap_nil, List.append_assoc, List.append_nil]), HT.out.drew⟩
set_option maxHeartbeats 2000000 in
set_option maxRecDepth 100000 in
theorem one_1 (x y z t f : ByteArray) (ag : List ByteArray) (n : Int) (A1 A3 A4 : Option Addr) (c1 l3 c3 l4 c4 : Nat) (ln cl : Int) (w : World) (hs : x.size ≤ 1000 ∧ y.size ≤ 1000 ∧ z.size ≤ 1000 ∧ t.size ≤ 1000 ∧ f.size ≤ 1000) (ha : ag.length ≤ 1000 ∧ ∀ a ∈ ag, a.size ≤ 1000) (h1 : Sts w A1 ag) :
    Calls Tryz.prog 74 #[.agg #[.int .i64 1, .string x, .string y, .string z, .string t, .string f, .slice A1 ag.length c1, .int .i64 n, .slice A3 l3 c3, .slice A4 l4 c4, .int .i64 ln, .int .i64 cl]] w fun e w' => e = .returned (.string (cat [x, ⟨#[32, 61, 32, 110, 101, 119, 32]⟩, t, ⟨#[91, 93, 59]⟩])) ∧ Turn [] w w' := by
  obtain ⟨hx, hy, hz, ht, hf⟩ := hs
  have hjs : (jn ag ⟨#[44, 32]⟩).size ≤ 2000000 := jn_sz ag ha
  have HJ : Hid (∀ W, Sts W A1 ag → Calls Tryz.prog 41 #[.slice A1 ag.length c1, .string ⟨#[44, 32]⟩] W fun e w' => e = .returned (.string (jn ag ⟨#[44, 32]⟩)) ∧ W = w') := Lib.hid (fun W hW => rjoin_any A1 c1 ag ⟨#[44, 32]⟩ W hW (by omega) (by omega))
  obtain ⟨J, hJ⟩ : ∃ J, jn ag ⟨#[44, 32]⟩ = J := ⟨_, rfl⟩
  rw [hJ] at HJ hjs
  have HJJ := Lib.hid hJ
  have H1 := Lib.hid h1
  have b1 := add_run f ⟨#[40]⟩ (by rw [show (⟨#[40]⟩ : ByteArray).size = 1 from rfl]; omega)
  have b2 := add_run (f ++ ⟨#[40]⟩) J (by rw [size_app, show (⟨#[40]⟩ : ByteArray).size = 1 from rfl]; omega)
  have b3 := add_run (f ++ ⟨#[40]⟩ ++ J) ⟨#[41, 59]⟩ (by rw [size_app, size_app, show (⟨#[40]⟩ : ByteArray).size = 1 from rfl, show (⟨#[41, 59]⟩ : ByteArray).size = 2 from rfl]; omega)
  have d2 : x.size + 7 ≤ 9223372036854775807 := by omega
  have d3 : x.size + 7 + t.size ≤ 9223372036854775807 := by omega
  have d4 : x.size + 7 + t.size + 3 ≤ 9223372036854775807 := by omega
  clear hJ ha h1
  go_enter Tryz.func74, Tryz.ntmps74
  go_wp2_with fail
  obtain ⟨W, hW⟩ : ∃ W, w.alloc (.cells #[.int .i64 1, .string x, .string y, .string z, .string t, .string f, .slice A1 ag.length c1, .int .i64 n, .slice A3 l3 c3, .slice A4 l4 c4, .int .i64 ln, .int .i64 cl] 41) = W := ⟨_, rfl⟩
  have hg : W.heap[w.heap.size]? = some (.cells #[.int .i64 1, .string x, .string y, .string z, .string t, .string f, .slice A1 ag.length c1, .int .i64 n, .slice A3 l3 c3, .slice A4 l4 c4, .int .i64 ln, .int .i64 cl] 41 (0, 0)) := by rw [← hW]; exact heap_alloc_new w _
  have HT : Hid (Turn [] w W) := Lib.hid (by rw [← hW]; exact (Turn.refl [] w).alloc _)
  rw [hW]
  have e0 : W.cell? ⟨w.heap.size, 0, none⟩ = some (.int .i64 1) := cell_of_row W _ 0 _ _ _ hg
  have e1 : W.cell? ⟨w.heap.size, 1, none⟩ = some (.string x) := cell_of_row W _ 1 _ _ _ hg
  have e2 : W.cell? ⟨w.heap.size, 2, none⟩ = some (.string y) := cell_of_row W _ 2 _ _ _ hg
  have e3 : W.cell? ⟨w.heap.size, 3, none⟩ = some (.string z) := cell_of_row W _ 3 _ _ _ hg
  have e4 : W.cell? ⟨w.heap.size, 4, none⟩ = some (.string t) := cell_of_row W _ 4 _ _ _ hg
  have e5 : W.cell? ⟨w.heap.size, 5, none⟩ = some (.string f) := cell_of_row W _ 5 _ _ _ hg
  have e6 : W.cell? ⟨w.heap.size, 6, none⟩ = some (.slice A1 ag.length c1) := cell_of_row W _ 6 _ _ _ hg
  have e7 : W.cell? ⟨w.heap.size, 7, none⟩ = some (.int .i64 n) := cell_of_row W _ 7 _ _ _ hg
  have hgl : w.heap.size < W.heap.size := (Array.getElem?_eq_some_iff.1 hg).1
  clear hW hg
  go_region_held3 (fun w' => w'.cell? ⟨w.heap.size, 5, none⟩ = some (.string f) ∧ w'.cell? ⟨w.heap.size, 6, none⟩ = some (.slice A1 ag.length c1))
    (first | exact ⟨e5, e6⟩ | go_keep)
    (first
      | (go_at_call 41; (with_reducible refine (HJ.out _ (by exact H1.out.turn' HT.out.drew)).mono ?_); rintro e w2 ⟨rfl, rfl⟩))
  go_wp2_with fail
  go_ret
  exact ⟨ret_str (by simp only [bs_append, bs_cat, List.flatMap_cons, List.flatMap_nil, List.append_assoc, List.append_nil]), HT.out.drew⟩
set_option maxHeartbeats 2000000 in
set_option maxRecDepth 100000 in
theorem one_2 (x y z t f : ByteArray) (ag : List ByteArray) (n : Int) (A1 A3 A4 : Option Addr) (c1 l3 c3 l4 c4 : Nat) (ln cl : Int) (w : World) (hs : x.size ≤ 1000 ∧ y.size ≤ 1000 ∧ z.size ≤ 1000 ∧ t.size ≤ 1000 ∧ f.size ≤ 1000) (ha : ag.length ≤ 1000 ∧ ∀ a ∈ ag, a.size ≤ 1000) (h1 : Sts w A1 ag) :
    Calls Tryz.prog 74 #[.agg #[.int .i64 2, .string x, .string y, .string z, .string t, .string f, .slice A1 ag.length c1, .int .i64 n, .slice A3 l3 c3, .slice A4 l4 c4, .int .i64 ln, .int .i64 cl]] w fun e w' => e = .returned (.string (cat [x, ⟨#[32, 61, 32, 110, 117, 108, 108, 59]⟩])) ∧ Turn [] w w' := by
  obtain ⟨hx, hy, hz, ht, hf⟩ := hs
  have hjs : (jn ag ⟨#[44, 32]⟩).size ≤ 2000000 := jn_sz ag ha
  have HJ : Hid (∀ W, Sts W A1 ag → Calls Tryz.prog 41 #[.slice A1 ag.length c1, .string ⟨#[44, 32]⟩] W fun e w' => e = .returned (.string (jn ag ⟨#[44, 32]⟩)) ∧ W = w') := Lib.hid (fun W hW => rjoin_any A1 c1 ag ⟨#[44, 32]⟩ W hW (by omega) (by omega))
  obtain ⟨J, hJ⟩ : ∃ J, jn ag ⟨#[44, 32]⟩ = J := ⟨_, rfl⟩
  rw [hJ] at HJ hjs
  have HJJ := Lib.hid hJ
  have H1 := Lib.hid h1
  have b1 := add_run f ⟨#[40]⟩ (by rw [show (⟨#[40]⟩ : ByteArray).size = 1 from rfl]; omega)
  have b2 := add_run (f ++ ⟨#[40]⟩) J (by rw [size_app, show (⟨#[40]⟩ : ByteArray).size = 1 from rfl]; omega)
  have b3 := add_run (f ++ ⟨#[40]⟩ ++ J) ⟨#[41, 59]⟩ (by rw [size_app, size_app, show (⟨#[40]⟩ : ByteArray).size = 1 from rfl, show (⟨#[41, 59]⟩ : ByteArray).size = 2 from rfl]; omega)
  have d2 : x.size + 8 ≤ 9223372036854775807 := by omega
  clear hJ ha h1
  go_enter Tryz.func74, Tryz.ntmps74
  go_wp2_with fail
  obtain ⟨W, hW⟩ : ∃ W, w.alloc (.cells #[.int .i64 2, .string x, .string y, .string z, .string t, .string f, .slice A1 ag.length c1, .int .i64 n, .slice A3 l3 c3, .slice A4 l4 c4, .int .i64 ln, .int .i64 cl] 41) = W := ⟨_, rfl⟩
  have hg : W.heap[w.heap.size]? = some (.cells #[.int .i64 2, .string x, .string y, .string z, .string t, .string f, .slice A1 ag.length c1, .int .i64 n, .slice A3 l3 c3, .slice A4 l4 c4, .int .i64 ln, .int .i64 cl] 41 (0, 0)) := by rw [← hW]; exact heap_alloc_new w _
  have HT : Hid (Turn [] w W) := Lib.hid (by rw [← hW]; exact (Turn.refl [] w).alloc _)
  rw [hW]
  have e0 : W.cell? ⟨w.heap.size, 0, none⟩ = some (.int .i64 2) := cell_of_row W _ 0 _ _ _ hg
  have e1 : W.cell? ⟨w.heap.size, 1, none⟩ = some (.string x) := cell_of_row W _ 1 _ _ _ hg
  have e2 : W.cell? ⟨w.heap.size, 2, none⟩ = some (.string y) := cell_of_row W _ 2 _ _ _ hg
  have e3 : W.cell? ⟨w.heap.size, 3, none⟩ = some (.string z) := cell_of_row W _ 3 _ _ _ hg
  have e4 : W.cell? ⟨w.heap.size, 4, none⟩ = some (.string t) := cell_of_row W _ 4 _ _ _ hg
  have e5 : W.cell? ⟨w.heap.size, 5, none⟩ = some (.string f) := cell_of_row W _ 5 _ _ _ hg
  have e6 : W.cell? ⟨w.heap.size, 6, none⟩ = some (.slice A1 ag.length c1) := cell_of_row W _ 6 _ _ _ hg
  have e7 : W.cell? ⟨w.heap.size, 7, none⟩ = some (.int .i64 n) := cell_of_row W _ 7 _ _ _ hg
  have hgl : w.heap.size < W.heap.size := (Array.getElem?_eq_some_iff.1 hg).1
  clear hW hg
  go_region_held3 (fun w' => w'.cell? ⟨w.heap.size, 5, none⟩ = some (.string f) ∧ w'.cell? ⟨w.heap.size, 6, none⟩ = some (.slice A1 ag.length c1))
    (first | exact ⟨e5, e6⟩ | go_keep)
    (first
      | (go_at_call 41; (with_reducible refine (HJ.out _ (by exact H1.out.turn' HT.out.drew)).mono ?_); rintro e w2 ⟨rfl, rfl⟩))
  go_wp2_with fail
  go_ret
  exact ⟨ret_str (by simp only [bs_append, bs_cat, List.flatMap_cons, List.flatMap_nil, List.append_assoc, List.append_nil]), HT.out.drew⟩
set_option maxHeartbeats 2000000 in
set_option maxRecDepth 100000 in
theorem one_3 (x y z t f : ByteArray) (ag : List ByteArray) (n : Int) (A1 A3 A4 : Option Addr) (c1 l3 c3 l4 c4 : Nat) (ln cl : Int) (w : World) (hs : x.size ≤ 1000 ∧ y.size ≤ 1000 ∧ z.size ≤ 1000 ∧ t.size ≤ 1000 ∧ f.size ≤ 1000) (ha : ag.length ≤ 1000 ∧ ∀ a ∈ ag, a.size ≤ 1000) (h1 : Sts w A1 ag) :
    Calls Tryz.prog 74 #[.agg #[.int .i64 3, .string x, .string y, .string z, .string t, .string f, .slice A1 ag.length c1, .int .i64 n, .slice A3 l3 c3, .slice A4 l4 c4, .int .i64 ln, .int .i64 cl]] w fun e w' => e = .returned (.string (cat [x, ⟨#[32, 61, 32]⟩, y, ⟨#[59]⟩])) ∧ Turn [] w w' := by
  obtain ⟨hx, hy, hz, ht, hf⟩ := hs
  have hjs : (jn ag ⟨#[44, 32]⟩).size ≤ 2000000 := jn_sz ag ha
  have HJ : Hid (∀ W, Sts W A1 ag → Calls Tryz.prog 41 #[.slice A1 ag.length c1, .string ⟨#[44, 32]⟩] W fun e w' => e = .returned (.string (jn ag ⟨#[44, 32]⟩)) ∧ W = w') := Lib.hid (fun W hW => rjoin_any A1 c1 ag ⟨#[44, 32]⟩ W hW (by omega) (by omega))
  obtain ⟨J, hJ⟩ : ∃ J, jn ag ⟨#[44, 32]⟩ = J := ⟨_, rfl⟩
  rw [hJ] at HJ hjs
  have HJJ := Lib.hid hJ
  have H1 := Lib.hid h1
  have b1 := add_run f ⟨#[40]⟩ (by rw [show (⟨#[40]⟩ : ByteArray).size = 1 from rfl]; omega)
  have b2 := add_run (f ++ ⟨#[40]⟩) J (by rw [size_app, show (⟨#[40]⟩ : ByteArray).size = 1 from rfl]; omega)
  have b3 := add_run (f ++ ⟨#[40]⟩ ++ J) ⟨#[41, 59]⟩ (by rw [size_app, size_app, show (⟨#[40]⟩ : ByteArray).size = 1 from rfl, show (⟨#[41, 59]⟩ : ByteArray).size = 2 from rfl]; omega)
  have d2 : x.size + 3 ≤ 9223372036854775807 := by omega
  have d3 : x.size + 3 + y.size ≤ 9223372036854775807 := by omega
  have d4 : x.size + 3 + y.size + 1 ≤ 9223372036854775807 := by omega
  clear hJ ha h1
  go_enter Tryz.func74, Tryz.ntmps74
  go_wp2_with fail
  obtain ⟨W, hW⟩ : ∃ W, w.alloc (.cells #[.int .i64 3, .string x, .string y, .string z, .string t, .string f, .slice A1 ag.length c1, .int .i64 n, .slice A3 l3 c3, .slice A4 l4 c4, .int .i64 ln, .int .i64 cl] 41) = W := ⟨_, rfl⟩
  have hg : W.heap[w.heap.size]? = some (.cells #[.int .i64 3, .string x, .string y, .string z, .string t, .string f, .slice A1 ag.length c1, .int .i64 n, .slice A3 l3 c3, .slice A4 l4 c4, .int .i64 ln, .int .i64 cl] 41 (0, 0)) := by rw [← hW]; exact heap_alloc_new w _
  have HT : Hid (Turn [] w W) := Lib.hid (by rw [← hW]; exact (Turn.refl [] w).alloc _)
  rw [hW]
  have e0 : W.cell? ⟨w.heap.size, 0, none⟩ = some (.int .i64 3) := cell_of_row W _ 0 _ _ _ hg
  have e1 : W.cell? ⟨w.heap.size, 1, none⟩ = some (.string x) := cell_of_row W _ 1 _ _ _ hg
  have e2 : W.cell? ⟨w.heap.size, 2, none⟩ = some (.string y) := cell_of_row W _ 2 _ _ _ hg
  have e3 : W.cell? ⟨w.heap.size, 3, none⟩ = some (.string z) := cell_of_row W _ 3 _ _ _ hg
  have e4 : W.cell? ⟨w.heap.size, 4, none⟩ = some (.string t) := cell_of_row W _ 4 _ _ _ hg
  have e5 : W.cell? ⟨w.heap.size, 5, none⟩ = some (.string f) := cell_of_row W _ 5 _ _ _ hg
  have e6 : W.cell? ⟨w.heap.size, 6, none⟩ = some (.slice A1 ag.length c1) := cell_of_row W _ 6 _ _ _ hg
  have e7 : W.cell? ⟨w.heap.size, 7, none⟩ = some (.int .i64 n) := cell_of_row W _ 7 _ _ _ hg
  have hgl : w.heap.size < W.heap.size := (Array.getElem?_eq_some_iff.1 hg).1
  clear hW hg
  go_region_held3 (fun w' => w'.cell? ⟨w.heap.size, 5, none⟩ = some (.string f) ∧ w'.cell? ⟨w.heap.size, 6, none⟩ = some (.slice A1 ag.length c1))
    (first | exact ⟨e5, e6⟩ | go_keep)
    (first
      | (go_at_call 41; (with_reducible refine (HJ.out _ (by exact H1.out.turn' HT.out.drew)).mono ?_); rintro e w2 ⟨rfl, rfl⟩))
  go_wp2_with fail
  go_ret
  exact ⟨ret_str (by simp only [bs_append, bs_cat, List.flatMap_cons, List.flatMap_nil, List.append_assoc, List.append_nil]), HT.out.drew⟩
set_option maxHeartbeats 2000000 in
set_option maxRecDepth 100000 in
theorem one_4 (x y z t f : ByteArray) (ag : List ByteArray) (n : Int) (A1 A3 A4 : Option Addr) (c1 l3 c3 l4 c4 : Nat) (ln cl : Int) (w : World) (hs : x.size ≤ 1000 ∧ y.size ≤ 1000 ∧ z.size ≤ 1000 ∧ t.size ≤ 1000 ∧ f.size ≤ 1000) (ha : ag.length ≤ 1000 ∧ ∀ a ∈ ag, a.size ≤ 1000) (h1 : Sts w A1 ag) :
    Calls Tryz.prog 74 #[.agg #[.int .i64 4, .string x, .string y, .string z, .string t, .string f, .slice A1 ag.length c1, .int .i64 n, .slice A3 l3 c3, .slice A4 l4 c4, .int .i64 ln, .int .i64 cl]] w fun e w' => e = .returned (.string (cat [x, ⟨#[32, 61, 32, 40]⟩, t, ⟨#[41, 32]⟩, y, ⟨#[59]⟩])) ∧ Turn [] w w' := by
  obtain ⟨hx, hy, hz, ht, hf⟩ := hs
  have hjs : (jn ag ⟨#[44, 32]⟩).size ≤ 2000000 := jn_sz ag ha
  have HJ : Hid (∀ W, Sts W A1 ag → Calls Tryz.prog 41 #[.slice A1 ag.length c1, .string ⟨#[44, 32]⟩] W fun e w' => e = .returned (.string (jn ag ⟨#[44, 32]⟩)) ∧ W = w') := Lib.hid (fun W hW => rjoin_any A1 c1 ag ⟨#[44, 32]⟩ W hW (by omega) (by omega))
  obtain ⟨J, hJ⟩ : ∃ J, jn ag ⟨#[44, 32]⟩ = J := ⟨_, rfl⟩
  rw [hJ] at HJ hjs
  have HJJ := Lib.hid hJ
  have H1 := Lib.hid h1
  have b1 := add_run f ⟨#[40]⟩ (by rw [show (⟨#[40]⟩ : ByteArray).size = 1 from rfl]; omega)
  have b2 := add_run (f ++ ⟨#[40]⟩) J (by rw [size_app, show (⟨#[40]⟩ : ByteArray).size = 1 from rfl]; omega)
  have b3 := add_run (f ++ ⟨#[40]⟩ ++ J) ⟨#[41, 59]⟩ (by rw [size_app, size_app, show (⟨#[40]⟩ : ByteArray).size = 1 from rfl, show (⟨#[41, 59]⟩ : ByteArray).size = 2 from rfl]; omega)
  have d2 : x.size + 4 ≤ 9223372036854775807 := by omega
  have d3 : x.size + 4 + t.size ≤ 9223372036854775807 := by omega
  have d4 : x.size + 4 + t.size + 2 ≤ 9223372036854775807 := by omega
  have d5 : x.size + 4 + t.size + 2 + y.size ≤ 9223372036854775807 := by omega
  have d6 : x.size + 4 + t.size + 2 + y.size + 1 ≤ 9223372036854775807 := by omega
  clear hJ ha h1
  go_enter Tryz.func74, Tryz.ntmps74
  go_wp2_with fail
  obtain ⟨W, hW⟩ : ∃ W, w.alloc (.cells #[.int .i64 4, .string x, .string y, .string z, .string t, .string f, .slice A1 ag.length c1, .int .i64 n, .slice A3 l3 c3, .slice A4 l4 c4, .int .i64 ln, .int .i64 cl] 41) = W := ⟨_, rfl⟩
  have hg : W.heap[w.heap.size]? = some (.cells #[.int .i64 4, .string x, .string y, .string z, .string t, .string f, .slice A1 ag.length c1, .int .i64 n, .slice A3 l3 c3, .slice A4 l4 c4, .int .i64 ln, .int .i64 cl] 41 (0, 0)) := by rw [← hW]; exact heap_alloc_new w _
  have HT : Hid (Turn [] w W) := Lib.hid (by rw [← hW]; exact (Turn.refl [] w).alloc _)
  rw [hW]
  have e0 : W.cell? ⟨w.heap.size, 0, none⟩ = some (.int .i64 4) := cell_of_row W _ 0 _ _ _ hg
  have e1 : W.cell? ⟨w.heap.size, 1, none⟩ = some (.string x) := cell_of_row W _ 1 _ _ _ hg
  have e2 : W.cell? ⟨w.heap.size, 2, none⟩ = some (.string y) := cell_of_row W _ 2 _ _ _ hg
  have e3 : W.cell? ⟨w.heap.size, 3, none⟩ = some (.string z) := cell_of_row W _ 3 _ _ _ hg
  have e4 : W.cell? ⟨w.heap.size, 4, none⟩ = some (.string t) := cell_of_row W _ 4 _ _ _ hg
  have e5 : W.cell? ⟨w.heap.size, 5, none⟩ = some (.string f) := cell_of_row W _ 5 _ _ _ hg
  have e6 : W.cell? ⟨w.heap.size, 6, none⟩ = some (.slice A1 ag.length c1) := cell_of_row W _ 6 _ _ _ hg
  have e7 : W.cell? ⟨w.heap.size, 7, none⟩ = some (.int .i64 n) := cell_of_row W _ 7 _ _ _ hg
  have hgl : w.heap.size < W.heap.size := (Array.getElem?_eq_some_iff.1 hg).1
  clear hW hg
  go_region_held3 (fun w' => w'.cell? ⟨w.heap.size, 5, none⟩ = some (.string f) ∧ w'.cell? ⟨w.heap.size, 6, none⟩ = some (.slice A1 ag.length c1))
    (first | exact ⟨e5, e6⟩ | go_keep)
    (first
      | (go_at_call 41; (with_reducible refine (HJ.out _ (by exact H1.out.turn' HT.out.drew)).mono ?_); rintro e w2 ⟨rfl, rfl⟩))
  go_wp2_with fail
  go_ret
  exact ⟨ret_str (by simp only [bs_append, bs_cat, List.flatMap_cons, List.flatMap_nil, List.append_assoc, List.append_nil]), HT.out.drew⟩
end Go.Proofs.YtnmhcgkccchacaaGreatDoor.R6

/- Of the reference that prints (stage 6's texts Onb, what is wanted of them; printed by mkr6.py). -/
set_option linter.unusedSimpArgs false
set_option linter.unusedVariables false
set_option maxRecDepth 100000
namespace Go.Proofs.YtnmhcgkccchacaaGreatDoor.R6
open Go.RowKit

set_option maxHeartbeats 2000000 in
set_option maxRecDepth 100000 in
theorem one_5 (x y z t f : ByteArray) (ag : List ByteArray) (n : Int) (A1 A3 A4 : Option Addr) (c1 l3 c3 l4 c4 : Nat) (ln cl : Int) (w : World) (hs : x.size ≤ 1000 ∧ y.size ≤ 1000 ∧ z.size ≤ 1000 ∧ t.size ≤ 1000 ∧ f.size ≤ 1000) (ha : ag.length ≤ 1000 ∧ ∀ a ∈ ag, a.size ≤ 1000) (h1 : Sts w A1 ag) :
    Calls Tryz.prog 74 #[.agg #[.int .i64 5, .string x, .string y, .string z, .string t, .string f, .slice A1 ag.length c1, .int .i64 n, .slice A3 l3 c3, .slice A4 l4 c4, .int .i64 ln, .int .i64 cl]] w fun e w' => e = .returned (.string (cat [x, ⟨#[32, 61, 32]⟩, y, ⟨#[46]⟩, f, ⟨#[59]⟩])) ∧ Turn [] w w' := by
  obtain ⟨hx, hy, hz, ht, hf⟩ := hs
  have hjs : (jn ag ⟨#[44, 32]⟩).size ≤ 2000000 := jn_sz ag ha
  have HJ : Hid (∀ W, Sts W A1 ag → Calls Tryz.prog 41 #[.slice A1 ag.length c1, .string ⟨#[44, 32]⟩] W fun e w' => e = .returned (.string (jn ag ⟨#[44, 32]⟩)) ∧ W = w') := Lib.hid (fun W hW => rjoin_any A1 c1 ag ⟨#[44, 32]⟩ W hW (by omega) (by omega))
  obtain ⟨J, hJ⟩ : ∃ J, jn ag ⟨#[44, 32]⟩ = J := ⟨_, rfl⟩
  rw [hJ] at HJ hjs
  have HJJ := Lib.hid hJ
  have H1 := Lib.hid h1
  have b1 := add_run f ⟨#[40]⟩ (by rw [show (⟨#[40]⟩ : ByteArray).size = 1 from rfl]; omega)
  have b2 := add_run (f ++ ⟨#[40]⟩) J (by rw [size_app, show (⟨#[40]⟩ : ByteArray).size = 1 from rfl]; omega)
  have b3 := add_run (f ++ ⟨#[40]⟩ ++ J) ⟨#[41, 59]⟩ (by rw [size_app, size_app, show (⟨#[40]⟩ : ByteArray).size = 1 from rfl, show (⟨#[41, 59]⟩ : ByteArray).size = 2 from rfl]; omega)
  have d2 : x.size + 3 ≤ 9223372036854775807 := by omega
  have d3 : x.size + 3 + y.size ≤ 9223372036854775807 := by omega
  have d4 : x.size + 3 + y.size + 1 ≤ 9223372036854775807 := by omega
  have d5 : x.size + 3 + y.size + 1 + f.size ≤ 9223372036854775807 := by omega
  have d6 : x.size + 3 + y.size + 1 + f.size + 1 ≤ 9223372036854775807 := by omega
  clear hJ ha h1
  go_enter Tryz.func74, Tryz.ntmps74
  go_wp2_with fail
  obtain ⟨W, hW⟩ : ∃ W, w.alloc (.cells #[.int .i64 5, .string x, .string y, .string z, .string t, .string f, .slice A1 ag.length c1, .int .i64 n, .slice A3 l3 c3, .slice A4 l4 c4, .int .i64 ln, .int .i64 cl] 41) = W := ⟨_, rfl⟩
  have hg : W.heap[w.heap.size]? = some (.cells #[.int .i64 5, .string x, .string y, .string z, .string t, .string f, .slice A1 ag.length c1, .int .i64 n, .slice A3 l3 c3, .slice A4 l4 c4, .int .i64 ln, .int .i64 cl] 41 (0, 0)) := by rw [← hW]; exact heap_alloc_new w _
  have HT : Hid (Turn [] w W) := Lib.hid (by rw [← hW]; exact (Turn.refl [] w).alloc _)
  rw [hW]
  have e0 : W.cell? ⟨w.heap.size, 0, none⟩ = some (.int .i64 5) := cell_of_row W _ 0 _ _ _ hg
  have e1 : W.cell? ⟨w.heap.size, 1, none⟩ = some (.string x) := cell_of_row W _ 1 _ _ _ hg
  have e2 : W.cell? ⟨w.heap.size, 2, none⟩ = some (.string y) := cell_of_row W _ 2 _ _ _ hg
  have e3 : W.cell? ⟨w.heap.size, 3, none⟩ = some (.string z) := cell_of_row W _ 3 _ _ _ hg
  have e4 : W.cell? ⟨w.heap.size, 4, none⟩ = some (.string t) := cell_of_row W _ 4 _ _ _ hg
  have e5 : W.cell? ⟨w.heap.size, 5, none⟩ = some (.string f) := cell_of_row W _ 5 _ _ _ hg
  have e6 : W.cell? ⟨w.heap.size, 6, none⟩ = some (.slice A1 ag.length c1) := cell_of_row W _ 6 _ _ _ hg
  have e7 : W.cell? ⟨w.heap.size, 7, none⟩ = some (.int .i64 n) := cell_of_row W _ 7 _ _ _ hg
  have hgl : w.heap.size < W.heap.size := (Array.getElem?_eq_some_iff.1 hg).1
  clear hW hg
  go_region_held3 (fun w' => w'.cell? ⟨w.heap.size, 5, none⟩ = some (.string f) ∧ w'.cell? ⟨w.heap.size, 6, none⟩ = some (.slice A1 ag.length c1))
    (first | exact ⟨e5, e6⟩ | go_keep)
    (first
      | (go_at_call 41; (with_reducible refine (HJ.out _ (by exact H1.out.turn' HT.out.drew)).mono ?_); rintro e w2 ⟨rfl, rfl⟩))
  go_wp2_with fail
  go_ret
  exact ⟨ret_str (by simp only [bs_append, bs_cat, List.flatMap_cons, List.flatMap_nil, List.append_assoc, List.append_nil]), HT.out.drew⟩
set_option maxHeartbeats 2000000 in
set_option maxRecDepth 100000 in
theorem one_6 (x y z t f : ByteArray) (ag : List ByteArray) (n : Int) (A1 A3 A4 : Option Addr) (c1 l3 c3 l4 c4 : Nat) (ln cl : Int) (w : World) (hs : x.size ≤ 1000 ∧ y.size ≤ 1000 ∧ z.size ≤ 1000 ∧ t.size ≤ 1000 ∧ f.size ≤ 1000) (ha : ag.length ≤ 1000 ∧ ∀ a ∈ ag, a.size ≤ 1000) (h1 : Sts w A1 ag) :
    Calls Tryz.prog 74 #[.agg #[.int .i64 6, .string x, .string y, .string z, .string t, .string f, .slice A1 ag.length c1, .int .i64 n, .slice A3 l3 c3, .slice A4 l4 c4, .int .i64 ln, .int .i64 cl]] w fun e w' => e = .returned (.string (cat [x, ⟨#[46]⟩, f, ⟨#[32, 61, 32]⟩, y, ⟨#[59]⟩])) ∧ Turn [] w w' := by
  obtain ⟨hx, hy, hz, ht, hf⟩ := hs
  have hjs : (jn ag ⟨#[44, 32]⟩).size ≤ 2000000 := jn_sz ag ha
  have HJ : Hid (∀ W, Sts W A1 ag → Calls Tryz.prog 41 #[.slice A1 ag.length c1, .string ⟨#[44, 32]⟩] W fun e w' => e = .returned (.string (jn ag ⟨#[44, 32]⟩)) ∧ W = w') := Lib.hid (fun W hW => rjoin_any A1 c1 ag ⟨#[44, 32]⟩ W hW (by omega) (by omega))
  obtain ⟨J, hJ⟩ : ∃ J, jn ag ⟨#[44, 32]⟩ = J := ⟨_, rfl⟩
  rw [hJ] at HJ hjs
  have HJJ := Lib.hid hJ
  have H1 := Lib.hid h1
  have b1 := add_run f ⟨#[40]⟩ (by rw [show (⟨#[40]⟩ : ByteArray).size = 1 from rfl]; omega)
  have b2 := add_run (f ++ ⟨#[40]⟩) J (by rw [size_app, show (⟨#[40]⟩ : ByteArray).size = 1 from rfl]; omega)
  have b3 := add_run (f ++ ⟨#[40]⟩ ++ J) ⟨#[41, 59]⟩ (by rw [size_app, size_app, show (⟨#[40]⟩ : ByteArray).size = 1 from rfl, show (⟨#[41, 59]⟩ : ByteArray).size = 2 from rfl]; omega)
  have d2 : x.size + 1 ≤ 9223372036854775807 := by omega
  have d3 : x.size + 1 + f.size ≤ 9223372036854775807 := by omega
  have d4 : x.size + 1 + f.size + 3 ≤ 9223372036854775807 := by omega
  have d5 : x.size + 1 + f.size + 3 + y.size ≤ 9223372036854775807 := by omega
  have d6 : x.size + 1 + f.size + 3 + y.size + 1 ≤ 9223372036854775807 := by omega
  clear hJ ha h1
  go_enter Tryz.func74, Tryz.ntmps74
  go_wp2_with fail
  obtain ⟨W, hW⟩ : ∃ W, w.alloc (.cells #[.int .i64 6, .string x, .string y, .string z, .string t, .string f, .slice A1 ag.length c1, .int .i64 n, .slice A3 l3 c3, .slice A4 l4 c4, .int .i64 ln, .int .i64 cl] 41) = W := ⟨_, rfl⟩
  have hg : W.heap[w.heap.size]? = some (.cells #[.int .i64 6, .string x, .string y, .string z, .string t, .string f, .slice A1 ag.length c1, .int .i64 n, .slice A3 l3 c3, .slice A4 l4 c4, .int .i64 ln, .int .i64 cl] 41 (0, 0)) := by rw [← hW]; exact heap_alloc_new w _
  have HT : Hid (Turn [] w W) := Lib.hid (by rw [← hW]; exact (Turn.refl [] w).alloc _)
  rw [hW]
  have e0 : W.cell? ⟨w.heap.size, 0, none⟩ = some (.int .i64 6) := cell_of_row W _ 0 _ _ _ hg
  have e1 : W.cell? ⟨w.heap.size, 1, none⟩ = some (.string x) := cell_of_row W _ 1 _ _ _ hg
  have e2 : W.cell? ⟨w.heap.size, 2, none⟩ = some (.string y) := cell_of_row W _ 2 _ _ _ hg
  have e3 : W.cell? ⟨w.heap.size, 3, none⟩ = some (.string z) := cell_of_row W _ 3 _ _ _ hg
  have e4 : W.cell? ⟨w.heap.size, 4, none⟩ = some (.string t) := cell_of_row W _ 4 _ _ _ hg
  have e5 : W.cell? ⟨w.heap.size, 5, none⟩ = some (.string f) := cell_of_row W _ 5 _ _ _ hg
  have e6 : W.cell? ⟨w.heap.size, 6, none⟩ = some (.slice A1 ag.length c1) := cell_of_row W _ 6 _ _ _ hg
  have e7 : W.cell? ⟨w.heap.size, 7, none⟩ = some (.int .i64 n) := cell_of_row W _ 7 _ _ _ hg
  have hgl : w.heap.size < W.heap.size := (Array.getElem?_eq_some_iff.1 hg).1
  clear hW hg
  go_region_held3 (fun w' => w'.cell? ⟨w.heap.size, 5, none⟩ = some (.string f) ∧ w'.cell? ⟨w.heap.size, 6, none⟩ = some (.slice A1 ag.length c1))
    (first | exact ⟨e5, e6⟩ | go_keep)
    (first
      | (go_at_call 41; (with_reducible refine (HJ.out _ (by exact H1.out.turn' HT.out.drew)).mono ?_); rintro e w2 ⟨rfl, rfl⟩))
  go_wp2_with fail
  go_ret
  exact ⟨ret_str (by simp only [bs_append, bs_cat, List.flatMap_cons, List.flatMap_nil, List.append_assoc, List.append_nil]), HT.out.drew⟩
set_option maxHeartbeats 2000000 in
set_option maxRecDepth 100000 in
theorem one_7 (x y z t f : ByteArray) (ag : List ByteArray) (n : Int) (A1 A3 A4 : Option Addr) (c1 l3 c3 l4 c4 : Nat) (ln cl : Int) (w : World) (hs : x.size ≤ 1000 ∧ y.size ≤ 1000 ∧ z.size ≤ 1000 ∧ t.size ≤ 1000 ∧ f.size ≤ 1000) (ha : ag.length ≤ 1000 ∧ ∀ a ∈ ag, a.size ≤ 1000) (h1 : Sts w A1 ag) :
    Calls Tryz.prog 74 #[.agg #[.int .i64 7, .string x, .string y, .string z, .string t, .string f, .slice A1 ag.length c1, .int .i64 n, .slice A3 l3 c3, .slice A4 l4 c4, .int .i64 ln, .int .i64 cl]] w fun e w' => e = .returned (.string (cat [x, ⟨#[32, 61, 32]⟩, t, ⟨#[58, 58]⟩, f, ⟨#[59]⟩])) ∧ Turn [] w w' := by
  obtain ⟨hx, hy, hz, ht, hf⟩ := hs
  have hjs : (jn ag ⟨#[44, 32]⟩).size ≤ 2000000 := jn_sz ag ha
  have HJ : Hid (∀ W, Sts W A1 ag → Calls Tryz.prog 41 #[.slice A1 ag.length c1, .string ⟨#[44, 32]⟩] W fun e w' => e = .returned (.string (jn ag ⟨#[44, 32]⟩)) ∧ W = w') := Lib.hid (fun W hW => rjoin_any A1 c1 ag ⟨#[44, 32]⟩ W hW (by omega) (by omega))
  obtain ⟨J, hJ⟩ : ∃ J, jn ag ⟨#[44, 32]⟩ = J := ⟨_, rfl⟩
  rw [hJ] at HJ hjs
  have HJJ := Lib.hid hJ
  have H1 := Lib.hid h1
  have b1 := add_run f ⟨#[40]⟩ (by rw [show (⟨#[40]⟩ : ByteArray).size = 1 from rfl]; omega)
  have b2 := add_run (f ++ ⟨#[40]⟩) J (by rw [size_app, show (⟨#[40]⟩ : ByteArray).size = 1 from rfl]; omega)
  have b3 := add_run (f ++ ⟨#[40]⟩ ++ J) ⟨#[41, 59]⟩ (by rw [size_app, size_app, show (⟨#[40]⟩ : ByteArray).size = 1 from rfl, show (⟨#[41, 59]⟩ : ByteArray).size = 2 from rfl]; omega)
  have d2 : x.size + 3 ≤ 9223372036854775807 := by omega
  have d3 : x.size + 3 + t.size ≤ 9223372036854775807 := by omega
  have d4 : x.size + 3 + t.size + 2 ≤ 9223372036854775807 := by omega
  have d5 : x.size + 3 + t.size + 2 + f.size ≤ 9223372036854775807 := by omega
  have d6 : x.size + 3 + t.size + 2 + f.size + 1 ≤ 9223372036854775807 := by omega
  clear hJ ha h1
  go_enter Tryz.func74, Tryz.ntmps74
  go_wp2_with fail
  obtain ⟨W, hW⟩ : ∃ W, w.alloc (.cells #[.int .i64 7, .string x, .string y, .string z, .string t, .string f, .slice A1 ag.length c1, .int .i64 n, .slice A3 l3 c3, .slice A4 l4 c4, .int .i64 ln, .int .i64 cl] 41) = W := ⟨_, rfl⟩
  have hg : W.heap[w.heap.size]? = some (.cells #[.int .i64 7, .string x, .string y, .string z, .string t, .string f, .slice A1 ag.length c1, .int .i64 n, .slice A3 l3 c3, .slice A4 l4 c4, .int .i64 ln, .int .i64 cl] 41 (0, 0)) := by rw [← hW]; exact heap_alloc_new w _
  have HT : Hid (Turn [] w W) := Lib.hid (by rw [← hW]; exact (Turn.refl [] w).alloc _)
  rw [hW]
  have e0 : W.cell? ⟨w.heap.size, 0, none⟩ = some (.int .i64 7) := cell_of_row W _ 0 _ _ _ hg
  have e1 : W.cell? ⟨w.heap.size, 1, none⟩ = some (.string x) := cell_of_row W _ 1 _ _ _ hg
  have e2 : W.cell? ⟨w.heap.size, 2, none⟩ = some (.string y) := cell_of_row W _ 2 _ _ _ hg
  have e3 : W.cell? ⟨w.heap.size, 3, none⟩ = some (.string z) := cell_of_row W _ 3 _ _ _ hg
  have e4 : W.cell? ⟨w.heap.size, 4, none⟩ = some (.string t) := cell_of_row W _ 4 _ _ _ hg
  have e5 : W.cell? ⟨w.heap.size, 5, none⟩ = some (.string f) := cell_of_row W _ 5 _ _ _ hg
  have e6 : W.cell? ⟨w.heap.size, 6, none⟩ = some (.slice A1 ag.length c1) := cell_of_row W _ 6 _ _ _ hg
  have e7 : W.cell? ⟨w.heap.size, 7, none⟩ = some (.int .i64 n) := cell_of_row W _ 7 _ _ _ hg
  have hgl : w.heap.size < W.heap.size := (Array.getElem?_eq_some_iff.1 hg).1
  clear hW hg
  go_region_held3 (fun w' => w'.cell? ⟨w.heap.size, 5, none⟩ = some (.string f) ∧ w'.cell? ⟨w.heap.size, 6, none⟩ = some (.slice A1 ag.length c1))
    (first | exact ⟨e5, e6⟩ | go_keep)
    (first
      | (go_at_call 41; (with_reducible refine (HJ.out _ (by exact H1.out.turn' HT.out.drew)).mono ?_); rintro e w2 ⟨rfl, rfl⟩))
  go_wp2_with fail
  go_ret
  exact ⟨ret_str (by simp only [bs_append, bs_cat, List.flatMap_cons, List.flatMap_nil, List.append_assoc, List.append_nil]), HT.out.drew⟩
set_option maxHeartbeats 2000000 in
set_option maxRecDepth 100000 in
theorem one_8 (x y z t f : ByteArray) (ag : List ByteArray) (n : Int) (A1 A3 A4 : Option Addr) (c1 l3 c3 l4 c4 : Nat) (ln cl : Int) (w : World) (hs : x.size ≤ 1000 ∧ y.size ≤ 1000 ∧ z.size ≤ 1000 ∧ t.size ≤ 1000 ∧ f.size ≤ 1000) (ha : ag.length ≤ 1000 ∧ ∀ a ∈ ag, a.size ≤ 1000) (h1 : Sts w A1 ag) :
    Calls Tryz.prog 74 #[.agg #[.int .i64 8, .string x, .string y, .string z, .string t, .string f, .slice A1 ag.length c1, .int .i64 n, .slice A3 l3 c3, .slice A4 l4 c4, .int .i64 ln, .int .i64 cl]] w fun e w' => e = .returned (.string (cat [t, ⟨#[58, 58]⟩, f, ⟨#[32, 61, 32]⟩, y, ⟨#[59]⟩])) ∧ Turn [] w w' := by
  obtain ⟨hx, hy, hz, ht, hf⟩ := hs
  have hjs : (jn ag ⟨#[44, 32]⟩).size ≤ 2000000 := jn_sz ag ha
  have HJ : Hid (∀ W, Sts W A1 ag → Calls Tryz.prog 41 #[.slice A1 ag.length c1, .string ⟨#[44, 32]⟩] W fun e w' => e = .returned (.string (jn ag ⟨#[44, 32]⟩)) ∧ W = w') := Lib.hid (fun W hW => rjoin_any A1 c1 ag ⟨#[44, 32]⟩ W hW (by omega) (by omega))
  obtain ⟨J, hJ⟩ : ∃ J, jn ag ⟨#[44, 32]⟩ = J := ⟨_, rfl⟩
  rw [hJ] at HJ hjs
  have HJJ := Lib.hid hJ
  have H1 := Lib.hid h1
  have b1 := add_run f ⟨#[40]⟩ (by rw [show (⟨#[40]⟩ : ByteArray).size = 1 from rfl]; omega)
  have b2 := add_run (f ++ ⟨#[40]⟩) J (by rw [size_app, show (⟨#[40]⟩ : ByteArray).size = 1 from rfl]; omega)
  have b3 := add_run (f ++ ⟨#[40]⟩ ++ J) ⟨#[41, 59]⟩ (by rw [size_app, size_app, show (⟨#[40]⟩ : ByteArray).size = 1 from rfl, show (⟨#[41, 59]⟩ : ByteArray).size = 2 from rfl]; omega)
  have d2 : t.size + 2 ≤ 9223372036854775807 := by omega
  have d3 : t.size + 2 + f.size ≤ 9223372036854775807 := by omega
  have d4 : t.size + 2 + f.size + 3 ≤ 9223372036854775807 := by omega
  have d5 : t.size + 2 + f.size + 3 + y.size ≤ 9223372036854775807 := by omega
  have d6 : t.size + 2 + f.size + 3 + y.size + 1 ≤ 9223372036854775807 := by omega
  clear hJ ha h1
  go_enter Tryz.func74, Tryz.ntmps74
  go_wp2_with fail
  obtain ⟨W, hW⟩ : ∃ W, w.alloc (.cells #[.int .i64 8, .string x, .string y, .string z, .string t, .string f, .slice A1 ag.length c1, .int .i64 n, .slice A3 l3 c3, .slice A4 l4 c4, .int .i64 ln, .int .i64 cl] 41) = W := ⟨_, rfl⟩
  have hg : W.heap[w.heap.size]? = some (.cells #[.int .i64 8, .string x, .string y, .string z, .string t, .string f, .slice A1 ag.length c1, .int .i64 n, .slice A3 l3 c3, .slice A4 l4 c4, .int .i64 ln, .int .i64 cl] 41 (0, 0)) := by rw [← hW]; exact heap_alloc_new w _
  have HT : Hid (Turn [] w W) := Lib.hid (by rw [← hW]; exact (Turn.refl [] w).alloc _)
  rw [hW]
  have e0 : W.cell? ⟨w.heap.size, 0, none⟩ = some (.int .i64 8) := cell_of_row W _ 0 _ _ _ hg
  have e1 : W.cell? ⟨w.heap.size, 1, none⟩ = some (.string x) := cell_of_row W _ 1 _ _ _ hg
  have e2 : W.cell? ⟨w.heap.size, 2, none⟩ = some (.string y) := cell_of_row W _ 2 _ _ _ hg
  have e3 : W.cell? ⟨w.heap.size, 3, none⟩ = some (.string z) := cell_of_row W _ 3 _ _ _ hg
  have e4 : W.cell? ⟨w.heap.size, 4, none⟩ = some (.string t) := cell_of_row W _ 4 _ _ _ hg
  have e5 : W.cell? ⟨w.heap.size, 5, none⟩ = some (.string f) := cell_of_row W _ 5 _ _ _ hg
  have e6 : W.cell? ⟨w.heap.size, 6, none⟩ = some (.slice A1 ag.length c1) := cell_of_row W _ 6 _ _ _ hg
  have e7 : W.cell? ⟨w.heap.size, 7, none⟩ = some (.int .i64 n) := cell_of_row W _ 7 _ _ _ hg
  have hgl : w.heap.size < W.heap.size := (Array.getElem?_eq_some_iff.1 hg).1
  clear hW hg
  go_region_held3 (fun w' => w'.cell? ⟨w.heap.size, 5, none⟩ = some (.string f) ∧ w'.cell? ⟨w.heap.size, 6, none⟩ = some (.slice A1 ag.length c1))
    (first | exact ⟨e5, e6⟩ | go_keep)
    (first
      | (go_at_call 41; (with_reducible refine (HJ.out _ (by exact H1.out.turn' HT.out.drew)).mono ?_); rintro e w2 ⟨rfl, rfl⟩))
  go_wp2_with fail
  go_ret
  exact ⟨ret_str (by simp only [bs_append, bs_cat, List.flatMap_cons, List.flatMap_nil, List.append_assoc, List.append_nil]), HT.out.drew⟩
set_option maxHeartbeats 2000000 in
set_option maxRecDepth 100000 in
theorem one_9 (x y z t f : ByteArray) (ag : List ByteArray) (n : Int) (A1 A3 A4 : Option Addr) (c1 l3 c3 l4 c4 : Nat) (ln cl : Int) (w : World) (hs : x.size ≤ 1000 ∧ y.size ≤ 1000 ∧ z.size ≤ 1000 ∧ t.size ≤ 1000 ∧ f.size ≤ 1000) (ha : ag.length ≤ 1000 ∧ ∀ a ∈ ag, a.size ≤ 1000) (h1 : Sts w A1 ag) :
    Calls Tryz.prog 74 #[.agg #[.int .i64 9, .string x, .string y, .string z, .string t, .string f, .slice A1 ag.length c1, .int .i64 n, .slice A3 l3 c3, .slice A4 l4 c4, .int .i64 ln, .int .i64 cl]] w fun e w' => e = .returned (.string (cat [x, ⟨#[32, 61, 32]⟩, y, ⟨#[91]⟩, z, ⟨#[93, 59]⟩])) ∧ Turn [] w w' := by
  obtain ⟨hx, hy, hz, ht, hf⟩ := hs
  have hjs : (jn ag ⟨#[44, 32]⟩).size ≤ 2000000 := jn_sz ag ha
  have HJ : Hid (∀ W, Sts W A1 ag → Calls Tryz.prog 41 #[.slice A1 ag.length c1, .string ⟨#[44, 32]⟩] W fun e w' => e = .returned (.string (jn ag ⟨#[44, 32]⟩)) ∧ W = w') := Lib.hid (fun W hW => rjoin_any A1 c1 ag ⟨#[44, 32]⟩ W hW (by omega) (by omega))
  obtain ⟨J, hJ⟩ : ∃ J, jn ag ⟨#[44, 32]⟩ = J := ⟨_, rfl⟩
  rw [hJ] at HJ hjs
  have HJJ := Lib.hid hJ
  have H1 := Lib.hid h1
  have b1 := add_run f ⟨#[40]⟩ (by rw [show (⟨#[40]⟩ : ByteArray).size = 1 from rfl]; omega)
  have b2 := add_run (f ++ ⟨#[40]⟩) J (by rw [size_app, show (⟨#[40]⟩ : ByteArray).size = 1 from rfl]; omega)
  have b3 := add_run (f ++ ⟨#[40]⟩ ++ J) ⟨#[41, 59]⟩ (by rw [size_app, size_app, show (⟨#[40]⟩ : ByteArray).size = 1 from rfl, show (⟨#[41, 59]⟩ : ByteArray).size = 2 from rfl]; omega)
  have d2 : x.size + 3 ≤ 9223372036854775807 := by omega
  have d3 : x.size + 3 + y.size ≤ 9223372036854775807 := by omega
  have d4 : x.size + 3 + y.size + 1 ≤ 9223372036854775807 := by omega
  have d5 : x.size + 3 + y.size + 1 + z.size ≤ 9223372036854775807 := by omega
  have d6 : x.size + 3 + y.size + 1 + z.size + 2 ≤ 9223372036854775807 := by omega
  clear hJ ha h1
  go_enter Tryz.func74, Tryz.ntmps74
  go_wp2_with fail
  obtain ⟨W, hW⟩ : ∃ W, w.alloc (.cells #[.int .i64 9, .string x, .string y, .string z, .string t, .string f, .slice A1 ag.length c1, .int .i64 n, .slice A3 l3 c3, .slice A4 l4 c4, .int .i64 ln, .int .i64 cl] 41) = W := ⟨_, rfl⟩
  have hg : W.heap[w.heap.size]? = some (.cells #[.int .i64 9, .string x, .string y, .string z, .string t, .string f, .slice A1 ag.length c1, .int .i64 n, .slice A3 l3 c3, .slice A4 l4 c4, .int .i64 ln, .int .i64 cl] 41 (0, 0)) := by rw [← hW]; exact heap_alloc_new w _
  have HT : Hid (Turn [] w W) := Lib.hid (by rw [← hW]; exact (Turn.refl [] w).alloc _)
  rw [hW]
  have e0 : W.cell? ⟨w.heap.size, 0, none⟩ = some (.int .i64 9) := cell_of_row W _ 0 _ _ _ hg
  have e1 : W.cell? ⟨w.heap.size, 1, none⟩ = some (.string x) := cell_of_row W _ 1 _ _ _ hg
  have e2 : W.cell? ⟨w.heap.size, 2, none⟩ = some (.string y) := cell_of_row W _ 2 _ _ _ hg
  have e3 : W.cell? ⟨w.heap.size, 3, none⟩ = some (.string z) := cell_of_row W _ 3 _ _ _ hg
  have e4 : W.cell? ⟨w.heap.size, 4, none⟩ = some (.string t) := cell_of_row W _ 4 _ _ _ hg
  have e5 : W.cell? ⟨w.heap.size, 5, none⟩ = some (.string f) := cell_of_row W _ 5 _ _ _ hg
  have e6 : W.cell? ⟨w.heap.size, 6, none⟩ = some (.slice A1 ag.length c1) := cell_of_row W _ 6 _ _ _ hg
  have e7 : W.cell? ⟨w.heap.size, 7, none⟩ = some (.int .i64 n) := cell_of_row W _ 7 _ _ _ hg
  have hgl : w.heap.size < W.heap.size := (Array.getElem?_eq_some_iff.1 hg).1
  clear hW hg
  go_region_held3 (fun w' => w'.cell? ⟨w.heap.size, 5, none⟩ = some (.string f) ∧ w'.cell? ⟨w.heap.size, 6, none⟩ = some (.slice A1 ag.length c1))
    (first | exact ⟨e5, e6⟩ | go_keep)
    (first
      | (go_at_call 41; (with_reducible refine (HJ.out _ (by exact H1.out.turn' HT.out.drew)).mono ?_); rintro e w2 ⟨rfl, rfl⟩))
  go_wp2_with fail
  go_ret
  exact ⟨ret_str (by simp only [bs_append, bs_cat, List.flatMap_cons, List.flatMap_nil, List.append_assoc, List.append_nil]), HT.out.drew⟩
end Go.Proofs.YtnmhcgkccchacaaGreatDoor.R6

/- Of the reference that prints (stage 6's texts Onc, what is wanted of them; printed by mkr6.py). -/
set_option linter.unusedSimpArgs false
set_option linter.unusedVariables false
set_option maxRecDepth 100000
namespace Go.Proofs.YtnmhcgkccchacaaGreatDoor.R6
open Go.RowKit

set_option maxHeartbeats 2000000 in
set_option maxRecDepth 100000 in
theorem one_10 (x y z t f : ByteArray) (ag : List ByteArray) (n : Int) (A1 A3 A4 : Option Addr) (c1 l3 c3 l4 c4 : Nat) (ln cl : Int) (w : World) (hs : x.size ≤ 1000 ∧ y.size ≤ 1000 ∧ z.size ≤ 1000 ∧ t.size ≤ 1000 ∧ f.size ≤ 1000) (ha : ag.length ≤ 1000 ∧ ∀ a ∈ ag, a.size ≤ 1000) (h1 : Sts w A1 ag) :
    Calls Tryz.prog 74 #[.agg #[.int .i64 10, .string x, .string y, .string z, .string t, .string f, .slice A1 ag.length c1, .int .i64 n, .slice A3 l3 c3, .slice A4 l4 c4, .int .i64 ln, .int .i64 cl]] w fun e w' => e = .returned (.string (cat [x, ⟨#[91]⟩, z, ⟨#[93, 32, 61, 32]⟩, y, ⟨#[59]⟩])) ∧ Turn [] w w' := by
  obtain ⟨hx, hy, hz, ht, hf⟩ := hs
  have hjs : (jn ag ⟨#[44, 32]⟩).size ≤ 2000000 := jn_sz ag ha
  have HJ : Hid (∀ W, Sts W A1 ag → Calls Tryz.prog 41 #[.slice A1 ag.length c1, .string ⟨#[44, 32]⟩] W fun e w' => e = .returned (.string (jn ag ⟨#[44, 32]⟩)) ∧ W = w') := Lib.hid (fun W hW => rjoin_any A1 c1 ag ⟨#[44, 32]⟩ W hW (by omega) (by omega))
  obtain ⟨J, hJ⟩ : ∃ J, jn ag ⟨#[44, 32]⟩ = J := ⟨_, rfl⟩
  rw [hJ] at HJ hjs
  have HJJ := Lib.hid hJ
  have H1 := Lib.hid h1
  have b1 := add_run f ⟨#[40]⟩ (by rw [show (⟨#[40]⟩ : ByteArray).size = 1 from rfl]; omega)
  have b2 := add_run (f ++ ⟨#[40]⟩) J (by rw [size_app, show (⟨#[40]⟩ : ByteArray).size = 1 from rfl]; omega)
  have b3 := add_run (f ++ ⟨#[40]⟩ ++ J) ⟨#[41, 59]⟩ (by rw [size_app, size_app, show (⟨#[40]⟩ : ByteArray).size = 1 from rfl, show (⟨#[41, 59]⟩ : ByteArray).size = 2 from rfl]; omega)
  have d2 : x.size + 1 ≤ 9223372036854775807 := by omega
  have d3 : x.size + 1 + z.size ≤ 9223372036854775807 := by omega
  have d4 : x.size + 1 + z.size + 4 ≤ 9223372036854775807 := by omega
  have d5 : x.size + 1 + z.size + 4 + y.size ≤ 9223372036854775807 := by omega
  have d6 : x.size + 1 + z.size + 4 + y.size + 1 ≤ 9223372036854775807 := by omega
  clear hJ ha h1
  go_enter Tryz.func74, Tryz.ntmps74
  go_wp2_with fail
  obtain ⟨W, hW⟩ : ∃ W, w.alloc (.cells #[.int .i64 10, .string x, .string y, .string z, .string t, .string f, .slice A1 ag.length c1, .int .i64 n, .slice A3 l3 c3, .slice A4 l4 c4, .int .i64 ln, .int .i64 cl] 41) = W := ⟨_, rfl⟩
  have hg : W.heap[w.heap.size]? = some (.cells #[.int .i64 10, .string x, .string y, .string z, .string t, .string f, .slice A1 ag.length c1, .int .i64 n, .slice A3 l3 c3, .slice A4 l4 c4, .int .i64 ln, .int .i64 cl] 41 (0, 0)) := by rw [← hW]; exact heap_alloc_new w _
  have HT : Hid (Turn [] w W) := Lib.hid (by rw [← hW]; exact (Turn.refl [] w).alloc _)
  rw [hW]
  have e0 : W.cell? ⟨w.heap.size, 0, none⟩ = some (.int .i64 10) := cell_of_row W _ 0 _ _ _ hg
  have e1 : W.cell? ⟨w.heap.size, 1, none⟩ = some (.string x) := cell_of_row W _ 1 _ _ _ hg
  have e2 : W.cell? ⟨w.heap.size, 2, none⟩ = some (.string y) := cell_of_row W _ 2 _ _ _ hg
  have e3 : W.cell? ⟨w.heap.size, 3, none⟩ = some (.string z) := cell_of_row W _ 3 _ _ _ hg
  have e4 : W.cell? ⟨w.heap.size, 4, none⟩ = some (.string t) := cell_of_row W _ 4 _ _ _ hg
  have e5 : W.cell? ⟨w.heap.size, 5, none⟩ = some (.string f) := cell_of_row W _ 5 _ _ _ hg
  have e6 : W.cell? ⟨w.heap.size, 6, none⟩ = some (.slice A1 ag.length c1) := cell_of_row W _ 6 _ _ _ hg
  have e7 : W.cell? ⟨w.heap.size, 7, none⟩ = some (.int .i64 n) := cell_of_row W _ 7 _ _ _ hg
  have hgl : w.heap.size < W.heap.size := (Array.getElem?_eq_some_iff.1 hg).1
  clear hW hg
  go_region_held3 (fun w' => w'.cell? ⟨w.heap.size, 5, none⟩ = some (.string f) ∧ w'.cell? ⟨w.heap.size, 6, none⟩ = some (.slice A1 ag.length c1))
    (first | exact ⟨e5, e6⟩ | go_keep)
    (first
      | (go_at_call 41; (with_reducible refine (HJ.out _ (by exact H1.out.turn' HT.out.drew)).mono ?_); rintro e w2 ⟨rfl, rfl⟩))
  go_wp2_with fail
  go_ret
  exact ⟨ret_str (by simp only [bs_append, bs_cat, List.flatMap_cons, List.flatMap_nil, List.append_assoc, List.append_nil]), HT.out.drew⟩
set_option maxHeartbeats 2000000 in
set_option maxRecDepth 100000 in
theorem one_15 (x y z t f : ByteArray) (ag : List ByteArray) (n : Int) (A1 A3 A4 : Option Addr) (c1 l3 c3 l4 c4 : Nat) (ln cl : Int) (w : World) (hs : x.size ≤ 1000 ∧ y.size ≤ 1000 ∧ z.size ≤ 1000 ∧ t.size ≤ 1000 ∧ f.size ≤ 1000) (ha : ag.length ≤ 1000 ∧ ∀ a ∈ ag, a.size ≤ 1000) (h1 : Sts w A1 ag) :
    Calls Tryz.prog 74 #[.agg #[.int .i64 15, .string x, .string y, .string z, .string t, .string f, .slice A1 ag.length c1, .int .i64 n, .slice A3 l3 c3, .slice A4 l4 c4, .int .i64 ln, .int .i64 cl]] w fun e w' => e = .returned (.string (cat [x, ⟨#[32, 61, 32]⟩, y, ⟨#[32, 43, 32]⟩, z, ⟨#[59]⟩])) ∧ Turn [] w w' := by
  obtain ⟨hx, hy, hz, ht, hf⟩ := hs
  have hjs : (jn ag ⟨#[44, 32]⟩).size ≤ 2000000 := jn_sz ag ha
  have HJ : Hid (∀ W, Sts W A1 ag → Calls Tryz.prog 41 #[.slice A1 ag.length c1, .string ⟨#[44, 32]⟩] W fun e w' => e = .returned (.string (jn ag ⟨#[44, 32]⟩)) ∧ W = w') := Lib.hid (fun W hW => rjoin_any A1 c1 ag ⟨#[44, 32]⟩ W hW (by omega) (by omega))
  obtain ⟨J, hJ⟩ : ∃ J, jn ag ⟨#[44, 32]⟩ = J := ⟨_, rfl⟩
  rw [hJ] at HJ hjs
  have HJJ := Lib.hid hJ
  have H1 := Lib.hid h1
  have b1 := add_run f ⟨#[40]⟩ (by rw [show (⟨#[40]⟩ : ByteArray).size = 1 from rfl]; omega)
  have b2 := add_run (f ++ ⟨#[40]⟩) J (by rw [size_app, show (⟨#[40]⟩ : ByteArray).size = 1 from rfl]; omega)
  have b3 := add_run (f ++ ⟨#[40]⟩ ++ J) ⟨#[41, 59]⟩ (by rw [size_app, size_app, show (⟨#[40]⟩ : ByteArray).size = 1 from rfl, show (⟨#[41, 59]⟩ : ByteArray).size = 2 from rfl]; omega)
  have d2 : x.size + 3 ≤ 9223372036854775807 := by omega
  have d3 : x.size + 3 + y.size ≤ 9223372036854775807 := by omega
  have d4 : x.size + 3 + y.size + 3 ≤ 9223372036854775807 := by omega
  have d5 : x.size + 3 + y.size + 3 + z.size ≤ 9223372036854775807 := by omega
  have d6 : x.size + 3 + y.size + 3 + z.size + 1 ≤ 9223372036854775807 := by omega
  clear hJ ha h1
  go_enter Tryz.func74, Tryz.ntmps74
  go_wp2_with fail
  obtain ⟨W, hW⟩ : ∃ W, w.alloc (.cells #[.int .i64 15, .string x, .string y, .string z, .string t, .string f, .slice A1 ag.length c1, .int .i64 n, .slice A3 l3 c3, .slice A4 l4 c4, .int .i64 ln, .int .i64 cl] 41) = W := ⟨_, rfl⟩
  have hg : W.heap[w.heap.size]? = some (.cells #[.int .i64 15, .string x, .string y, .string z, .string t, .string f, .slice A1 ag.length c1, .int .i64 n, .slice A3 l3 c3, .slice A4 l4 c4, .int .i64 ln, .int .i64 cl] 41 (0, 0)) := by rw [← hW]; exact heap_alloc_new w _
  have HT : Hid (Turn [] w W) := Lib.hid (by rw [← hW]; exact (Turn.refl [] w).alloc _)
  rw [hW]
  have e0 : W.cell? ⟨w.heap.size, 0, none⟩ = some (.int .i64 15) := cell_of_row W _ 0 _ _ _ hg
  have e1 : W.cell? ⟨w.heap.size, 1, none⟩ = some (.string x) := cell_of_row W _ 1 _ _ _ hg
  have e2 : W.cell? ⟨w.heap.size, 2, none⟩ = some (.string y) := cell_of_row W _ 2 _ _ _ hg
  have e3 : W.cell? ⟨w.heap.size, 3, none⟩ = some (.string z) := cell_of_row W _ 3 _ _ _ hg
  have e4 : W.cell? ⟨w.heap.size, 4, none⟩ = some (.string t) := cell_of_row W _ 4 _ _ _ hg
  have e5 : W.cell? ⟨w.heap.size, 5, none⟩ = some (.string f) := cell_of_row W _ 5 _ _ _ hg
  have e6 : W.cell? ⟨w.heap.size, 6, none⟩ = some (.slice A1 ag.length c1) := cell_of_row W _ 6 _ _ _ hg
  have e7 : W.cell? ⟨w.heap.size, 7, none⟩ = some (.int .i64 n) := cell_of_row W _ 7 _ _ _ hg
  have hgl : w.heap.size < W.heap.size := (Array.getElem?_eq_some_iff.1 hg).1
  clear hW hg
  go_region_held3 (fun w' => w'.cell? ⟨w.heap.size, 5, none⟩ = some (.string f) ∧ w'.cell? ⟨w.heap.size, 6, none⟩ = some (.slice A1 ag.length c1))
    (first | exact ⟨e5, e6⟩ | go_keep)
    (first
      | (go_at_call 41; (with_reducible refine (HJ.out _ (by exact H1.out.turn' HT.out.drew)).mono ?_); rintro e w2 ⟨rfl, rfl⟩))
  go_wp2_with fail
  go_ret
  exact ⟨ret_str (by simp only [bs_append, bs_cat, List.flatMap_cons, List.flatMap_nil, List.append_assoc, List.append_nil]), HT.out.drew⟩
set_option maxHeartbeats 2000000 in
set_option maxRecDepth 100000 in
theorem one_16 (x y z t f : ByteArray) (ag : List ByteArray) (n : Int) (A1 A3 A4 : Option Addr) (c1 l3 c3 l4 c4 : Nat) (ln cl : Int) (w : World) (hs : x.size ≤ 1000 ∧ y.size ≤ 1000 ∧ z.size ≤ 1000 ∧ t.size ≤ 1000 ∧ f.size ≤ 1000) (ha : ag.length ≤ 1000 ∧ ∀ a ∈ ag, a.size ≤ 1000) (h1 : Sts w A1 ag) :
    Calls Tryz.prog 74 #[.agg #[.int .i64 16, .string x, .string y, .string z, .string t, .string f, .slice A1 ag.length c1, .int .i64 n, .slice A3 l3 c3, .slice A4 l4 c4, .int .i64 ln, .int .i64 cl]] w fun e w' => e = .returned (.string (cat [x, ⟨#[32, 61, 32]⟩, y, ⟨#[32, 45, 32]⟩, z, ⟨#[59]⟩])) ∧ Turn [] w w' := by
  obtain ⟨hx, hy, hz, ht, hf⟩ := hs
  have hjs : (jn ag ⟨#[44, 32]⟩).size ≤ 2000000 := jn_sz ag ha
  have HJ : Hid (∀ W, Sts W A1 ag → Calls Tryz.prog 41 #[.slice A1 ag.length c1, .string ⟨#[44, 32]⟩] W fun e w' => e = .returned (.string (jn ag ⟨#[44, 32]⟩)) ∧ W = w') := Lib.hid (fun W hW => rjoin_any A1 c1 ag ⟨#[44, 32]⟩ W hW (by omega) (by omega))
  obtain ⟨J, hJ⟩ : ∃ J, jn ag ⟨#[44, 32]⟩ = J := ⟨_, rfl⟩
  rw [hJ] at HJ hjs
  have HJJ := Lib.hid hJ
  have H1 := Lib.hid h1
  have b1 := add_run f ⟨#[40]⟩ (by rw [show (⟨#[40]⟩ : ByteArray).size = 1 from rfl]; omega)
  have b2 := add_run (f ++ ⟨#[40]⟩) J (by rw [size_app, show (⟨#[40]⟩ : ByteArray).size = 1 from rfl]; omega)
  have b3 := add_run (f ++ ⟨#[40]⟩ ++ J) ⟨#[41, 59]⟩ (by rw [size_app, size_app, show (⟨#[40]⟩ : ByteArray).size = 1 from rfl, show (⟨#[41, 59]⟩ : ByteArray).size = 2 from rfl]; omega)
  have d2 : x.size + 3 ≤ 9223372036854775807 := by omega
  have d3 : x.size + 3 + y.size ≤ 9223372036854775807 := by omega
  have d4 : x.size + 3 + y.size + 3 ≤ 9223372036854775807 := by omega
  have d5 : x.size + 3 + y.size + 3 + z.size ≤ 9223372036854775807 := by omega
  have d6 : x.size + 3 + y.size + 3 + z.size + 1 ≤ 9223372036854775807 := by omega
  clear hJ ha h1
  go_enter Tryz.func74, Tryz.ntmps74
  go_wp2_with fail
  obtain ⟨W, hW⟩ : ∃ W, w.alloc (.cells #[.int .i64 16, .string x, .string y, .string z, .string t, .string f, .slice A1 ag.length c1, .int .i64 n, .slice A3 l3 c3, .slice A4 l4 c4, .int .i64 ln, .int .i64 cl] 41) = W := ⟨_, rfl⟩
  have hg : W.heap[w.heap.size]? = some (.cells #[.int .i64 16, .string x, .string y, .string z, .string t, .string f, .slice A1 ag.length c1, .int .i64 n, .slice A3 l3 c3, .slice A4 l4 c4, .int .i64 ln, .int .i64 cl] 41 (0, 0)) := by rw [← hW]; exact heap_alloc_new w _
  have HT : Hid (Turn [] w W) := Lib.hid (by rw [← hW]; exact (Turn.refl [] w).alloc _)
  rw [hW]
  have e0 : W.cell? ⟨w.heap.size, 0, none⟩ = some (.int .i64 16) := cell_of_row W _ 0 _ _ _ hg
  have e1 : W.cell? ⟨w.heap.size, 1, none⟩ = some (.string x) := cell_of_row W _ 1 _ _ _ hg
  have e2 : W.cell? ⟨w.heap.size, 2, none⟩ = some (.string y) := cell_of_row W _ 2 _ _ _ hg
  have e3 : W.cell? ⟨w.heap.size, 3, none⟩ = some (.string z) := cell_of_row W _ 3 _ _ _ hg
  have e4 : W.cell? ⟨w.heap.size, 4, none⟩ = some (.string t) := cell_of_row W _ 4 _ _ _ hg
  have e5 : W.cell? ⟨w.heap.size, 5, none⟩ = some (.string f) := cell_of_row W _ 5 _ _ _ hg
  have e6 : W.cell? ⟨w.heap.size, 6, none⟩ = some (.slice A1 ag.length c1) := cell_of_row W _ 6 _ _ _ hg
  have e7 : W.cell? ⟨w.heap.size, 7, none⟩ = some (.int .i64 n) := cell_of_row W _ 7 _ _ _ hg
  have hgl : w.heap.size < W.heap.size := (Array.getElem?_eq_some_iff.1 hg).1
  clear hW hg
  go_region_held3 (fun w' => w'.cell? ⟨w.heap.size, 5, none⟩ = some (.string f) ∧ w'.cell? ⟨w.heap.size, 6, none⟩ = some (.slice A1 ag.length c1))
    (first | exact ⟨e5, e6⟩ | go_keep)
    (first
      | (go_at_call 41; (with_reducible refine (HJ.out _ (by exact H1.out.turn' HT.out.drew)).mono ?_); rintro e w2 ⟨rfl, rfl⟩))
  go_wp2_with fail
  go_ret
  exact ⟨ret_str (by simp only [bs_append, bs_cat, List.flatMap_cons, List.flatMap_nil, List.append_assoc, List.append_nil]), HT.out.drew⟩
set_option maxHeartbeats 2000000 in
set_option maxRecDepth 100000 in
theorem one_17 (x y z t f : ByteArray) (ag : List ByteArray) (n : Int) (A1 A3 A4 : Option Addr) (c1 l3 c3 l4 c4 : Nat) (ln cl : Int) (w : World) (hs : x.size ≤ 1000 ∧ y.size ≤ 1000 ∧ z.size ≤ 1000 ∧ t.size ≤ 1000 ∧ f.size ≤ 1000) (ha : ag.length ≤ 1000 ∧ ∀ a ∈ ag, a.size ≤ 1000) (h1 : Sts w A1 ag) :
    Calls Tryz.prog 74 #[.agg #[.int .i64 17, .string x, .string y, .string z, .string t, .string f, .slice A1 ag.length c1, .int .i64 n, .slice A3 l3 c3, .slice A4 l4 c4, .int .i64 ln, .int .i64 cl]] w fun e w' => e = .returned (.string (cat [x, ⟨#[32, 61, 32, 105, 110, 112, 117, 116, 59]⟩])) ∧ Turn [] w w' := by
  obtain ⟨hx, hy, hz, ht, hf⟩ := hs
  have hjs : (jn ag ⟨#[44, 32]⟩).size ≤ 2000000 := jn_sz ag ha
  have HJ : Hid (∀ W, Sts W A1 ag → Calls Tryz.prog 41 #[.slice A1 ag.length c1, .string ⟨#[44, 32]⟩] W fun e w' => e = .returned (.string (jn ag ⟨#[44, 32]⟩)) ∧ W = w') := Lib.hid (fun W hW => rjoin_any A1 c1 ag ⟨#[44, 32]⟩ W hW (by omega) (by omega))
  obtain ⟨J, hJ⟩ : ∃ J, jn ag ⟨#[44, 32]⟩ = J := ⟨_, rfl⟩
  rw [hJ] at HJ hjs
  have HJJ := Lib.hid hJ
  have H1 := Lib.hid h1
  have b1 := add_run f ⟨#[40]⟩ (by rw [show (⟨#[40]⟩ : ByteArray).size = 1 from rfl]; omega)
  have b2 := add_run (f ++ ⟨#[40]⟩) J (by rw [size_app, show (⟨#[40]⟩ : ByteArray).size = 1 from rfl]; omega)
  have b3 := add_run (f ++ ⟨#[40]⟩ ++ J) ⟨#[41, 59]⟩ (by rw [size_app, size_app, show (⟨#[40]⟩ : ByteArray).size = 1 from rfl, show (⟨#[41, 59]⟩ : ByteArray).size = 2 from rfl]; omega)
  have d2 : x.size + 9 ≤ 9223372036854775807 := by omega
  clear hJ ha h1
  go_enter Tryz.func74, Tryz.ntmps74
  go_wp2_with fail
  obtain ⟨W, hW⟩ : ∃ W, w.alloc (.cells #[.int .i64 17, .string x, .string y, .string z, .string t, .string f, .slice A1 ag.length c1, .int .i64 n, .slice A3 l3 c3, .slice A4 l4 c4, .int .i64 ln, .int .i64 cl] 41) = W := ⟨_, rfl⟩
  have hg : W.heap[w.heap.size]? = some (.cells #[.int .i64 17, .string x, .string y, .string z, .string t, .string f, .slice A1 ag.length c1, .int .i64 n, .slice A3 l3 c3, .slice A4 l4 c4, .int .i64 ln, .int .i64 cl] 41 (0, 0)) := by rw [← hW]; exact heap_alloc_new w _
  have HT : Hid (Turn [] w W) := Lib.hid (by rw [← hW]; exact (Turn.refl [] w).alloc _)
  rw [hW]
  have e0 : W.cell? ⟨w.heap.size, 0, none⟩ = some (.int .i64 17) := cell_of_row W _ 0 _ _ _ hg
  have e1 : W.cell? ⟨w.heap.size, 1, none⟩ = some (.string x) := cell_of_row W _ 1 _ _ _ hg
  have e2 : W.cell? ⟨w.heap.size, 2, none⟩ = some (.string y) := cell_of_row W _ 2 _ _ _ hg
  have e3 : W.cell? ⟨w.heap.size, 3, none⟩ = some (.string z) := cell_of_row W _ 3 _ _ _ hg
  have e4 : W.cell? ⟨w.heap.size, 4, none⟩ = some (.string t) := cell_of_row W _ 4 _ _ _ hg
  have e5 : W.cell? ⟨w.heap.size, 5, none⟩ = some (.string f) := cell_of_row W _ 5 _ _ _ hg
  have e6 : W.cell? ⟨w.heap.size, 6, none⟩ = some (.slice A1 ag.length c1) := cell_of_row W _ 6 _ _ _ hg
  have e7 : W.cell? ⟨w.heap.size, 7, none⟩ = some (.int .i64 n) := cell_of_row W _ 7 _ _ _ hg
  have hgl : w.heap.size < W.heap.size := (Array.getElem?_eq_some_iff.1 hg).1
  clear hW hg
  go_region_held3 (fun w' => w'.cell? ⟨w.heap.size, 5, none⟩ = some (.string f) ∧ w'.cell? ⟨w.heap.size, 6, none⟩ = some (.slice A1 ag.length c1))
    (first | exact ⟨e5, e6⟩ | go_keep)
    (first
      | (go_at_call 41; (with_reducible refine (HJ.out _ (by exact H1.out.turn' HT.out.drew)).mono ?_); rintro e w2 ⟨rfl, rfl⟩))
  go_wp2_with fail
  go_ret
  exact ⟨ret_str (by simp only [bs_append, bs_cat, List.flatMap_cons, List.flatMap_nil, List.append_assoc, List.append_nil]), HT.out.drew⟩
set_option maxHeartbeats 2000000 in
set_option maxRecDepth 100000 in
theorem one_18 (x y z t f : ByteArray) (ag : List ByteArray) (n : Int) (A1 A3 A4 : Option Addr) (c1 l3 c3 l4 c4 : Nat) (ln cl : Int) (w : World) (hs : x.size ≤ 1000 ∧ y.size ≤ 1000 ∧ z.size ≤ 1000 ∧ t.size ≤ 1000 ∧ f.size ≤ 1000) (ha : ag.length ≤ 1000 ∧ ∀ a ∈ ag, a.size ≤ 1000) (h1 : Sts w A1 ag) :
    Calls Tryz.prog 74 #[.agg #[.int .i64 18, .string x, .string y, .string z, .string t, .string f, .slice A1 ag.length c1, .int .i64 n, .slice A3 l3 c3, .slice A4 l4 c4, .int .i64 ln, .int .i64 cl]] w fun e w' => e = .returned (.string (cat [⟨#[116, 104, 114, 111, 119, 32]⟩, x, ⟨#[59]⟩])) ∧ Turn [] w w' := by
  obtain ⟨hx, hy, hz, ht, hf⟩ := hs
  have hjs : (jn ag ⟨#[44, 32]⟩).size ≤ 2000000 := jn_sz ag ha
  have HJ : Hid (∀ W, Sts W A1 ag → Calls Tryz.prog 41 #[.slice A1 ag.length c1, .string ⟨#[44, 32]⟩] W fun e w' => e = .returned (.string (jn ag ⟨#[44, 32]⟩)) ∧ W = w') := Lib.hid (fun W hW => rjoin_any A1 c1 ag ⟨#[44, 32]⟩ W hW (by omega) (by omega))
  obtain ⟨J, hJ⟩ : ∃ J, jn ag ⟨#[44, 32]⟩ = J := ⟨_, rfl⟩
  rw [hJ] at HJ hjs
  have HJJ := Lib.hid hJ
  have H1 := Lib.hid h1
  have b1 := add_run f ⟨#[40]⟩ (by rw [show (⟨#[40]⟩ : ByteArray).size = 1 from rfl]; omega)
  have b2 := add_run (f ++ ⟨#[40]⟩) J (by rw [size_app, show (⟨#[40]⟩ : ByteArray).size = 1 from rfl]; omega)
  have b3 := add_run (f ++ ⟨#[40]⟩ ++ J) ⟨#[41, 59]⟩ (by rw [size_app, size_app, show (⟨#[40]⟩ : ByteArray).size = 1 from rfl, show (⟨#[41, 59]⟩ : ByteArray).size = 2 from rfl]; omega)
  have d2 : 6 + x.size ≤ 9223372036854775807 := by omega
  have d3 : 6 + x.size + 1 ≤ 9223372036854775807 := by omega
  clear hJ ha h1
  go_enter Tryz.func74, Tryz.ntmps74
  go_wp2_with fail
  obtain ⟨W, hW⟩ : ∃ W, w.alloc (.cells #[.int .i64 18, .string x, .string y, .string z, .string t, .string f, .slice A1 ag.length c1, .int .i64 n, .slice A3 l3 c3, .slice A4 l4 c4, .int .i64 ln, .int .i64 cl] 41) = W := ⟨_, rfl⟩
  have hg : W.heap[w.heap.size]? = some (.cells #[.int .i64 18, .string x, .string y, .string z, .string t, .string f, .slice A1 ag.length c1, .int .i64 n, .slice A3 l3 c3, .slice A4 l4 c4, .int .i64 ln, .int .i64 cl] 41 (0, 0)) := by rw [← hW]; exact heap_alloc_new w _
  have HT : Hid (Turn [] w W) := Lib.hid (by rw [← hW]; exact (Turn.refl [] w).alloc _)
  rw [hW]
  have e0 : W.cell? ⟨w.heap.size, 0, none⟩ = some (.int .i64 18) := cell_of_row W _ 0 _ _ _ hg
  have e1 : W.cell? ⟨w.heap.size, 1, none⟩ = some (.string x) := cell_of_row W _ 1 _ _ _ hg
  have e2 : W.cell? ⟨w.heap.size, 2, none⟩ = some (.string y) := cell_of_row W _ 2 _ _ _ hg
  have e3 : W.cell? ⟨w.heap.size, 3, none⟩ = some (.string z) := cell_of_row W _ 3 _ _ _ hg
  have e4 : W.cell? ⟨w.heap.size, 4, none⟩ = some (.string t) := cell_of_row W _ 4 _ _ _ hg
  have e5 : W.cell? ⟨w.heap.size, 5, none⟩ = some (.string f) := cell_of_row W _ 5 _ _ _ hg
  have e6 : W.cell? ⟨w.heap.size, 6, none⟩ = some (.slice A1 ag.length c1) := cell_of_row W _ 6 _ _ _ hg
  have e7 : W.cell? ⟨w.heap.size, 7, none⟩ = some (.int .i64 n) := cell_of_row W _ 7 _ _ _ hg
  have hgl : w.heap.size < W.heap.size := (Array.getElem?_eq_some_iff.1 hg).1
  clear hW hg
  go_region_held3 (fun w' => w'.cell? ⟨w.heap.size, 5, none⟩ = some (.string f) ∧ w'.cell? ⟨w.heap.size, 6, none⟩ = some (.slice A1 ag.length c1))
    (first | exact ⟨e5, e6⟩ | go_keep)
    (first
      | (go_at_call 41; (with_reducible refine (HJ.out _ (by exact H1.out.turn' HT.out.drew)).mono ?_); rintro e w2 ⟨rfl, rfl⟩))
  go_wp2_with fail
  go_ret
  exact ⟨ret_str (by simp only [bs_append, bs_cat, List.flatMap_cons, List.flatMap_nil, List.append_assoc, List.append_nil]), HT.out.drew⟩
end Go.Proofs.YtnmhcgkccchacaaGreatDoor.R6
