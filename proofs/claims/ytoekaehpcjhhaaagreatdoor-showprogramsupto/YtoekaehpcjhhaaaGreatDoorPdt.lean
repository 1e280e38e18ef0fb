/- Variables, methods, classes, programs as data; how they lie in memory. -/
import Derived.Test.YtoekaehpcjhhaaaGreatDoorBld
set_option linter.unusedSimpArgs false
set_option linter.unusedVariables false
namespace Go.Proofs.YtoekaehpcjhhaaaGreatDoor
open Go.RowKit

/-- A variable: its type, its name. -/
abbrev Vr := ByteArray × ByteArray
structure Mt where
  ret : ByteArray
  name : ByteArray
  stat : Bool
  bare : Bool
  ps : List Vr
  ls : List Vr
  bd : List St
structure Cl where
  name : ByteArray
  super : ByteArray
  face : Bool
  faces : List ByteArray
  fs : List Vr
  ss : List Vr
  ms : List Mt
  init : Option Mt
structure Pr where
  cs : List Cl
  main : Mt

/-- The slice at A reads as the variables, below B. -/
def RdV (B : Nat) (w : World) (A : Option Addr) (l : List Vr) : Prop := ∀ (j : Nat) (v : Vr), l[j]? = some v → ∃ b off p q, A = some ⟨b, off, none⟩ ∧ b < B ∧ b < w.heap.size ∧ w.cell? ⟨b, off + j * 4, none⟩ = some (.string v.1) ∧ w.cell? ⟨b, off + j * 4 + 1, none⟩ = some (.string v.2) ∧ w.cell? ⟨b, off + j * 4 + 2, none⟩ = some (.int .i64 p) ∧ w.cell? ⟨b, off + j * 4 + 3, none⟩ = some (.int .i64 q)
/-- Nine cells read as the method. -/
def RdM (B : Nat) (w : World) (cs : List Value) (m : Mt) : Prop := ∃ A1 c1 A2 c2 A3 c3 p q, cs = [.string m.ret, .string m.name, .bool m.stat, .bool m.bare, .slice A1 m.ps.length c1, .slice A2 m.ls.length c2, .slice A3 m.bd.length c3, .int .i64 p, .int .i64 q] ∧ RdV B w A1 m.ps ∧ RdV B w A2 m.ls ∧ RdL B w A3 0 m.bd
/-- A block's cells from an offset on. -/
def At (B : Nat) (w : World) (a : Addr) (cs : List Value) : Prop := a.spot = none ∧ a.block < B ∧ a.block < w.heap.size ∧ ∀ (i : Nat) (v : Value), cs[i]? = some v → w.cell? ⟨a.block, a.off + i, none⟩ = some v
def RdMs (B : Nat) (w : World) (A : Option Addr) (l : List Mt) : Prop := ∀ (j : Nat) (m : Mt), l[j]? = some m → ∃ b off cs, A = some ⟨b, off, none⟩ ∧ At B w ⟨b, off + j * 9, none⟩ cs ∧ RdM B w cs m
def RdI (B : Nat) (w : World) (I : Option Addr) : Option Mt → Prop
  | none => I = none
  | some m => ∃ b off cs, I = some ⟨b, off, none⟩ ∧ At B w ⟨b, off, none⟩ cs ∧ RdM B w cs m
/-- Ten cells read as the class. -/
def RdC (B : Nat) (w : World) (cs : List Value) (c : Cl) : Prop := ∃ A3 c3 A4 c4 A5 c5 A6 c6 I p q, cs = [.string c.name, .string c.super, .bool c.face, .slice A3 c.faces.length c3, .slice A4 c.fs.length c4, .slice A5 c.ss.length c5, .slice A6 c.ms.length c6, .pointer I, .int .i64 p, .int .i64 q] ∧
  c.faces.length ≤ c3 ∧ Sts w A3 c.faces ∧ (∀ b off, A3 = some ⟨b, off, none⟩ → 0 < c.faces.length → b < B) ∧ RdV B w A4 c.fs ∧ RdV B w A5 c.ss ∧ RdMs B w A6 c.ms ∧ RdI B w I c.init
def RdCs (B : Nat) (w : World) (A : Option Addr) (l : List Cl) : Prop := ∀ (j : Nat) (c : Cl), l[j]? = some c → ∃ b off cs, A = some ⟨b, off, none⟩ ∧ At B w ⟨b, off + j * 10, none⟩ cs ∧ RdC B w cs c
/-- Ten cells read as the program. -/
def RdP (B : Nat) (w : World) (cs : List Value) (p : Pr) : Prop := ∃ A0 c0 mc, cs = .slice A0 p.cs.length c0 :: mc ∧ RdCs B w A0 p.cs ∧ RdM B w mc p.main

section
variable {B : Nat} {w w' : World} {F : List Nat}
theorem RdV.turn (t : Turn F w w') (hF : ∀ g ∈ F, B ≤ g) {A : Option Addr} {l : List Vr} (h : RdV B w A l) : RdV B w' A l := fun j v hv => by
  obtain ⟨b, off, p, q, e, hb, hl, h1, h2, h3, h4⟩ := h j v hv
  have hn : b ∉ F := fun hg => by have := hF b hg; omega
  exact ⟨b, off, p, q, e, hb, Nat.lt_of_lt_of_le hl t.size, (t.cell (p := ⟨b, _, none⟩) hl hn).trans h1, (t.cell (p := ⟨b, _, none⟩) hl hn).trans h2, (t.cell (p := ⟨b, _, none⟩) hl hn).trans h3, (t.cell (p := ⟨b, _, none⟩) hl hn).trans h4⟩
theorem RdM.turn (t : Turn F w w') (hF : ∀ g ∈ F, B ≤ g) {cs : List Value} {m : Mt} (h : RdM B w cs m) : RdM B w' cs m := by
  obtain ⟨A1, c1, A2, c2, A3, c3, p, q, e, h1, h2, h3⟩ := h
  exact ⟨A1, c1, A2, c2, A3, c3, p, q, e, h1.turn t hF, h2.turn t hF, h3.turn t hF _⟩
theorem At.turn (t : Turn F w w') (hF : ∀ g ∈ F, B ≤ g) {a : Addr} {cs : List Value} (h : At B w a cs) : At B w' a cs :=
  ⟨h.1, h.2.1, Nat.lt_of_lt_of_le h.2.2.1 t.size, fun i v hv => (t.cell (p := ⟨a.block, _, none⟩) h.2.2.1 (fun hg => by have h1 := hF _ hg; have h2 := h.2.1; simp only at h1; omega)).trans (h.2.2.2 i v hv)⟩
theorem RdMs.turn (t : Turn F w w') (hF : ∀ g ∈ F, B ≤ g) {A : Option Addr} {l : List Mt} (h : RdMs B w A l) : RdMs B w' A l := fun j m hm => by
  obtain ⟨b, off, cs, e, ha, hr⟩ := h j m hm
  exact ⟨b, off, cs, e, ha.turn t hF, hr.turn t hF⟩
theorem RdI.turn (t : Turn F w w') (hF : ∀ g ∈ F, B ≤ g) {I : Option Addr} : ∀ {o : Option Mt}, RdI B w I o → RdI B w' I o
  | none, h => h
  | some m, h => by
    obtain ⟨b, off, cs, e, ha, hr⟩ := h
    exact ⟨b, off, cs, e, ha.turn t hF, hr.turn t hF⟩
theorem RdC.turn (t : Turn F w w') (hF : ∀ g ∈ F, B ≤ g) {cs : List Value} {c : Cl} (h : RdC B w cs c) : RdC B w' cs c := by
  obtain ⟨A3, c3, A4, c4, A5, c5, A6, c6, I, p, q, e, k3, h3, hb, h4, h5, h6, h7⟩ := h
  refine ⟨A3, c3, A4, c4, A5, c5, A6, c6, I, p, q, e, k3, ?_, hb, h4.turn t hF, h5.turn t hF, h6.turn t hF, h7.turn t hF⟩
  by_cases h0 : c.faces.length = 0
  · exact ⟨h3.1, .inl h0⟩
  · exact h3.turn t (fun b off e hg => by have := hb b off e (by omega); have := hF b hg; omega)
theorem RdCs.turn (t : Turn F w w') (hF : ∀ g ∈ F, B ≤ g) {A : Option Addr} {l : List Cl} (h : RdCs B w A l) : RdCs B w' A l := fun j m hm => by
  obtain ⟨b, off, cs, e, ha, hr⟩ := h j m hm
  exact ⟨b, off, cs, e, ha.turn t hF, hr.turn t hF⟩
theorem RdP.turn (t : Turn F w w') (hF : ∀ g ∈ F, B ≤ g) {cs : List Value} {p : Pr} (h : RdP B w cs p) : RdP B w' cs p := by
  obtain ⟨A0, c0, mc, e, h1, h2⟩ := h
  exact ⟨A0, c0, mc, e, h1.turn t hF, h2.turn t hF⟩
end

def sp : ByteArray := ⟨#[32]⟩
def varK : ByteArray := ⟨#[118, 97, 114]⟩
def fieldK : ByteArray := ⟨#[102, 105, 101, 108, 100]⟩
def staticK : ByteArray := ⟨#[115, 116, 97, 116, 105, 99]⟩
def extK : ByteArray := ⟨#[101, 120, 116, 101, 110, 100, 115]⟩
def impK : ByteArray := ⟨#[105, 109, 112, 108, 101, 109, 101, 110, 116, 115]⟩
def openT : ByteArray := ⟨#[32, 123]⟩
/-- The rows of variables of a kind. -/
def varR (D : Nat) (k : ByteArray) (l : List Vr) : List Row := l.map fun v => (D, cat [k, sp, v.1, sp, v.2, ⟨#[59]⟩])
/-- A block's rows behind its head. -/
def inR (D : Nat) (m : Mt) : List Row := varR D varK m.ls ++ rwL D m.bd
def blkR (D : Nat) (h : ByteArray) (m : Mt) : List Row := [(D, h)] ++ inR (D + 1) m ++ [(D, shutT)]
/-- Parameters as they stand in a head. -/
def parL (l : List Vr) : List ByteArray := l.map fun v => v.1 ++ sp ++ v.2
def parT (l : List Vr) : ByteArray := jn (parL l) ⟨#[44, 32]⟩
def hdT (m : Mt) : ByteArray := ⟨#[109, 101, 116, 104, 111, 100, 32]⟩ ++ m.ret ++ sp ++ m.name ++ ⟨#[40]⟩ ++ parT m.ps ++ ⟨#[41]⟩
def metR (D : Nat) (m : Mt) : List Row := if m.bare = true then [(D, cat [hdT m, ⟨#[59]⟩])] else if m.stat = true then blkR D (cat [⟨#[115, 116, 97, 116, 105, 99, 32]⟩, hdT m, openT]) m else blkR D (cat [hdT m, openT]) m
def metsR (D : Nat) (l : List Mt) : List Row := l.flatMap (metR D)
def aboT (k : ByteArray) (l : List ByteArray) : ByteArray := if l.length = 0 then ⟨#[]⟩ else sp ++ k ++ sp ++ jn l ⟨#[44, 32]⟩
def supT (s : ByteArray) : ByteArray := if s.size = 0 then ⟨#[]⟩ else aboT extK [s]
def initR (D : Nat) : Option Mt → List Row
  | none => []
  | some m => blkR D (cat [⟨#[105, 110, 105, 116, 32, 123]⟩]) m
def bodyR (D : Nat) (c : Cl) : List Row := varR D fieldK c.fs ++ varR D staticK c.ss ++ initR D c.init ++ metsR D c.ms
def facT (c : Cl) : ByteArray := cat [⟨#[105, 110, 116, 101, 114, 102, 97, 99, 101, 32]⟩, c.name, aboT extK c.faces, openT]
def claT (c : Cl) : ByteArray := cat [⟨#[99, 108, 97, 115, 115, 32]⟩, c.name, supT c.super, aboT impK c.faces, openT]
def clsR (D : Nat) (c : Cl) : List Row := if c.face = true then [(D, facT c)] ++ metsR (D + 1) c.ms ++ [(D, shutT)] else [(D, claT c)] ++ bodyR (D + 1) c ++ [(D, shutT)]
def clssR (D : Nat) (l : List Cl) : List Row := l.flatMap (clsR D)
def mainT : ByteArray := cat [⟨#[109, 97, 105, 110, 32, 123]⟩]
def prgR (p : Pr) : List Row := clssR 0 p.cs ++ blkR 0 mainT p.main

/-- Texts are short, lists are, and rows few. -/
def FtV (l : List Vr) : Prop := l.length ≤ 8 ∧ ∀ v ∈ l, v.1.size ≤ 1048576 ∧ v.2.size ≤ 1048576
def FtM (m : Mt) : Prop := m.ret.size ≤ 100 ∧ m.name.size ≤ 100 ∧ FtV m.ps ∧ FtV m.ls ∧ FtL m.bd ∧ LnL m.bd ∧ m.bd.length ≤ 8 ∧ ∀ D, (rwL D m.bd).length ≤ 1700000
structure FtC (c : Cl) : Prop where
  name : c.name.size ≤ 1048576
  super : c.super.size ≤ 1048576
  faces : c.faces.length ≤ 8 ∧ ∀ f ∈ c.faces, f.size ≤ 1048576
  fs : FtV c.fs
  ss : FtV c.ss
  ms : c.ms.length ≤ 5 ∧ ∀ m ∈ c.ms, FtM m
  init : ∀ m, c.init = some m → FtM m
structure FtP (p : Pr) : Prop where
  cs : p.cs.length ≤ 6 ∧ ∀ c ∈ p.cs, FtC c
  main : FtM p.main

theorem varR_len (D : Nat) (k : ByteArray) (l : List Vr) : (varR D k l).length = l.length := by simp [varR]
theorem inR_len (D : Nat) {m : Mt} (h : FtM m) : (inR D m).length ≤ 1700008 := by
  have h1 := h.2.2.2.2.2.2.2 D
  have h2 := h.2.2.2.1.1
  rw [inR, List.length_append, varR_len]
  omega
theorem blkR_len (D : Nat) (t : ByteArray) {m : Mt} (h : FtM m) : (blkR D t m).length ≤ 1700010 := by
  have := inR_len (D + 1) h
  simp only [blkR, List.length_append, List.length_cons, List.length_nil]
  omega
theorem metR_len (D : Nat) {m : Mt} (h : FtM m) : (metR D m).length ≤ 1700010 := by
  unfold metR
  split
  · simp
  · split <;> exact blkR_len _ _ h
theorem flat_len {α : Type} (f : α → List Row) (k : Nat) : ∀ (l : List α), (∀ a ∈ l, (f a).length ≤ k) → (l.flatMap f).length ≤ l.length * k
  | [], _ => by simp
  | a :: l, h => by
    have h1 := h a (by simp)
    have h2 := flat_len f k l fun b hb => h b (by simp [hb])
    rw [List.flatMap_cons, List.length_append, List.length_cons, Nat.add_mul]
    omega
theorem metsR_len (D : Nat) {l : List Mt} (h : l.length ≤ 5 ∧ ∀ m ∈ l, FtM m) : (metsR D l).length ≤ 8500050 := by
  have h1 := flat_len (metR D) 1700010 l fun m hm => metR_len D (h.2 m hm)
  have h2 : l.length * 1700010 ≤ 5 * 1700010 := Nat.mul_le_mul_right _ h.1
  unfold metsR
  omega
theorem initR_len (D : Nat) {o : Option Mt} (h : ∀ m, o = some m → FtM m) : (initR D o).length ≤ 1700010 := by
  cases o with
  | none => simp [initR]
  | some m => exact blkR_len _ _ (h m rfl)
theorem bodyR_len (D : Nat) {c : Cl} (h : FtC c) : (bodyR D c).length ≤ 10200076 := by
  have h1 := h.fs.1
  have h2 := h.ss.1
  have h3 := initR_len D h.init
  have h4 := metsR_len D h.ms
  simp only [bodyR, List.length_append, varR_len]
  omega
theorem clsR_len (D : Nat) {c : Cl} (h : FtC c) : (clsR D c).length ≤ 10200078 := by
  have h1 := bodyR_len (D + 1) h
  have h2 := metsR_len (D + 1) h.ms
  unfold clsR
  split <;> simp only [List.length_append, List.length_cons, List.length_nil] <;> omega
theorem clssR_len (D : Nat) {l : List Cl} (h : l.length ≤ 6 ∧ ∀ c ∈ l, FtC c) : (clssR D l).length ≤ 61200468 := by
  have h1 := flat_len (clsR D) 10200078 l fun c hc => clsR_len D (h.2 c hc)
  have h2 : l.length * 10200078 ≤ 6 * 10200078 := Nat.mul_le_mul_right _ h.1
  unfold clssR
  omega
theorem prgR_len {p : Pr} (h : FtP p) : (prgR p).length ≤ 63000000 := by
  have h1 := clssR_len 0 h.cs
  have h2 := blkR_len 0 mainT h.main
  rw [prgR, List.length_append]
  omega
end Go.Proofs.YtoekaehpcjhhaaaGreatDoor
