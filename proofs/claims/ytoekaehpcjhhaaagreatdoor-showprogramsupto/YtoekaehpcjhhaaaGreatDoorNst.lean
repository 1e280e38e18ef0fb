/- nest and stmts, from what statements do. -/
import Derived.Test.YtoekaehpcjhhaaaGreatDoorOpn
set_option linter.unusedSimpArgs false
set_option linter.unusedVariables false
namespace Go.Proofs.YtoekaehpcjhhaaaGreatDoor
open Go.RowKit

theorem pow_g : Tryz.prog.globalNamed (Rows.showProgramsRow.named.headD default) = some 3 := by kernel_rfl
/-- What came in lies below B, the tables among it. -/
structure Env (B : Nat) (w : World) : Prop where
  lt : B ≤ w.heap.size
  gl : 3 < B
  pow : Pow w
theorem Pow.turn {F : List Nat} {w w' : World} (h : Pow w) (t : Turn F w w') (hF : 3 ∉ F) (hl : 3 < w.heap.size) : Pow w' := by
  unfold Pow Lib.TabIs World.var? at h ⊢
  rw [pow_g] at h ⊢
  simp only [Option.bind_some] at h ⊢
  rw [t.block 3 hl hF]
  exact h
theorem Env.turn {B : Nat} {F : List Nat} {w w' : World} (h : Env B w) (t : Turn F w w') (hF : ∀ g ∈ F, B ≤ g) : Env B w' :=
  ⟨Nat.le_trans h.lt t.size, h.gl, h.pow.turn t (fun hg => by have := hF _ hg; have := h.gl; omega) (by have := h.lt; have := h.gl; omega)⟩
theorem Foot.above {B n : Nat} {F F' : List Nat} (h : Foot n F F') (hF : ∀ g ∈ F, B ≤ g) (hn : B ≤ n) : ∀ g ∈ F', B ≤ g := fun g hg => by
  rcases h g hg with h1 | h1
  · exact hF g h1
  · omega

/-- What stmts does with these statements. -/
def SaidL (l : List St) : Prop := ∀ (T b : Nat) (F : List Nat) (R : List Row) (D : Nat) (A : Option Addr) (c B : Nat) (w : World),
  Sh T w b F R D → RdL B w A 0 l → (∀ g ∈ F, B ≤ g) → Env B w → D + R.length + (rwL D l).length ≤ 1000000000 → l.length ≤ 1000000000 →
  Calls Tryz.prog 31 #[.pointer (some ⟨b, 0, none⟩), .slice A l.length c] w fun e w' => e = .returned (.tuple #[]) ∧ Wr T w b F (R ++ rwL D l) D w'
/-- What stmt does with this statement. -/
def SaidS (s : St) : Prop := ∀ (T b : Nat) (F : List Nat) (R : List Row) (D : Nat) (cs : List Value) (B : Nat) (w : World),
  Sh T w b F R D → RdS B w cs s → (∀ g ∈ F, B ≤ g) → Env B w → D + R.length + (rw1 D s).length ≤ 1000000000 →
  Calls Tryz.prog 50 #[.pointer (some ⟨b, 0, none⟩), .agg cs.toArray] w fun e w' => e = .returned (.tuple #[]) ∧ Wr T w b F (R ++ rw1 D s) D w'

theorem enters_nest1 : ∀ (args : Array Value) (W : World), (callFunc 79 args).run Tryz.prog W = .ok (.enter 79 args) W := enters_of Tryz.func79 (by kernel_rfl) rfl

set_option maxHeartbeats 1000000 in
theorem nest1_any (T b : Nat) (F : List Nat) (R : List Row) (D : Nat) (g1 g2 : Nat) (A : Option Addr) (c B : Nat) (l : List St) (w : World) (hl : SaidL l) (h : Sh T w b F R D) (hr : RdL B w A 0 l) (hF : ∀ g ∈ F, B ≤ g) (hE : Env B w)
    (hz : D + R.length + (rwL D l).length ≤ 1000000000) (hlen : l.length ≤ 1000000000)
    (h1 : w.cell? ⟨g1, 0, none⟩ = some (.pointer (some ⟨b, 0, none⟩))) (h2 : w.cell? ⟨g2, 0, none⟩ = some (.slice A l.length c)) :
    Calls Tryz.prog 79 #[.pointer (some ⟨g1, 0, none⟩), .pointer (some ⟨g2, 0, none⟩)] w fun e w' => e = .returned (.tuple #[]) ∧ Wr T w b F (R ++ rwL D l) D w' := by
  have HC := Lib.hid (hl T b F R D A c B w h hr hF hE hz hlen)
  clear hl h hr hF hE hz
  go_enter Tryz.func79, Tryz.ntmps79
  go_wp2_with fail
  refine HC.out.mono ?_
  rintro e w1 ⟨rfl, hW⟩
  have HW := Lib.hid hW
  clear hW
  go_wp2_with fail
  go_end0
  exact ⟨rfl, HW.out⟩

set_option maxHeartbeats 1000000 in
theorem nest_any (T b : Nat) (F : List Nat) (R : List Row) (D : Nat) (A A2 : Option Addr) (c c2 B : Nat) (l : List St) (xs : List ByteArray) (w : World) (hl : SaidL l) (h : Sh T w b F R D) (hr : RdL B w A 0 l) (hF : ∀ g ∈ F, B ≤ g) (hE : Env B w)
    (hx : Sts w A2 xs) (hc : xs.length ≤ c2) (hn : xs.length ≤ 1000) (hxl : (cat xs).size ≤ 1000000) (hz : D + R.length + (rwL (D + 1) l).length + 2 ≤ 1000000000) (hlen : l.length ≤ 1000000000) :
    Calls Tryz.prog 68 #[.pointer (some ⟨b, 0, none⟩), .slice A l.length c, .slice A2 xs.length c2] w fun e w' => e = .returned (.tuple #[]) ∧ Wr T w b F (R ++ [(D, cat xs)] ++ rwL (D + 1) l) D w' := by
  have tA : Turn [] w ((w.alloc (.cells #[.pointer (some ⟨b, 0, none⟩)] 85)).alloc (.cells #[.slice A l.length c] 24)) := ((Turn.refl [] w).alloc _).alloc _
  obtain ⟨W, hW⟩ : ∃ W, (w.alloc (.cells #[.pointer (some ⟨b, 0, none⟩)] 85)).alloc (.cells #[.slice A l.length c] 24) = W := ⟨_, rfl⟩
  have hg1 : W.heap[w.heap.size]? = some (.cells #[.pointer (some ⟨b, 0, none⟩)] 85 (0, 0)) := by
    rw [← hW]
    exact ((Turn.refl [] _).alloc _).heap (heap_alloc_new w _) (by simp)
  have hg2 : W.heap[w.heap.size + 1]? = some (.cells #[.slice A l.length c] 24 (0, 0)) := by
    rw [← hW]
    have := heap_alloc_new (w.alloc (.cells #[.pointer (some ⟨b, 0, none⟩)] 85)) (.cells #[.slice A l.length c] 24)
    rwa [World.size_alloc] at this
  have hsz : W.heap.size = w.heap.size + 2 := by rw [← hW]; simp
  rw [hW] at tA
  have hlt := h.lt
  have hb0 : W.cell? ⟨w.heap.size, 0, none⟩ = some (.pointer (some ⟨b, 0, none⟩)) := cell_of_row W _ 0 _ _ _ hg1
  have HO := Lib.hid (open_any T b F R D 79 [.pointer (some ⟨w.heap.size, 0, none⟩), .pointer (some ⟨w.heap.size + 1, 0, none⟩)] A2 c2 xs (rwL (D + 1) l) W (h.turn' tA) (hx.turn' tA) hc (by omega) (by omega) (by omega) (by omega) enters_nest1 (by
    intro w1 F1 hS hFo hT
    have hF1 : ∀ g ∈ F1, B ≤ g := Foot.above hFo hF (by have := hE.lt; have := tA.size; omega)
    have hn1 : ∀ g, w.heap.size ≤ g → g < w.heap.size + 2 → g ∉ F := fun g h1 h2 hg => by have := hlt.2.2 g hg; omega
    have hTB : Turn F w w1 := (tA.more (by simp)).trans hT (fun g hg => .inl hg)
    exact nest1_any T b F1 _ (D + 1) w.heap.size (w.heap.size + 1) A c B l w1 hl hS (hr.turn hTB hF l) hF1 (hE.turn hTB hF) (by simp; omega) hlen
      (cell_of_row w1 _ 0 _ _ _ (hT.heap hg1 (hn1 _ (Nat.le_refl _) (by omega)))) (cell_of_row w1 _ 0 _ _ _ (hT.heap hg2 (hn1 _ (by omega) (by omega))))))
  have HT := Lib.hid tA
  have HW := Lib.hid hW
  have hmf := mf
  have hbl := hlt.1
  obtain ⟨n, hnn⟩ : ∃ n, xs.length = n := ⟨_, rfl⟩
  rw [hnn] at HO ⊢
  clear hl h hr hF hE hx hc hn hxl hz hlen hg1 hg2 tA hW hnn hsz hlt hb0
  go_enter Tryz.func68, Tryz.ntmps68
  go_wp2_with fail
  rw [HW.out]
  refine HO.out.mono ?_
  rintro e w1 ⟨rfl, hW⟩
  have HW1 := Lib.hid hW
  clear hW
  go_wp2_with fail
  go_end0
  exact ⟨rfl, Wr.after HT.out HW1.out⟩
end Go.Proofs.YtoekaehpcjhhaaaGreatDoor
