/- The sheet: its rows, how far in it stands; put. -/
import Derived.Test.YtoekaehpcjhhaaaGreatDoorDat
import Derived.Deep.RegionLaw
import Derived.Deep.RegionHeld3
import Derived.StillTailTactics
set_option linter.unusedSimpArgs false
set_option linter.unusedVariables false
namespace Go.Proofs.YtoekaehpcjhhaaaGreatDoor
open Go.RowKit

/-- A row: how many braces it stands in, its text. -/
abbrev Row := Nat × ByteArray
def rcs (r : Row) : List Value := [.int .i64 (r.1 : Int), .string r.2]
/-- The slice v is of the program's own making and holds the rows. -/
def OwnR (w : World) (v : Value) (R : List Row) : Prop := w.ownsRow 0 77 2 v R.length (R.flatMap rcs)
theorem OwnR.nil (w : World) : OwnR w (.slice none 0 0) [] := World.ownsRow_nil w 0 77 2
theorem flat2 : ∀ (R : List Row) (i : Nat) (r : Row), R[i]? = some r → (R.flatMap rcs)[i * 2]? = some (.int .i64 (r.1 : Int)) ∧ (R.flatMap rcs)[i * 2 + 1]? = some (.string r.2)
  | [], i, r, h => by simp at h
  | u :: R, 0, r, h => by simp at h; subst h; exact ⟨rfl, rfl⟩
  | u :: R, i + 1, r, h => by
    have := flat2 R i r (by simpa using h)
    rw [List.flatMap_cons, List.getElem?_append_right (by simp [rcs]; omega), List.getElem?_append_right (by simp [rcs]; omega)]
    simp only [rcs, List.length_cons, List.length_nil]
    rw [show (i + 1) * 2 - (0 + 1 + 1) = i * 2 by omega, show (i + 1) * 2 + 1 - (0 + 1 + 1) = i * 2 + 1 by omega]
    exact this

structure ShP (T : Nat) (w : World) (b : Nat) (F : List Nat) (V : Value) (R : List Row) (D : Nat) : Prop where
  blk : w.heap[b]? = some (.cells #[V, .int .i64 (D : Int)] T (0, 0))
  row : OwnR w V R
  vb : V.ownBlock ≠ some b
  fb : b ∈ F
  fv : ∀ g, V.ownBlock = some g → g ∈ F
  fl : ∀ g ∈ F, g < w.heap.size
/-- Block b is a sheet with the rows R, D braces in, all of it in the blocks F. -/
def Sh (T : Nat) (w : World) (b : Nat) (F : List Nat) (R : List Row) (D : Nat) : Prop := ∃ V, ShP T w b F V R D
theorem ShP.turn {T : Nat} {w w' : World} {b : Nat} {F : List Nat} {V : Value} {R : List Row} {D : Nat} {G : List Nat} (h : ShP T w b F V R D) (t : Turn G w w') (hG : ∀ g ∈ G, g ∉ F) : ShP T w' b F V R D :=
  ⟨t.heap h.blk (fun hg => hG b hg h.fb), Turn.owns t h.row (fun g hg hgG => hG g hgG (h.fv g hg)), h.vb, h.fb, h.fv, fun g hg => Nat.lt_of_lt_of_le (h.fl g hg) t.size⟩
theorem Sh.turn {T : Nat} {w w' : World} {b : Nat} {F : List Nat} {R : List Row} {D : Nat} {G : List Nat} (h : Sh T w b F R D) (t : Turn G w w') (hG : ∀ g ∈ G, g ∉ F) : Sh T w' b F R D := by
  obtain ⟨V, h⟩ := h
  exact ⟨V, h.turn t hG⟩
theorem Sh.turn' {T : Nat} {w w' : World} {b : Nat} {F : List Nat} {R : List Row} {D : Nat} (h : Sh T w b F R D) (t : Turn [] w w') : Sh T w' b F R D := h.turn t (by simp)

theorem row_info : (Tryz.prog.info? 77).map (fun i => (i.zero, i.size, i.bytes)) = some (some (.agg #[.int .i64 0, .string ⟨#[]⟩]), 2, 24) := by kernel_rfl

theorem heap_put0 {T : Nat} {w : World} {b : Nat} {M V u : Value} (h : w.heap[b]? = some (.cells #[M, V] T (0, 0))) : (w.setCell ⟨b, 0, none⟩ u).heap[b]? = some (.cells #[u, V] T (0, 0)) := by
  simp only [World.setCell, Array.getElem?_modify, h]
  rfl
theorem heap_put1 {T : Nat} {w : World} {b : Nat} {M V u : Value} (h : w.heap[b]? = some (.cells #[M, V] T (0, 0))) : (w.setCell ⟨b, 1, none⟩ u).heap[b]? = some (.cells #[M, u] T (0, 0)) := by
  simp only [World.setCell, Array.getElem?_modify, h]
  rfl
/-- A row was stored behind the others. -/
theorem ShP.stored {T : Nat} {W w5 : World} {b : Nat} {F : List Nat} {V v' : Value} {R : List Row} {D : Nat} {r : Row} (h : ShP T W b F V R D)
    (ho : OwnR w5 v' (R ++ [r])) (ht : Turn V.ownBlock.toList W w5) (hm : v'.ownBlock = V.ownBlock ∨ ∃ g, v'.ownBlock = some g ∧ W.heap.size ≤ g) :
    ∃ F', ShP T (w5.setCell ⟨b, 0, none⟩ v') b F' v' (R ++ [r]) D ∧ Foot W.heap.size F F' ∧ Turn F W (w5.setCell ⟨b, 0, none⟩ v') := by
  have hbl : b < W.heap.size := h.fl b h.fb
  have hb5 : w5.heap[b]? = some (.cells #[V, .int .i64 (D : Int)] T (0, 0)) := ht.heap h.blk (fun hg => h.vb (by simpa using hg))
  have hvb : v'.ownBlock ≠ some b := by
    rcases hm with hm | ⟨g, hm, hg⟩
    · rw [hm]; exact h.vb
    · rw [hm]; intro e; injection e with e; omega
  have t1 : Turn [b] w5 (w5.setCell ⟨b, 0, none⟩ v') := (Turn.refl [b] w5).setCell (.inl (by simp)) _
  have t2 : Turn F W (w5.setCell ⟨b, 0, none⟩ v') := (ht.more (G := F) (fun g hg => .inl (h.fv g (by simpa using hg)))).trans t1 (fun g hg => by simp at hg; subst hg; exact .inl h.fb)
  refine ⟨F ++ v'.ownBlock.toList, ⟨?_, Turn.owns t1 ho (fun g hg => by simp; rintro rfl; exact hvb hg), hvb, by simp [h.fb], fun g hg => by simp [hg], ?_⟩, ?_, t2⟩
  · exact heap_put0 hb5
  · intro g hg
    rcases List.mem_append.1 hg with hg | hg
    · exact Nat.lt_of_lt_of_le (h.fl g hg) t2.size
    · exact Nat.lt_of_lt_of_le (owns_lt ho (by simpa using hg)).1 t1.size
  · intro g hg
    rcases List.mem_append.1 hg with hg | hg
    · exact .inl hg
    · rcases hm with hm | ⟨g', hm, hg'⟩
      · rw [hm] at hg; exact .inl (h.fv g (by simpa using hg))
      · rw [hm] at hg; simp at hg; subst hg; exact .inr hg'
end Go.Proofs.YtoekaehpcjhhaaaGreatDoor
