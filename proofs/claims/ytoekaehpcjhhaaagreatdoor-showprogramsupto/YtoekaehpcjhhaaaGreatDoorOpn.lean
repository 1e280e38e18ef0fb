/- open, shut: rows in braces, filled by a function that is handed in. -/
import Derived.Test.YtoekaehpcjhhaaaGreatDoorTx
import Derived.Laws.ByValue
import Derived.Laws.StandIn
import Derived.Shelf.Abstract
import Derived.Laws.EntriesVeiled
set_option linter.unusedSimpArgs false
set_option linter.unusedVariables false
namespace Go.Proofs.YtoekaehpcjhhaaaGreatDoor
open Go.RowKit

theorem mf : ∀ (fn : Fn) (first cap : Array Value) (w : World), (Instr.makeFunc fn first cap).run Tryz.prog w = .ok (.func fn first cap) w := fun _ _ _ _ => rfl

theorem Sh.cells {T : Nat} {w : World} {b : Nat} {F : List Nat} {R : List Row} {D : Nat} (h : Sh T w b F R D) : w.cell? ⟨b, 1, none⟩ = some (.int .i64 (D : Int)) ∧ w.frozen? ⟨b, 1, none⟩ = false := by
  obtain ⟨V, h⟩ := h
  exact ⟨cell_of_row w b 1 _ T (0, 0) h.blk, frozen_of_row w b 1 _ T h.blk⟩
theorem Sh.deep {T : Nat} {w : World} {b : Nat} {F : List Nat} {R : List Row} {D : Nat} (E : Nat) (h : Sh T w b F R D) : Sh T (w.setCell ⟨b, 1, none⟩ (.int .i64 (E : Int))) b F R E ∧ Turn F w (w.setCell ⟨b, 1, none⟩ (.int .i64 (E : Int))) := by
  obtain ⟨V, h⟩ := h
  have t1 : Turn [b] w (w.setCell ⟨b, 1, none⟩ (.int .i64 (E : Int))) := (Turn.refl [b] w).setCell (.inl (by simp)) _
  refine ⟨⟨V, heap_put1 h.blk, Turn.owns t1 h.row (fun g hg => by simp; rintro rfl; exact h.vb hg), h.vb, h.fb, h.fv, fun g hg => Nat.lt_of_lt_of_le (h.fl g hg) t1.size⟩, t1.more (fun g hg => by simp at hg; subst hg; exact .inl h.fb)⟩
theorem Sh.lt {T : Nat} {w : World} {b : Nat} {F : List Nat} {R : List Row} {D : Nat} (h : Sh T w b F R D) : b < w.heap.size ∧ b ∈ F ∧ ∀ g ∈ F, g < w.heap.size := by
  obtain ⟨V, h⟩ := h
  exact ⟨h.fl b h.fb, h.fb, h.fl⟩

/-- What a call that goes on writing leaves: the rows are R, D braces in. -/
def Wr (T : Nat) (w : World) (b : Nat) (F : List Nat) (R : List Row) (D : Nat) (w' : World) : Prop := ∃ F', Sh T w' b F' R D ∧ Foot w.heap.size F F' ∧ Turn F w w'
theorem Wr.trans {T : Nat} {w w1 w2 : World} {b : Nat} {F F1 : List Nat} {R : List Row} {D : Nat} (hF : Foot w.heap.size F F1) (ht : Turn F w w1) (h : Wr T w1 b F1 R D w2) : Wr T w b F R D w2 := by
  obtain ⟨F2, h1, h2, h3⟩ := h
  exact ⟨F2, h1, hF.trans h2 ht.size, ht.trans h3 hF⟩
theorem Wr.after {T : Nat} {w w1 w2 : World} {b : Nat} {F : List Nat} {R : List Row} {D : Nat} (ht : Turn [] w w1) (h : Wr T w1 b F R D w2) : Wr T w b F R D w2 := Wr.trans (Foot.refl _ F) (ht.more (by simp)) h

set_option maxHeartbeats 1000000 in
theorem open_any (T b : Nat) (F : List Nat) (R : List Row) (D : Nat) (k : Nat) (caps : List Value) (A : Option Addr) (c : Nat) (xs : List ByteArray) (Rb : List Row) (w : World)
    (h : Sh T w b F R D) (hx : Sts w A xs) (hc : xs.length ≤ c) (hn : xs.length ≤ 140737488355328) (hl : (cat xs).size ≤ 140737488355328) (hR : R.length ≤ 1000000000) (hD : D ≤ 1000000000)
    (hen : ∀ (args : Array Value) (W : World), (callFunc k args).run Tryz.prog W = .ok (.enter k args) W)
    (hk : ∀ w1 F1, Sh T w1 b F1 (R ++ [(D, cat xs)]) (D + 1) → Foot w.heap.size F F1 → Turn F w w1 → Calls Tryz.prog k caps.toArray w1 fun e w2 => e = .returned (.tuple #[]) ∧ Wr T w1 b F1 (R ++ [(D, cat xs)] ++ Rb) (D + 1) w2) :
    Calls Tryz.prog 36 #[.pointer (some ⟨b, 0, none⟩), .func (.func k) #[] caps.toArray, .slice A xs.length c] w fun e w' => e = .returned (.tuple #[]) ∧ Wr T w b F (R ++ [(D, cat xs)] ++ Rb) D w' := by
  have HP := Lib.hid (put_any T b F R D A c xs w h hx hc hn hl hR)
  have HK := Lib.hid hk
  obtain ⟨n, hnn⟩ : ∃ n, xs.length = n := ⟨_, rfl⟩
  rw [hnn] at HP ⊢
  clear hk h hx hc hn hl hnn
  go_enter Tryz.func36, Tryz.ntmps36
  go_wp2_with fail
  refine HP.out.mono ?_
  rintro e w1 ⟨rfl, F1, hS1, hF1, hT1⟩
  obtain ⟨c1, f1⟩ := hS1.cells
  obtain ⟨hS2, hT2⟩ := hS1.deep (D + 1)
  have hFl := hS1.lt.2.2
  have HS2 := Lib.hid hS2
  have HF1 := Lib.hid hF1
  have HT2 := Lib.hid (hT1.trans hT2 hF1)
  have HC := Lib.hid (HK.out _ F1 hS2 hF1 HT2.out)
  clear hS1 hF1 hT1 hS2 hT2 HK
  rw [Int.natCast_add] at HC HS2 HT2
  go_wp2_with fail
  refine HC.out.mono ?_
  rintro e w3 ⟨rfl, F3, hS3, hF3, hT3⟩
  obtain ⟨c3, f3⟩ := hS3.cells
  obtain ⟨hS4, hT4⟩ := hS3.deep D
  have HS4 := Lib.hid hS4
  have HF3 := Lib.hid hF3
  have HT4 := Lib.hid (hT3.trans hT4 hF3)
  have HT3 := Lib.hid hT3
  rw [Int.natCast_add] at c3
  clear hS3 hF3 hT3 hS4 hT4 c1 f1
  go_wp2_with fail
  go_end0
  exact ⟨rfl, F3, HS4.out, HF1.out.trans HF3.out HT2.out.size, HT2.out.trans HT4.out HF1.out⟩

theorem shut_any (T b : Nat) (F : List Nat) (R : List Row) (D : Nat) (w : World) (h : Sh T w b F R D) (hR : R.length ≤ 1000000000) :
    Calls Tryz.prog 39 #[.pointer (some ⟨b, 0, none⟩)] w fun e w' => e = .returned (.tuple #[]) ∧ Wr T w b F (R ++ [(D, shutT)]) D w' := by
  have tA : Turn [] w (w.alloc (.cells #[.string ⟨#[125]⟩] 9)) := (Turn.refl [] w).alloc _
  have HP := Lib.hid (put_any T b F R D (some ⟨w.heap.size, 0, none⟩) 1 [⟨#[125]⟩] _ (h.turn' tA) ⟨rfl, .inr ⟨_, 0, rfl, by simp, fun j u hj => by
    rw [cell_of_row _ w.heap.size _ _ _ _ (heap_alloc_new w _), Nat.zero_add]; simpa using hj⟩⟩ (Nat.le_refl _) (by simp) (by rw [size_cat]; decide) hR)
  have HT := Lib.hid tA
  clear tA h
  go_enter Tryz.func39, Tryz.ntmps39
  go_wp2_with fail
  refine HP.out.mono ?_
  rintro e w1 ⟨rfl, hW⟩
  have HW := Lib.hid hW
  clear hW
  go_wp2_with fail
  go_end0
  exact ⟨rfl, Wr.after HT.out HW.out⟩
end Go.Proofs.YtoekaehpcjhhaaaGreatDoor
