/- Sets: Add, with a new row. -/
import Derived.Test.YtclofjlonncnlaaDoorAdd
set_option linter.unusedSimpArgs false
set_option linter.unusedVariables false
namespace Go.Proofs.YtclofjlonncnlaaDoor
open Go.RowKit

def newRow (t : Nat) : Row := ⟨t, 0, 0, 0, 0⟩
theorem insR_at (rs : List Row) (k : Nat) (r : Row) (h : k ≤ rs.length) : (insR rs k r)[k]? = some r := by
  unfold insR
  rw [List.getElem?_append_right (by rw [List.length_take]; omega), List.length_take, Nat.min_eq_left h]
  simp
theorem insR_length (rs : List Row) (k : Nat) (r : Row) (h : k ≤ rs.length) : (insR rs k r).length = rs.length + 1 := by
  simp only [insR, List.length_append, List.length_take, List.length_cons, List.length_drop]
  omega
theorem newRow_word (t i : Nat) : (newRow t).word i = 0 := by
  unfold newRow Row.word
  split <;> rfl
/-- What has turned when a new row was laid, its bit set, and counted. -/
def AddPost2 (b : Nat) (v : Value) (rs : List Row) (t i x : Nat) (w : World) (e : Ending) (w' : World) : Prop :=
  e = .returned (.bool true) ∧ ∃ k v', Cut rs t k ∧ w'.heap[b]? = some (.cells #[v', .int .i64 ((total rs : Int) + 1)] 39 (0, 0)) ∧
    OwnR w' 0 v' ((insR rs k (newRow t)).set k ((newRow t).setWord i x)) ∧ Turn (b :: v.ownBlock.toList) w w' ∧ (v'.ownBlock = v.ownBlock ∨ ∃ g, v'.ownBlock = some g ∧ w.heap.size ≤ g)
set_option maxHeartbeats 2000000 in
theorem add_new (b : Nat) (A : Option Addr) (m c : Nat) (rs : List Row) (n i x : Nat) (w : World) (h : SetAt w b (.slice A m c) rs) (hn : n < 1048576) (hh : hasN rs n = false) (hm : m = rs.length)
    (hr : hasRow rs (n / 256) = false) (hi : i < 4) (hx : x < 18446744073709551616) (hbit : BitAt n i x) :
    Calls Tryd.prog 11 #[.pointer (some ⟨b, 0, none⟩), .int .i64 n] w (AddPost2 b (.slice A m c) rs (n / 256) i x w) := by
  have hok : okB n = true := by simp [okB]; omega
  have HOk := Lib.hid hok
  have H := Lib.hid h
  have HH := Lib.hid hh
  have HM := Lib.hid hm
  have HR := Lib.hid hr
  have hml : m ≤ 4096 := by have := h.ok.len; omega
  clear h hok hh hm hr
  go_enter Tryd.func11, Tryd.ntmps11
  go_wp2_with (first
    | (go_at_call 24; refine (mayHold_any n _).mono ?_; rw [HOk.out]; rintro e w' ⟨rfl, rfl⟩)
    | (go_at_call 13; refine (has_in _ _ rs n _ (.inr ⟨b, rfl, H.out⟩) hn).mono ?_; rw [HH.out]; rintro e w1 ⟨rfl, ht1⟩; have HT1 := Lib.hid ht1; clear ht1)
    | fail)
  go_wp2_with fail
  refine (find_div _ _ rs n hn _ (.inr ⟨b, rfl, H.out.turn' HT1.out⟩)).mono ?_
  rintro e w2 ⟨k, hk, rfl, ht2⟩
  have HT2 := Lib.hid (HT1.out.trans' ht2)
  have hhit : hit rs (n / 256) k = false := (hit_eq hk H.out.ok.asc).trans HR.out
  have hset := H.out.turn' HT2.out
  have hc0 : w2.cell? ⟨b, 0, none⟩ = some (.slice A m c) := cell_of_row w2 b 0 _ 39 (0, 0) hset.blk
  have hkl := hk.le
  have HK := Lib.hid hk
  have HSet := Lib.hid hset
  have htot := H.out.ok.total
  rw [hhit]
  have HHit := Lib.hid hhit
  have HBit := Lib.hid hbit
  clear hk hset hhit ht2 hbit
  go_wp2_with fail
  refine (insert_any (.slice A m c) rs k (newRow (n / 256)) w2.heap.size 1 _ (HSet.out.rows.turn' ((Turn.refl _ _).alloc _)) (by have := HM.out; omega) hkl ?_ ?_).mono ?_
  · refine (heap_alloc_new w2 _).trans ?_
    simp [newRow, Row.cells]
  · intro e
    have := (HSet.out.rows.lt _ e).2
    omega
  rintro e w3 ⟨v3, rfl, hown3, ht3, hat3⟩
  obtain ⟨A3, c3, hv3, _, hc3⟩ := hown3.form
  have hl3 := insR_length rs k (newRow (n / 256)) hkl
  have hat := insR_at rs k (newRow (n / 256)) hkl
  obtain ⟨g3, hg3⟩ : ∃ g3, v3 = .slice (some ⟨g3, 0, none⟩) (m + 1) c3 := by
    rcases hown3.2 with ⟨_, h0⟩ | ⟨g, cap, cur, h1, _⟩
    · omega
    · have := HM.out
      rw [h1] at hv3
      injection hv3 with e1 e2 e3
      exact ⟨g, by rw [h1, e3, hl3, this]⟩
  have hT3 : Turn (Value.slice A m c).ownBlock.toList w w3 := (HT2.out.more (by simp)).trans (((Turn.refl (Value.slice A m c).ownBlock.toList w2).alloc _).trans ht3 (fun g hg => .inl hg)) (fun g hg => .inl hg)
  have hb3 : w3.heap[b]? = some (.cells #[.slice A m c, .int .i64 (total rs)] 39 (0, 0)) := by
    refine ht3.heap ?_ (fun hg => HSet.out.ne (by simpa using hg))
    exact (Below.heap_alloc w2 _ b HSet.out.lt).trans HSet.out.blk
  have hgb : g3 ≠ b := by
    rintro rfl
    rcases hown3.2 with ⟨_, h0⟩ | ⟨g, cap, cur, h1, _, hg, _⟩
    · omega
    · rw [hg3] at h1
      injection h1 with e1
      injection e1 with e1
      injection e1 with e1
      subst e1
      rw [hb3] at hg
      simp at hg
  subst hg3
  have d0 : w3.cell? ⟨b, 0, none⟩ = some (.slice A m c) := cell_of_row w3 b 0 _ 39 (0, 0) hb3
  have d1 : w3.cell? ⟨b, 1, none⟩ = some (.int .i64 (total rs)) := cell_of_row w3 b 1 _ 39 (0, 0) hb3
  have f0 : w3.frozen? ⟨b, 0, none⟩ = false := frozen_of_row w3 b 0 _ 39 hb3
  have f1 : w3.frozen? ⟨b, 1, none⟩ = false := frozen_of_row w3 b 1 _ 39 hb3
  have hlen3 : m + 1 = (insR rs k (newRow (n / 256))).length := by have := HM.out; omega
  have hword := hown3.word hlen3 hat i hi
  rw [newRow_word] at hword
  have hfro := hown3.frozen hlen3 (k * 5 + 1 + i)
  have hor : bits BinOp.or IntKind.u64 ((0 : Nat) : Int) (x : Int) = ((x : Nat) : Int) := by rw [u64_or_nat _ _ (by omega) hx]; simp
  have hor' : bits BinOp.or IntKind.u64 0 (x : Int) = ((x : Nat) : Int) := hor
  have HOwn3 := Lib.hid hown3
  have HT3 := Lib.hid hT3
  have HB3 := Lib.hid hb3
  have HAt := Lib.hid hat
  have HAt3 := Lib.hid hat3
  have HL3 := Lib.hid hlen3
  have hsz3 : w2.heap.size ≤ w3.heap.size := by have := ht3.size; simp at this; omega
  generalize htt : total rs = tt at *
  have HTt := Lib.hid htt
  have hkm : k < m + 1 := by have := HM.out; omega
  have hki : (k : Int) < (m : Int) + 1 := by omega
  have hii : (i : Int) < 4 := by omega
  clear hown3 hT3 hb3 hat hat3 hlen3 ht3 hl3 hv3 htt
  go_wp2_with (go_at_call 27; refine (HBit.out _).mono ?_; rintro e w' ⟨rfl, q, rfl⟩)
  go_region
  go_wp2
  go_ret
  have hbb : (((w3.setCell ⟨b, 0, none⟩ (.slice (some ⟨g3, 0, none⟩) (m + 1) c3)).drewN (q + 1))).heap[b]? = some (.cells #[.slice (some ⟨g3, 0, none⟩) (m + 1) c3, .int .i64 tt] 39 (0, 0)) := heap_setCell_same w3 b 0 _ 39 _ HB3.out
  have hoo : OwnR ((w3.setCell ⟨b, 0, none⟩ (.slice (some ⟨g3, 0, none⟩) (m + 1) c3)).drewN (q + 1)) 0 (.slice (some ⟨g3, 0, none⟩) (m + 1) c3) (insR rs k (newRow (n / 256))) :=
    HOwn3.out.turn (((Turn.refl [b] _).setCell (.inl (by simp)) _).drewN _) (fun g' hg' => by
      simp [Value.ownBlock] at hg'
      subst hg'
      simpa using hgb)
  obtain ⟨e1, e2, e3⟩ := add_tail b g3 (m + 1) c3 k i x tt (insR rs k (newRow (n / 256))) (newRow (n / 256)) _ hbb hoo HL3.out HAt.out hi hgb
  refine ⟨rfl, k, _, HK.out, by rw [HTt.out]; exact e1, e2, ?_, ?_⟩
  · refine Turn.trans (((HT3.out.more (G := b :: (Value.slice A m c).ownBlock.toList) (fun g hg => .inl (List.mem_cons_of_mem _ hg))).setCell (p := ⟨b, 0, none⟩) (.inl (by simp)) _).drewN _) e3 ?_
    intro g hg
    rcases List.mem_cons.1 hg with hg | hg
    · exact .inl (by simp [hg])
    · have : g = g3 := by simpa using hg
      subst this
      rcases HAt3.out with e | ⟨g', e, hge⟩
      · exact .inl (List.mem_cons_of_mem _ (by rw [← e]; simp [Value.ownBlock]))
      · simp [Value.ownBlock] at e
        subst e
        have := HT2.out.size
        simp at hge
        exact .inr (by omega)
  · rcases HAt3.out with e | ⟨g', e, hge⟩
    · exact .inl e
    · have := HT2.out.size
      simp at hge
      exact .inr ⟨g', e, by omega⟩
end Go.Proofs.YtclofjlonncnlaaDoor
