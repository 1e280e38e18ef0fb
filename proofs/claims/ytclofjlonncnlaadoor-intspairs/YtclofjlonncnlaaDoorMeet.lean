/- Sets: Meets. -/
import Derived.Test.YtclofjlonncnlaaDoorEq
import Derived.Deep.RegionHeld3
set_option linter.unusedSimpArgs false
set_option linter.unusedVariables false
namespace Go.Proofs.YtclofjlonncnlaaDoor
open Go.RowKit

/-- The five cells of a row that lies in a block of its own. -/
def Box (w : World) (b a w0 w1 w2 w3 : Nat) : Prop := w.cell? ⟨b, 0, none⟩ = some (.int .i64 a) ∧ w.cell? ⟨b, 1, none⟩ = some (.int .u64 w0) ∧ w.cell? ⟨b, 2, none⟩ = some (.int .u64 w1) ∧ w.cell? ⟨b, 3, none⟩ = some (.int .u64 w2) ∧ w.cell? ⟨b, 4, none⟩ = some (.int .u64 w3)
theorem Box.turn {F : List Nat} {w w' : World} {b a w0 w1 w2 w3 : Nat} (h : Box w b a w0 w1 w2 w3) (t : Turn F w w') (hb : b ∉ F) : Box w' b a w0 w1 w2 w3 := by
  have hl : b < w.heap.size := World.block_lt_of_cell? w ⟨b, 0, none⟩ h.1
  have k := fun o => t.cell (p := ⟨b, o, none⟩) hl hb
  exact ⟨(k 0).trans h.1, (k 1).trans h.2.1, (k 2).trans h.2.2.1, (k 3).trans h.2.2.2.1, (k 4).trans h.2.2.2.2⟩
theorem rowAt_keep (p v : Value) (rs : List Row) (t : Nat) (b a w0 w1 w2 w3 : Nat) (w : World) (h : SetV w p v rs) (ht : t < 100000) (hb : Box w b a w0 w1 w2 w3) :
    Calls Tryd.prog 28 #[p, .int .i64 t] w fun e w' => e = .returned (rowOf rs t).val ∧ Box w' b a w0 w1 w2 w3 ∧ Turn [] w w' :=
  (rowAt_any p v rs t w h ht).mono fun e w' ⟨h1, h2⟩ => ⟨h1, hb.turn h2 (by simp), h2⟩
def meetsB (rs ss : List Row) : Bool := rs.any (fun r => r.meets (rowOf ss r.at_))
theorem meets_snoc {rs ss : List Row} {k : Nat} {r : Row} (h : rs[k]? = some r) (h0 : meetsB (rs.take k) ss = false) (h1 : r.meets (rowOf ss r.at_) = false) : meetsB (rs.take (k + 1)) ss = false := by
  rw [take_snoc h]
  simp [meetsB] at *
  exact ⟨h0, h1⟩
theorem meets_hit {rs ss : List Row} {k : Nat} {r : Row} (h : rs[k]? = some r) (h1 : r.meets (rowOf ss r.at_) = true) : meetsB rs ss = true := by
  rw [meetsB, List.any_eq_true]
  exact ⟨r, List.mem_of_getElem? h, h1⟩
set_option maxHeartbeats 2000000 in
theorem meetsSet_any (p v : Value) (rs : List Row) (q u : Value) (ss : List Row) (w : World) (h : SetV w p v rs) (h' : SetV w q u ss) :
    Calls Tryd.prog 22 #[p, q] w fun e w' => e = .returned (.bool (meetsB rs ss)) ∧ Turn [] w w' := by
  obtain ⟨A, c, rfl, hrow, hc⟩ := h.form
  have hlen := h.ok.len
  have H := Lib.hid h
  have H' := Lib.hid h'
  have HR := Lib.hid hrow
  have HO := Lib.hid h.ok
  have HO' := Lib.hid h'.ok
  clear h h' hrow
  generalize hn : rs.length = n at *
  have HN := Lib.hid hn
  clear hn
  go_enter Tryd.func22, Tryd.ntmps22
  go_wp2_with (go_at_call 29; refine (all_any p _ rs _ H.out).mono ?_; rintro e w' ⟨rfl, rfl⟩)
  go_loopw [10] (fun i wr => ∃ k : Nat, k ≤ n ∧ i = .int .i64 k ∧ meetsB (rs.take k) ss = false ∧ Turn [] w wr) (fun i _ => n - (intOf i).toNat)
  case atStart => exact ⟨0, Nat.zero_le _, rfl, by simp [meetsB], Turn.refl _ _⟩
  case round =>
    obtain ⟨k, hk, rfl, hm, ht⟩ := hrel
    have HM := Lib.hid hm
    have HT := Lib.hid ht
    clear hm ht
    by_cases hlt : k < n
    · obtain ⟨r, hr⟩ := at_lt (show k < rs.length by have := HN.out; omega)
      obtain ⟨g, rfl, hg, c0, c1, c2, c3, c4⟩ := (HR.out.turn' HT.out) k r hr
      have hfit := HO.out.fits r (List.mem_of_getElem? hr)
      have hra := hfit.a
      have hsf := rowOf_fits HO'.out.fits hfit.a
      have HRk := Lib.hid hr
      have HF := Lib.hid hfit
      have HF' := Lib.hid hsf
      generalize hs : rowOf ss r.at_ = s at *
      have HS := Lib.hid hs
      clear hr hfit hsf hs
      go_wp2
      go_region_held3 (fun w' => w'.cell? ⟨wr.heap.size, 0, none⟩ = some (.int .i64 r.at_) ∧ w'.cell? ⟨wr.heap.size, 1, none⟩ = some (.int .u64 r.w0) ∧ w'.cell? ⟨wr.heap.size, 2, none⟩ = some (.int .u64 r.w1) ∧ w'.cell? ⟨wr.heap.size, 3, none⟩ = some (.int .u64 r.w2) ∧ w'.cell? ⟨wr.heap.size, 4, none⟩ = some (.int .u64 r.w3))
        (first | exact Box.turn hb1 ht2 (by simp) | exact hb1 | go_keep)
        (first
          | (go_at_call 28; refine (rowAt_keep q u ss r.at_ wr.heap.size r.at_ r.w0 r.w1 r.w2 r.w3 _ (H'.out.turn' ((HT.out.alloc _).drew)) (by omega) (by simp [Box])).mono ?_; rw [HS.out]; rintro e w1 ⟨rfl, hb1, ht1⟩)
          | (go_at_call 35; refine (meets_any r s HF.out HF'.out _).mono ?_; rintro e w2 ⟨rfl, ht2⟩))
      have HT2 := Lib.hid ((((HT.out.alloc _).drew).trans' ht1).trans' ht2)
      clear ht1 ht2
      cases hq : r.meets s
      · go_wp2
        go_roundw
        case rel => exact ⟨k + 1, by omega, by go_num, meets_snoc HRk.out HM.out (by rw [HS.out]; exact hq), HT2.out⟩
        case measure => simp [intOf]; omega
      · go_wp2
        go_ret
        exact ⟨ret_bool (meets_hit HRk.out (by rw [HS.out]; exact hq)).symm, HT2.out⟩
    · go_wp2
      go_ret
      refine ⟨ret_bool ?_, HT.out⟩
      have := HM.out
      rw [List.take_of_length_le (by have := HN.out; omega)] at this
      exact this.symm
end Go.Proofs.YtclofjlonncnlaaDoor
