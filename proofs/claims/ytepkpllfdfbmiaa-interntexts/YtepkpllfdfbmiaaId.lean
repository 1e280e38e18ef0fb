/- The table, said of its tuples and texts: New, Id, Find, Tuple, Len. -/
import Derived.Test.YtepkpllfdfbmiaaTh
set_option linter.unusedSimpArgs false
set_option linter.unusedVariables false
namespace Go.Proofs.Ytepkpllfdfbmiaa
open Go.RowKit Go.Maps

/-- Tuples that may have numbers: each once, none too long. -/
def OkN (Ns : List (List Int)) : Prop := Ns.Nodup ∧ ∀ ns ∈ Ns, ns.length ≤ 8 ∧ Wf ns
def OkS (S : List ByteArray) : Prop := S.Nodup ∧ ∀ s ∈ S, Gs s
/-- Block b is a table of the tuples Ns and the texts S, all of it within the blocks F. -/
def Tt (w : World) (b : Nat) (F : List Nat) (Ns : List (List Int)) (S : List ByteArray) : Prop := Tb w b F (Ns.map tup) S ∧ OkN Ns ∧ OkS S
theorem Tt.turn {w w' : World} {b : Nat} {F G : List Nat} {Ns : List (List Int)} {S : List ByteArray} (h : Tt w b F Ns S) (t : Turn G w w') (hn : ∀ g ∈ F, g ∉ G) : Tt w' b F Ns S := ⟨h.1.turn t hn, h.2⟩
theorem Tt.turn' {w w' : World} {b : Nat} {F : List Nat} {Ns : List (List Int)} {S : List ByteArray} (h : Tt w b F Ns S) (t : Turn [] w w') : Tt w' b F Ns S := ⟨h.1.turn' t, h.2⟩
theorem Tt.fl {w : World} {b : Nat} {F : List Nat} {Ns : List (List Int)} {S : List ByteArray} (h : Tt w b F Ns S) : ∀ g ∈ F, g < w.heap.size := h.1.fl

theorem OkN.nil : OkN [] := ⟨List.nodup_nil, by simp⟩
theorem OkS.nil : OkS [] := ⟨List.nodup_nil, by simp⟩
theorem OkN.nine {Ns : List (List Int)} (h : OkN Ns) : ∀ t ∈ Ns.map tup, t.length = 9 := by
  intro t ht
  obtain ⟨ns, hn, rfl⟩ := List.mem_map.1 ht
  exact tup_length (h.2 ns hn).1
theorem OkN.nodup {Ns : List (List Int)} (h : OkN Ns) : (Ns.map tup).Nodup := by
  rw [List.nodup_iff_pairwise_ne, List.pairwise_map]
  exact (List.nodup_iff_pairwise_ne.1 h.1).imp (fun hn e => hn (tup_inj e))
theorem mem_tup {Ns : List (List Int)} {ns : List Int} : tup ns ∈ Ns.map tup ↔ ns ∈ Ns := by
  constructor
  · intro h
    obtain ⟨m, hm, e⟩ := List.mem_map.1 h
    rw [← tup_inj e]
    exact hm
  · exact fun h => List.mem_map.2 ⟨ns, h, rfl⟩
theorem inB_tup (Ns : List (List Int)) (ns : List Int) : inB (Ns.map tup) (tup ns) = inB Ns ns := by
  unfold inB
  rw [Bool.eq_iff_iff]
  simp only [decide_eq_true_eq]
  exact mem_tup
theorem fnd_tup {Ns : List (List Int)} (h : OkN Ns) (ns : List Int) : fnd (Ns.map tup) (tup ns) = fnd Ns ns := by
  by_cases hin : ns ∈ Ns
  · refine fnd_at h.nodup ?_
    rw [List.getElem?_map, fnd_in hin]
    rfl
  · rw [fnd_out hin, fnd_out (fun e => hin (mem_tup.1 e))]
theorem inB_true {α : Type} [DecidableEq α] {L : List α} {t : α} : inB L t = true ↔ t ∈ L := by simp [inB]
theorem inB_false {α : Type} [DecidableEq α] {L : List α} {t : α} : inB L t = false ↔ t ∉ L := by simp [inB]

/-- What Id answers, and the tuples behind it. -/
def idN (Ns : List (List Int)) (ns : List Int) : Int := if 8 < ns.length then -1 else if ns ∈ Ns then (fnd Ns ns : Int) else (Ns.length : Int)
def idL (Ns : List (List Int)) (ns : List Int) : List (List Int) := if 8 < ns.length then Ns else if ns ∈ Ns then Ns else Ns ++ [ns]
theorem OkN.snoc {Ns : List (List Int)} {ns : List Int} (h : OkN Ns) (hn : ns.length ≤ 8) (hw : Wf ns) (hin : ns ∉ Ns) : OkN (Ns ++ [ns]) := by
  refine ⟨?_, ?_⟩
  · rw [List.nodup_append]
    refine ⟨h.1, by simp, ?_⟩
    intro a ha b hb
    simp at hb
    subst hb
    exact fun e => hin (e ▸ ha)
  · intro m hm
    rcases List.mem_append.1 hm with hm | hm
    · exact h.2 m hm
    · simp at hm
      subst hm
      exact ⟨hn, hw⟩
theorem idL_le (Ns : List (List Int)) (ns : List Int) : (idL Ns ns).length ≤ Ns.length + 1 := by
  unfold idL
  split
  · omega
  · split
    · omega
    · simp

theorem nine_keep {w w' : World} {g : Nat} {b0 b1 b2 b3 b4 b5 b6 b7 b8 : Int} (hg : g < w.heap.size) (h : w.cell? ⟨g, 0, none⟩ = some (.int .i64 b0) ∧ w.cell? ⟨g, 1, none⟩ = some (.int .i64 b1) ∧ w.cell? ⟨g, 2, none⟩ = some (.int .i64 b2) ∧ w.cell? ⟨g, 3, none⟩ = some (.int .i64 b3) ∧ w.cell? ⟨g, 4, none⟩ = some (.int .i64 b4) ∧ w.cell? ⟨g, 5, none⟩ = some (.int .i64 b5) ∧ w.cell? ⟨g, 6, none⟩ = some (.int .i64 b6) ∧ w.cell? ⟨g, 7, none⟩ = some (.int .i64 b7) ∧ w.cell? ⟨g, 8, none⟩ = some (.int .i64 b8)) (t : Turn [] w w') :
    w'.cell? ⟨g, 0, none⟩ = some (.int .i64 b0) ∧ w'.cell? ⟨g, 1, none⟩ = some (.int .i64 b1) ∧ w'.cell? ⟨g, 2, none⟩ = some (.int .i64 b2) ∧ w'.cell? ⟨g, 3, none⟩ = some (.int .i64 b3) ∧ w'.cell? ⟨g, 4, none⟩ = some (.int .i64 b4) ∧ w'.cell? ⟨g, 5, none⟩ = some (.int .i64 b5) ∧ w'.cell? ⟨g, 6, none⟩ = some (.int .i64 b6) ∧ w'.cell? ⟨g, 7, none⟩ = some (.int .i64 b7) ∧ w'.cell? ⟨g, 8, none⟩ = some (.int .i64 b8) := by
  obtain ⟨h0, h1, h2, h3, h4, h5, h6, h7, h8⟩ := h
  have k : ∀ i : Nat, w'.cell? ⟨g, i, none⟩ = w.cell? ⟨g, i, none⟩ := fun i => t.cell (p := ⟨g, i, none⟩) hg (by simp)
  exact ⟨(k 0).trans h0, (k 1).trans h1, (k 2).trans h2, (k 3).trans h3, (k 4).trans h4, (k 5).trans h5, (k 6).trans h6, (k 7).trans h7, (k 8).trans h8⟩
theorem number_keep (b : Nat) (F : List Nat) (L : List (List Int)) (S : List ByteArray) (b0 b1 b2 b3 b4 b5 b6 b7 b8 : Int) (w : World) (h : Tb w b F L S) (hL : L.Nodup) (ht : Gd [b0, b1, b2, b3, b4, b5, b6, b7, b8]) :
    Calls Try.prog 29 #[.pointer (some ⟨b, 0, none⟩), .agg #[.int .i64 b0, .int .i64 b1, .int .i64 b2, .int .i64 b3, .int .i64 b4, .int .i64 b5, .int .i64 b6, .int .i64 b7, .int .i64 b8]] (w.alloc (.cells #[.int .i64 b0, .int .i64 b1, .int .i64 b2, .int .i64 b3, .int .i64 b4, .int .i64 b5, .int .i64 b6, .int .i64 b7, .int .i64 b8] 61)).drew fun e w' =>
      e = .returned (.tuple #[.int .i64 (fnd L [b0, b1, b2, b3, b4, b5, b6, b7, b8] : Int), .bool (inB L [b0, b1, b2, b3, b4, b5, b6, b7, b8])]) ∧ Turn [] w w' ∧ (w'.cell? ⟨w.heap.size, 0, none⟩ = some (.int .i64 b0) ∧ w'.cell? ⟨w.heap.size, 1, none⟩ = some (.int .i64 b1) ∧ w'.cell? ⟨w.heap.size, 2, none⟩ = some (.int .i64 b2) ∧ w'.cell? ⟨w.heap.size, 3, none⟩ = some (.int .i64 b3) ∧ w'.cell? ⟨w.heap.size, 4, none⟩ = some (.int .i64 b4) ∧ w'.cell? ⟨w.heap.size, 5, none⟩ = some (.int .i64 b5) ∧ w'.cell? ⟨w.heap.size, 6, none⟩ = some (.int .i64 b6) ∧ w'.cell? ⟨w.heap.size, 7, none⟩ = some (.int .i64 b7) ∧ w'.cell? ⟨w.heap.size, 8, none⟩ = some (.int .i64 b8)) := by
  have t1 : Turn [] w (w.alloc (.cells #[.int .i64 b0, .int .i64 b1, .int .i64 b2, .int .i64 b3, .int .i64 b4, .int .i64 b5, .int .i64 b6, .int .i64 b7, .int .i64 b8] 61)).drew := ((Turn.refl [] w).alloc _).drew
  refine (number_any b F L S [b0, b1, b2, b3, b4, b5, b6, b7, b8] _ (h.turn' t1) hL ht).mono ?_
  rintro e w' ⟨rfl, t2⟩
  have hv : Vr (w.alloc (.cells #[.int .i64 b0, .int .i64 b1, .int .i64 b2, .int .i64 b3, .int .i64 b4, .int .i64 b5, .int .i64 b6, .int .i64 b7, .int .i64 b8] 61)).drew w.heap.size [b0, b1, b2, b3, b4, b5, b6, b7, b8] := (Vr.box w (t := [b0, b1, b2, b3, b4, b5, b6, b7, b8]) rfl).turn ((Turn.refl [] _).drew) (by simp)
  exact ⟨rfl, t1.trans' t2, nine_keep hv.lt hv.nine t2⟩

set_option maxHeartbeats 1600000 in
theorem tupleNumber_any (b : Nat) (F : List Nat) (Ns : List (List Int)) (S : List ByteArray) (A : Option Addr) (ns : List Int) (c : Nat) (w : World) (h : Tt w b F Ns S) (hA : Ints w A ns) (hw : Wf ns) (hnil : A = none → ns.length = 0 ∧ c = 0) (hl : Ns.length ≤ 1000000) :
    Calls Try.prog 20 #[.pointer (some ⟨b, 0, none⟩), .slice A ns.length c] w fun e w' => e = .returned (.int .i64 (idN Ns ns)) ∧ ∃ F', Tt w' b F' (idL Ns ns) S ∧ Foot w.heap.size F F' ∧ Turn F w w' := by
  have H := Lib.hid h
  have HA := Lib.hid hA
  have HW := Lib.hid hw
  have HN := Lib.hid hnil
  clear h hA hw hnil
  by_cases h8 : 8 < ns.length
  · have HI : Hid (idN Ns ns = -1 ∧ idL Ns ns = Ns) := Lib.hid ⟨if_pos h8, if_pos h8⟩
    rw [HI.out.1, HI.out.2]
    go_enter Try.func20, Try.ntmps20
    go_wp2_with fail
    refine (tupleOf_no A ns.length c _ h8).mono ?_
    rintro e w1 ⟨rfl, ht1⟩
    have HT1 := Lib.hid ht1
    clear ht1
    rw [show tV zeroT = .agg #[.int .i64 0, .int .i64 0, .int .i64 0, .int .i64 0, .int .i64 0, .int .i64 0, .int .i64 0, .int .i64 0, .int .i64 0] from rfl]
    go_wp2_with fail
    go_ret
    have tt := (HT1.out).alloc (.cells #[.int .i64 0, .int .i64 0, .int .i64 0, .int .i64 0, .int .i64 0, .int .i64 0, .int .i64 0, .int .i64 0, .int .i64 0] 61)
    exact ⟨rfl, F, H.out.turn' tt, Foot.refl _ _, tt.more (by simp)⟩
  · have hn : ns.length ≤ 8 := by omega
    have HG : Hid (Gd (tup ns)) := Lib.hid ⟨tup_length hn, HW.out.tup hn⟩
    obtain ⟨b0, b1, b2, b3, b4, b5, b6, b7, b8, hb⟩ := nine (tup_length hn)
    have HB := Lib.hid hb
    clear hb
    by_cases hin : ns ∈ Ns
    · have HI : Hid (idN Ns ns = (fnd Ns ns : Int) ∧ idL Ns ns = Ns) := Lib.hid ⟨by unfold idN; rw [if_neg h8, if_pos hin], by unfold idL; rw [if_neg h8, if_pos hin]⟩
      rw [HI.out.1, HI.out.2]
      have HIN := Lib.hid hin
      clear hin
      go_enter Try.func20, Try.ntmps20
      go_wp2_with fail
      refine (tupleOf_yes A ns c _ HA.out hn HN.out).mono ?_
      rintro e w1 ⟨rfl, ht1⟩
      have HT1 := Lib.hid ht1
      clear ht1
      rw [HB.out, tV9]
      have hK := number_keep b F (Ns.map tup) S b0 b1 b2 b3 b4 b5 b6 b7 b8 w1 (H.out.1.turn' HT1.out) H.out.2.1.nodup (by rw [← HB.out]; exact HG.out)
      rw [← HB.out, inB_tup, fnd_tup H.out.2.1, inB_true.2 HIN.out] at hK
      have HK := Lib.hid hK
      clear hK
      go_wp2_with fail
      go_region_held3 (fun w' => w'.cell? ⟨w1.heap.size, 0, none⟩ = some (.int .i64 b0) ∧ w'.cell? ⟨w1.heap.size, 1, none⟩ = some (.int .i64 b1) ∧ w'.cell? ⟨w1.heap.size, 2, none⟩ = some (.int .i64 b2) ∧ w'.cell? ⟨w1.heap.size, 3, none⟩ = some (.int .i64 b3) ∧ w'.cell? ⟨w1.heap.size, 4, none⟩ = some (.int .i64 b4) ∧ w'.cell? ⟨w1.heap.size, 5, none⟩ = some (.int .i64 b5) ∧ w'.cell? ⟨w1.heap.size, 6, none⟩ = some (.int .i64 b6) ∧ w'.cell? ⟨w1.heap.size, 7, none⟩ = some (.int .i64 b7) ∧ w'.cell? ⟨w1.heap.size, 8, none⟩ = some (.int .i64 b8))
        (first | exact hn2 | go_keep)
        (first
          | (go_at_call 29; (with_reducible refine HK.out.mono ?_); rintro e w2 ⟨rfl, ht2, hn2⟩))
      have HT2 := Lib.hid (HT1.out.trans' ht2)
      clear ht2 hn2
      go_wp2_with fail
      go_ret
      exact ⟨rfl, F, H.out.turn' HT2.out, Foot.refl _ _, HT2.out.more (by simp)⟩
    · have HI : Hid (idN Ns ns = (Ns.length : Int) ∧ idL Ns ns = Ns ++ [ns]) := Lib.hid ⟨by unfold idN; rw [if_neg h8, if_neg hin], by unfold idL; rw [if_neg h8, if_neg hin]⟩
      rw [HI.out.1, HI.out.2]
      have HIN := Lib.hid hin
      clear hin
      go_enter Try.func20, Try.ntmps20
      go_wp2_with fail
      refine (tupleOf_yes A ns c _ HA.out hn HN.out).mono ?_
      rintro e w1 ⟨rfl, ht1⟩
      have HT1 := Lib.hid ht1
      clear ht1
      rw [HB.out, tV9]
      have hK := number_keep b F (Ns.map tup) S b0 b1 b2 b3 b4 b5 b6 b7 b8 w1 (H.out.1.turn' HT1.out) H.out.2.1.nodup (by rw [← HB.out]; exact HG.out)
      rw [← HB.out, inB_tup, fnd_tup H.out.2.1, inB_false.2 HIN.out, fnd_out HIN.out] at hK
      have HK := Lib.hid hK
      clear hK
      go_wp2_with fail
      go_region_held3 (fun w' => w'.cell? ⟨w1.heap.size, 0, none⟩ = some (.int .i64 b0) ∧ w'.cell? ⟨w1.heap.size, 1, none⟩ = some (.int .i64 b1) ∧ w'.cell? ⟨w1.heap.size, 2, none⟩ = some (.int .i64 b2) ∧ w'.cell? ⟨w1.heap.size, 3, none⟩ = some (.int .i64 b3) ∧ w'.cell? ⟨w1.heap.size, 4, none⟩ = some (.int .i64 b4) ∧ w'.cell? ⟨w1.heap.size, 5, none⟩ = some (.int .i64 b5) ∧ w'.cell? ⟨w1.heap.size, 6, none⟩ = some (.int .i64 b6) ∧ w'.cell? ⟨w1.heap.size, 7, none⟩ = some (.int .i64 b7) ∧ w'.cell? ⟨w1.heap.size, 8, none⟩ = some (.int .i64 b8))
        (first | exact hn2 | go_keep)
        (first
          | (go_at_call 29; (with_reducible refine HK.out.mono ?_); rintro e w2 ⟨rfl, ht2, hn2⟩))
      have HT2 := Lib.hid (HT1.out.trans' ht2)
      obtain ⟨d0, d1, d2, d3, d4, d5, d6, d7, d8⟩ := hn2
      clear ht2
      have hE := enter_any b F (Ns.map tup) S [b0, b1, b2, b3, b4, b5, b6, b7, b8] w2.drew ((H.out.turn' HT2.out.drew).1) H.out.2.1.nine (by rw [← HB.out]; exact HG.out) (by rw [← HB.out]; exact fun e => HIN.out (mem_tup.1 e)) (by simpa using hl)
      rw [tV9, List.length_map] at hE
      have HE := Lib.hid hE
      clear hE
      go_wp2_with fail
      go_still_tail 4, (by kernel_rfl)
      change wpList _ _ _ _ _ w2.drew
      go_wp2_with fail
      (with_reducible refine HE.out.mono ?_)
      rintro e w3 ⟨rfl, F3, hq3, hf3, ht3⟩
      have HQ3 := Lib.hid hq3
      have HF3 := Lib.hid hf3
      have HT3 := Lib.hid ((HT2.out.drew.more (G := F) (by simp)).trans ht3 (fun g hg => .inl hg))
      clear hq3 hf3 ht3
      go_wp2_with fail
      go_ret
      refine ⟨rfl, F3, ⟨?_, H.out.2.1.snoc hn HW.out HIN.out, H.out.2.2⟩, (Foot.refl w.heap.size F).trans HF3.out (HT2.out.drew).size, HT3.out⟩
      rw [List.map_append, List.map_singleton, HB.out]
      exact HQ3.out
end Go.Proofs.Ytepkpllfdfbmiaa
