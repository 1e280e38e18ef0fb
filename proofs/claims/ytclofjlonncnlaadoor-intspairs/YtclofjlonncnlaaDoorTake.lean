/- Sets: take, Union, Merge. -/
import Derived.Test.YtclofjlonncnlaaDoorTh3
set_option linter.unusedSimpArgs false
set_option linter.unusedVariables false
namespace Go.Proofs.YtclofjlonncnlaaDoor
open Go.RowKit

def TakePost (b : Nat) (v : Value) (rs ts : List Row) (w : World) (e : Ending) (w' : World) : Prop :=
  ∃ bf vf v', e = .returned (.pointer (some ⟨bf, 0, none⟩)) ∧ SetAt w' bf vf (minusR ts rs) ∧ SetAt w' b v' (mergeR rs (minusR ts rs)) ∧ w.heap.size ≤ bf ∧ Turn (b :: v.ownBlock.toList) w w' ∧ Moved w v v'
set_option maxHeartbeats 1000000 in
theorem take_any (b : Nat) (v : Value) (rs : List Row) (q u : Value) (ts : List Row) (w : World) (h : SetAt w b v rs) (h' : SetV w q u ts) : Calls Tryd.prog 32 #[.pointer (some ⟨b, 0, none⟩), q] w (TakePost b v rs ts w) := by
  have H := Lib.hid h
  have H' := Lib.hid h'
  have hbl := h.lt
  clear h h'
  go_enter Tryd.func32, Tryd.ntmps32
  go_wp2_with fail
  refine (minus_any q u ts _ v rs _ H'.out (.inr ⟨b, rfl, H.out⟩)).mono ?_
  rintro e w1 ⟨bf, vf, rfl, hsf, hbf, hvf, ht1⟩
  have hs1 := H.out.turn' ht1
  have htot := total_merge H.out.ok H'.out.ok
  have hom := ok_merge H.out.ok (minusR_ok (ss := rs) H'.out.ok)
  have hrt := H.out.ok.total
  have hmt := hsf.ok.total
  generalize hms : minusR ts rs = ms at *
  obtain ⟨Af, cf, hvff, hrf, _⟩ := hsf.rows.form
  subst hvff
  have hlf := hsf.ok.len
  have c0 : w1.cell? ⟨bf, 0, none⟩ = some (.slice Af ms.length cf) := cell_of_row w1 bf 0 _ 39 (0, 0) hsf.blk
  have hAf : ∀ g, Af = some ⟨g, 0, none⟩ → g ≠ b ∧ v.ownBlock ≠ some g := by
    intro g hg
    have h1 := hvf g (by rw [hg]; rfl)
    refine ⟨by omega, fun e => ?_⟩
    have := (H.out.rows.lt g e).2
    omega
  have HSf := Lib.hid hsf
  have HVf := Lib.hid hvf
  have HT1 := Lib.hid ht1
  have HS1 := Lib.hid hs1
  have HRf := Lib.hid hrf
  have HAf := Lib.hid hAf
  have HTot := Lib.hid htot
  have HOm := Lib.hid hom
  have HMs := Lib.hid hms
  clear hsf hvf ht1 hs1 hrf hAf htot hom hms
  go_wp2_with fail
  refine (join_any b v rs ms Af _ cf _ HS1.out HRf.out rfl HSf.out.ok HAf.out).mono ?_
  rintro e w2 ⟨rfl, v2, hb2, ho2, ht2, hm2⟩
  have hsf2 : SetAt w2 bf (.slice Af ms.length cf) ms := HSf.out.turn ht2 (fun hmem => by
      rcases List.mem_cons.1 hmem with e | e
      · omega
      · have := (H.out.rows.lt bf (by simpa using e)).2
        omega) (fun g hg hmem => by
      have h1 := HVf.out g hg
      rcases List.mem_cons.1 hmem with e | e
      · omega
      · have := (H.out.rows.lt g (by simpa using e)).2
        omega)
  have d1 : w2.cell? ⟨b, 1, none⟩ = some (.int .i64 (total rs)) := cell_of_row w2 b 1 _ 39 (0, 0) hb2
  have e1 : w2.cell? ⟨bf, 1, none⟩ = some (.int .i64 (total ms)) := cell_of_row w2 bf 1 _ 39 (0, 0) hsf2.blk
  have f1 : w2.frozen? ⟨b, 1, none⟩ = false := frozen_of_row w2 b 1 _ 39 hb2
  have hne : bf ≠ b := by omega
  have HSf2 := Lib.hid hsf2
  have HB2 := Lib.hid hb2
  have HO2 := Lib.hid ho2
  have HT2 := Lib.hid ht2
  have HM2 := Lib.hid hm2
  clear hsf2 hb2 ho2 ht2 hm2
  generalize hrt' : total rs = tr at *
  generalize hmt' : total ms = tm at *
  have HTr := Lib.hid hrt'
  have HTm := Lib.hid hmt'
  clear hrt' hmt'
  go_wp2_with fail
  go_region
  go_wp2_with fail
  go_ret
  have hT3 : Turn [b] w2 ((w2.setCell ⟨b, 1, none⟩ (.int .i64 ((tr : Int) + (tm : Int)))).drew) := ((Turn.refl [b] w2).setCell (.inl (by simp)) _).drew
  have hblk3 : ((w2.setCell ⟨b, 1, none⟩ (.int .i64 ((tr : Int) + (tm : Int)))).drew).heap[b]? = some (.cells #[v2, .int .i64 ((tr : Int) + (tm : Int))] 39 (0, 0)) := heap_setCell_same w2 b 1 _ 39 _ HB2.out
  refine ⟨bf, .slice Af ms.length cf, v2, rfl, ?_, ?_, hbf, ?_, ?_⟩
  · rw [HMs.out]
    exact HSf2.out.turn hT3 (by simpa using hne) (fun g hg => by
      have := HSf2.out.rows.ne39 HB2.out
      intro hm
      exact this (by rw [hg]; simpa using hm))
  · rw [HMs.out]
    refine ⟨?_, HO2.out.turn hT3 (fun g hg => ?_), HOm.out⟩
    · rw [HTot.out, hblk3]
      simp
    · have := HO2.out.ne39 HB2.out
      intro hm
      exact this (by rw [hg]; simpa using hm)
  · exact ((HT1.out.more (by simp)).trans HT2.out (fun g hg => .inl hg)).trans hT3 (fun g hg => .inl (by
      have : g = b := by simpa using hg
      simp [this]))
  · rcases HM2.out with h1 | ⟨g, h1, h2⟩
    · exact .inl h1
    · exact .inr ⟨g, h1, Nat.le_trans HT1.out.size h2⟩
theorem ofL_self {l : List Int} (h : Sd l) (hk : ∀ x ∈ l, okB x = true) : ofL l = l :=
  sd_ext (sd_ofL l) h (fun x => by rw [mem_ofL]; exact ⟨fun h => h.1, fun h => ⟨h, hk x h⟩⟩)
theorem nums_nil : nums [] = [] := rfl
theorem SetV.turnF {F : List Nat} {w w' : World} {p v : Value} {rs : List Row} (h : SetV w p v rs) (t : Turn F w w') (hp : ∀ b, p = .pointer (some ⟨b, 0, none⟩) → b ∉ F) (hv : ∀ g, v.ownBlock = some g → g ∉ F) : SetV w' p v rs := by
  rcases h with h | ⟨b, e, h⟩
  · exact .inl h
  · exact .inr ⟨b, e, h.turn t (hp b e) hv⟩
theorem SetV.lt {w : World} {p v : Value} {rs : List Row} (h : SetV w p v rs) : (∀ b, p = .pointer (some ⟨b, 0, none⟩) → b < w.heap.size) ∧ (∀ g, v.ownBlock = some g → g < w.heap.size) := by
  rcases h with ⟨rfl, rfl, _⟩ | ⟨b, rfl, h⟩
  · exact ⟨(fun b e => by cases e), (fun g e => by simp [Value.ownBlock] at e)⟩
  · refine ⟨fun b' e => ?_, fun g e => (h.rows.lt g e).2⟩
    injection e with e
    injection e with e
    injection e with e
    subst e
    exact h.lt
set_option maxHeartbeats 1000000 in
theorem union_any (p v : Value) (rs : List Row) (q u : Value) (ts : List Row) (w : World) (h : SetV w p v rs) (h' : SetV w q u ts) : Calls Tryd.prog 19 #[p, q] w (NewSet w (unionL (nums rs) (nums ts))) := by
  have H := Lib.hid h
  have H' := Lib.hid h'
  clear h h'
  go_enter Tryd.func19, Tryd.ntmps19
  go_wp2_with fail
  refine (of_none _).mono ?_
  rintro e w1 ⟨rfl, hw1⟩
  have hs0 : SetAt w1 w.heap.size (.slice none 0 0) [] := by
    rw [hw1]
    exact ⟨heap_alloc_new w _, World.ownsRow_nil _ _ _ _, Ok.nil⟩
  have hT1 : Turn [] w w1 := by rw [hw1]; exact (Turn.refl _ _).alloc _
  have hz1 : w1.heap.size = w.heap.size + 1 := by rw [hw1]; simp
  have HS0 := Lib.hid hs0
  have HT1 := Lib.hid hT1
  have HZ1 := Lib.hid hz1
  clear hw1 hs0 hT1 hz1
  go_wp2_with fail
  refine (take_any w.heap.size (.slice none 0 0) [] p v rs _ HS0.out (H.out.turn' HT1.out)).mono ?_
  rintro e w2 ⟨bf, vf, v2, rfl, _, hs2, _, ht2, hm2⟩
  have HS2 := Lib.hid hs2
  have HT2 := Lib.hid (HT1.out.trans ht2 (fun g hg => .inr (by simp [Value.ownBlock] at hg; omega)))
  have HM2 := Lib.hid hm2
  clear hs2 ht2 hm2
  go_wp2_with fail
  refine (take_any w.heap.size v2 _ q u ts _ HS2.out (H'.out.turn' HT2.out)).mono ?_
  rintro e w3 ⟨bf3, vf3, v3, rfl, _, hs3, _, ht3, hm3⟩
  have HS3 := Lib.hid hs3
  have HT3 := Lib.hid ht3
  have HM3 := Lib.hid hm3
  clear hs3 ht3 hm3
  go_wp2_with fail
  go_ret
  have hv2 : ∀ g, v2.ownBlock = some g → w.heap.size ≤ g := by
    intro g hg
    rcases HM2.out with e | ⟨g', e, hge⟩
    · rw [e] at hg
      simp [Value.ownBlock] at hg
    · rw [e] at hg
      injection hg with hg
      have := HT1.out.size
      omega
  refine ⟨w.heap.size, v3, _, rfl, HS3.out, ?_, Nat.le_refl _, ?_, ?_⟩
  · rw [nums_merge HS2.out.ok H'.out.ok, nums_merge Ok.nil H.out.ok, nums_nil]
    congr 1
    unfold unionL
    rw [List.nil_append]
    exact ofL_self (sd_nums H.out.ok.asc) (fun x hx => okB_nums H.out.ok hx)
  · intro g hg
    rcases HM3.out with e | ⟨g', e, hge⟩
    · exact hv2 g (by rw [← e]; exact hg)
    · rw [e] at hg
      injection hg with hg
      have := HT2.out.size
      omega
  · exact HT2.out.trans HT3.out (fun g hg => by
      rcases List.mem_cons.1 hg with e | e
      · exact .inr (by omega)
      · exact .inr (hv2 g (by simpa using e)))
set_option maxHeartbeats 400000 in
theorem merge_nil (q : Value) (w : World) : Calls Tryd.prog 23 #[.pointer none, q] w fun e w' => e = .returned (.slice none 0 0) ∧ w = w' := by
  go_enter Tryd.func23, Tryd.ntmps23
  go_wp2
  go_ret
  exact ⟨rfl, rfl⟩
def MergePost (b : Nat) (v : Value) (rs ts : List Row) (w : World) (e : Ending) (w' : World) : Prop :=
  ∃ vl v' rs', e = .returned vl ∧ OwnI w' w.heap.size vl (minusL (nums ts) (nums rs)) ∧ SetAt w' b v' rs' ∧ nums rs' = unionL (nums rs) (nums ts) ∧ Turn (b :: v.ownBlock.toList) w w' ∧ Moved w v v'
set_option maxHeartbeats 400000 in
theorem merge_any (b : Nat) (v : Value) (rs : List Row) (q u : Value) (ts : List Row) (w : World) (h : SetAt w b v rs) (h' : SetV w q u ts) (hT : Tab w) (hb0 : 0 < b) (hv0 : ∀ g, v.ownBlock = some g → 0 < g) : Calls Tryd.prog 23 #[.pointer (some ⟨b, 0, none⟩), q] w (MergePost b v rs ts w) := by
  have H := Lib.hid h
  have H' := Lib.hid h'
  have HTab := Lib.hid hT
  have HV0 := Lib.hid hv0
  clear h h' hT hv0
  go_enter Tryd.func23, Tryd.ntmps23
  go_wp2_with fail
  refine (take_any b v rs q u ts _ H.out H'.out).mono ?_
  rintro e w1 ⟨bf, vf, v1, rfl, hsf, hs1, hbf, ht1, hm1⟩
  have hT1 : Tab w1 := HTab.out.turn ht1 (fun hg => by
    rcases List.mem_cons.1 hg with e | e
    · omega
    · have := HV0.out 0 (by simpa using e)
      omega)
  have HSf := Lib.hid hsf
  have HS1 := Lib.hid hs1
  have HT1 := Lib.hid ht1
  have HM1 := Lib.hid hm1
  have HTab1 := Lib.hid hT1
  clear hsf hs1 ht1 hm1 hT1
  go_wp2_with fail
  refine (list_any _ vf _ _ (.inr ⟨bf, rfl, HSf.out⟩) HTab1.out).mono ?_
  rintro e w2 ⟨vl, rfl, hol, ht2⟩
  have HOl := Lib.hid hol
  have HT2 := Lib.hid ht2
  clear hol ht2
  go_wp2_with fail
  go_ret
  refine ⟨vl, v1, _, rfl, ?_, HS1.out.turn' HT2.out, nums_merge H.out.ok H'.out.ok, HT1.out.trans' HT2.out, HM1.out⟩
  rw [← nums_minus H'.out.ok H.out.ok]
  exact HOl.out.mono HT1.out.size
end Go.Proofs.YtclofjlonncnlaaDoor
