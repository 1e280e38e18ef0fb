/- The queue's parts: holds, enter, leave; stand, first, length, all. -/
import Derived.Test.YtchccoolnelohaaMem
import Derived.Deep.DeepCutAuto
set_option linter.unusedSimpArgs false
set_option linter.unusedVariables false
namespace Go.Proofs.Ytchccoolnelohaa
open Go.RowKit Go.Maps

/-- Block b is a queue's memory: its members are s, its line is l, all within the blocks F. -/
structure QP (w : World) (b : Nat) (F : List Nat) (M V : Value) (s l : List Int) : Prop where
  blk : w.heap[b]? = some (.cells #[M, V] 47 (0, 0))
  fb : b ∈ F
  fl : ∀ g ∈ F, g < w.heap.size
  mb : Mb w M s
  ln : Ln w V l
  fm : ∀ m, M = .map (some m) → m ∈ F
  fv : ∀ g, V.ownBlock = some g → g ∈ F
def Q2 (w : World) (b : Nat) (F : List Nat) (s l : List Int) : Prop := ∃ M V, QP w b F M V s l

theorem QP.mne {w : World} {b : Nat} {F : List Nat} {M V : Value} {s l : List Int} (h : QP w b F M V s l) : ∀ m, M = .map (some m) → m ≠ b ∧ V.ownBlock ≠ some m := by
  intro m e
  have h1 := h.blk
  have h2 := h.ln
  rcases h.mb with ⟨e2, _⟩ | ⟨m', e2, hs⟩
  · rw [e] at e2; cases e2
  · rw [e] at e2
    cases e2
    obtain ⟨es, clock, hb⟩ := hs.blk
    refine ⟨fun e3 => ?_, fun e3 => ?_⟩
    · subst e3
      rw [hb] at h1
      cases h1
    · obtain ⟨_, cur, hc⟩ := h2.lt m e3
      rw [hb] at hc
      cases hc
theorem QP.vne {w : World} {b : Nat} {F : List Nat} {M V : Value} {s l : List Int} (h : QP w b F M V s l) : ∀ g, V.ownBlock = some g → g ≠ b := by
  intro g e e2
  obtain ⟨_, cur, hc⟩ := h.ln.lt g e
  rw [e2, h.blk] at hc
  cases hc
theorem QP.turn {F G : List Nat} {w w' : World} {b : Nat} {M V : Value} {s l : List Int} (h : QP w b F M V s l) (t : Turn G w w') (hn : ∀ g ∈ F, g ∉ G) : QP w' b F M V s l :=
  ⟨t.heap h.blk (hn b h.fb), h.fb, fun g hg => Nat.lt_of_lt_of_le (h.fl g hg) t.size, h.mb.turn t (fun m e => hn m (h.fm m e)), h.ln.turn t (fun g e => hn g (h.fv g e)), h.fm, h.fv⟩
theorem Q2.turn {F G : List Nat} {w w' : World} {b : Nat} {s l : List Int} (h : Q2 w b F s l) (t : Turn G w w') (hn : ∀ g ∈ F, g ∉ G) : Q2 w' b F s l := by
  obtain ⟨M, V, h⟩ := h
  exact ⟨M, V, h.turn t hn⟩
theorem Q2.turn' {F : List Nat} {w w' : World} {b : Nat} {s l : List Int} (h : Q2 w b F s l) (t : Turn [] w w') : Q2 w' b F s l := h.turn t (by simp)

/-- What a footprint may become: old blocks and new ones. -/
def Foot (n : Nat) (F F' : List Nat) : Prop := ∀ g ∈ F', g ∈ F ∨ n ≤ g
theorem Foot.refl (n : Nat) (F : List Nat) : Foot n F F := fun g h => .inl h
theorem Foot.trans {n n' : Nat} {F G H : List Nat} (h : Foot n F G) (k : Foot n' G H) (hn : n ≤ n') : Foot n F H := fun g hg => by
  rcases k g hg with h1 | h1
  · exact h g h1
  · exact .inr (by omega)

theorem heap_put {w : World} {b : Nat} {M V u : Value} (h : w.heap[b]? = some (.cells #[M, V] 47 (0, 0))) : (w.setCell ⟨b, 1, none⟩ u).heap[b]? = some (.cells #[M, u] 47 (0, 0)) := by
  simp only [World.setCell, Array.getElem?_modify, h]
  rfl
theorem heap_put0 {w : World} {b : Nat} {M V u : Value} (h : w.heap[b]? = some (.cells #[M, V] 47 (0, 0))) : (w.setCell ⟨b, 0, none⟩ u).heap[b]? = some (.cells #[u, V] 47 (0, 0)) := by
  simp only [World.setCell, Array.getElem?_modify, h]
  rfl

set_option maxHeartbeats 400000 in
theorem holds_any (b : Nat) (F : List Nat) (s l : List Int) (x : Int) (w : World) (h : Q2 w b F s l) (hx : (Lit.int .i64 x).wf = true) :
    Calls Try.prog 23 #[.pointer (some ⟨b, 0, none⟩), .int .i64 x] w fun e w' => e = .returned (.bool (inL s x)) ∧ Turn [] w w' := by
  obtain ⟨M, V, h⟩ := h
  have c0 : w.cell? ⟨b, 0, none⟩ = some M := cell_of_row w b 0 _ 47 (0, 0) h.blk
  have HM := Lib.hid h.mb
  have HX := Lib.hid hx
  clear h hx
  go_enter Try.func23, Try.ntmps23
  go_wp2_with (at_lookup; refine wpList_lookS _ rfl (.tmp 11) (.tmp 12) rfl M s rfl HM.out x rfl HX.out ?_)
  go_ret
  exact ⟨rfl, (Turn.refl _ _).alloc _⟩

def okQ (s : List Int) (x : Int) : Bool := decide (0 ≤ x) && decide (x < 1048576) && !inL s x

set_option maxHeartbeats 800000 in
theorem enter_no (b : Nat) (F : List Nat) (s l : List Int) (x : Int) (w : World) (h : Q2 w b F s l) (hk : okQ s x = false) :
    Calls Try.prog 19 #[.pointer (some ⟨b, 0, none⟩), .int .i64 x] w fun e w' => e = .returned (.bool false) ∧ Turn [] w w' := by
  have H := Lib.hid h
  clear h
  by_cases h0 : x < 0
  · have d : decide (x < 0) = true := by simpa using h0
    go_enter Try.func19, Try.ntmps19
    go_wp2_with fail
    go_ret
    exact ⟨rfl, Turn.refl _ _⟩
  · have d : decide (x < 0) = false := by simpa using h0
    by_cases h1 : (1048576 : Int) ≤ x
    · have d1 : decide ((1048576 : Int) ≤ x) = true := by simpa using h1
      go_enter Try.func19, Try.ntmps19
      go_wp2_with fail
      go_ret
      exact ⟨rfl, Turn.refl _ _⟩
    · have d1 : decide ((1048576 : Int) ≤ x) = false := by simpa using h1
      have hin : inL s x = true := by
        unfold okQ at hk
        have e1 : decide (0 ≤ x) = true := by simp; omega
        have e2 : decide (x < 1048576) = true := by simp; omega
        rw [e1, e2] at hk
        simpa using hk
      have HI := Lib.hid hin
      have HW := Lib.hid (wf_small (i := x) (by omega) (by omega))
      clear hin hk
      go_enter Try.func19, Try.ntmps19
      go_wp2_with fail
      refine (holds_any b F s l x _ H.out HW.out).mono ?_
      rw [HI.out]
      rintro e w1 ⟨rfl, ht1⟩
      have HT1 := Lib.hid ht1
      clear ht1
      go_wp2_with fail
      go_ret
      exact ⟨rfl, HT1.out⟩

theorem map_nil_eq (w : World) : (binOp .eql 41 (.map none) (.map none)).run Try.prog w = .ok (.bool true) w := by kernel_rfl
theorem map_some_eq (m : Nat) (w : World) : (binOp .eql 41 (.map (some m)) (.map none)).run Try.prog w = .ok (.bool false) w := by kernel_rfl
attribute [local go_sem] map_nil_eq map_some_eq

set_option maxHeartbeats 800000 in
theorem enter_yes (b : Nat) (F : List Nat) (s l : List Int) (x : Int) (w : World) (h : Q2 w b F s l) (hk : okQ s x = true) (hs : s.length ≤ 10000000) :
    Calls Try.prog 19 #[.pointer (some ⟨b, 0, none⟩), .int .i64 x] w fun e w' => e = .returned (.bool true) ∧ ∃ F', Q2 w' b F' (s ++ [x]) l ∧ Foot w.heap.size F F' ∧ Turn F w w' := by
  have H := Lib.hid h
  have hk' := hk
  unfold okQ at hk'
  simp at hk'
  obtain ⟨⟨h0, h1⟩, hin⟩ := hk'
  have d : decide (x < 0) = false := by simp; omega
  have d1 : decide ((1048576 : Int) ≤ x) = false := by simp; omega
  have HI := Lib.hid hin
  have HW := Lib.hid (wf_small h0 h1)
  clear hin hk h
  go_enter Try.func19, Try.ntmps19
  go_wp2_with fail
  refine (holds_any b F s l x _ H.out HW.out).mono ?_
  rw [HI.out]
  rintro e w1 ⟨rfl, ht1⟩
  have HT1 := Lib.hid ht1
  obtain ⟨M, V, hq⟩ := H.out.turn' ht1
  have c0 : w1.cell? ⟨b, 0, none⟩ = some M := cell_of_row w1 b 0 _ 47 (0, 0) hq.blk
  have f0 : w1.frozen? ⟨b, 0, none⟩ = false := frozen_of_row w1 b 0 _ 47 hq.blk
  have HQ := Lib.hid hq
  clear ht1 hq
  rcases HQ.out.mb with ⟨rfl, hs0⟩ | ⟨m, rfl, hm⟩
  · have hmm := @run_makeMap Try.prog
    have HS := Lib.hid hs0
    have hbw : b < w1.heap.size := HQ.out.fl b HQ.out.fb
    have HM : Hid (SetF ((w1.setCell ⟨b, 0, none⟩ (.map (some w1.heap.size))).alloc (.map #[] 0)) w1.heap.size s) := Lib.hid (by
      rw [HS.out]
      have := SetF.made (w1.setCell ⟨b, 0, none⟩ (.map (some w1.heap.size)))
      simpa using this)
    have HMs := Lib.hid hs
    clear hs0 hs
    go_wp2_with (at_mapUpdate; refine wpList_storeS _ rfl _ _ _ rfl w1.heap.size s rfl HM.out HMs.out x rfl rfl HW.out HI.out ?_; intro w2 hm2 ht2)
    go_ret
    have tA : Turn [b] w1 ((w1.setCell ⟨b, 0, none⟩ (.map (some w1.heap.size))).alloc (.map #[] 0)) := ((Turn.refl [b] w1).setCell (.inl (by simp)) _).alloc _
    have tB : Turn [b] w1 w2 := tA.trans ht2 (by simp)
    refine ⟨rfl, w1.heap.size :: F, ⟨.map (some w1.heap.size), V, ?_, ?_, ?_, .inr ⟨_, rfl, hm2⟩, ?_, ?_, ?_⟩, ?_, ?_⟩
    · exact ht2.heap (((Turn.refl [] _).alloc _).heap (heap_put0 HQ.out.blk) (by simp)) (by simp; omega)
    · exact List.mem_cons_of_mem _ HQ.out.fb
    · intro g hg
      rcases List.mem_cons.1 hg with rfl | hg
      · exact hm2.lt
      · exact Nat.lt_of_lt_of_le (HQ.out.fl g hg) tB.size
    · exact HQ.out.ln.turn tB (fun g hg => by simpa using HQ.out.vne g hg)
    · intro m e
      cases e
      simp
    · exact fun g hg => List.mem_cons_of_mem _ (HQ.out.fv g hg)
    · intro g hg
      rcases List.mem_cons.1 hg with rfl | hg
      · exact .inr HT1.out.size
      · exact .inl hg
    · exact (HT1.out.more (G := F) (by simp)).trans tB (by simpa using .inl HQ.out.fb)
  · have hmb := (HQ.out.mne m rfl).1
    have hmv := (HQ.out.mne m rfl).2
    have hmF := HQ.out.fm m rfl
    have HMV := Lib.hid hmv
    clear hmv
    go_wp2_with (at_mapUpdate; refine wpList_storeS _ rfl _ _ _ rfl m s rfl hm hs x rfl rfl HW.out HI.out ?_; intro w2 hm2 ht2)
    go_ret
    refine ⟨rfl, F, ⟨.map (some m), V, ht2.heap HQ.out.blk (by simpa using Ne.symm hmb), HQ.out.fb, fun g hg => Nat.lt_of_lt_of_le (HQ.out.fl g hg) ht2.size, .inr ⟨_, rfl, hm2⟩, ?_, HQ.out.fm, HQ.out.fv⟩, Foot.refl _ _, ?_⟩
    · exact HQ.out.ln.turn ht2 (fun g hg => by
        have := HMV.out
        rw [hg] at this
        simpa using fun e => this (by rw [e]))
    · exact (HT1.out.more (G := F) (by simp)).trans ht2 (by simpa using .inl hmF)

set_option maxHeartbeats 800000 in
theorem leave_any (b : Nat) (F : List Nat) (s l : List Int) (x : Int) (w : World) (h : Q2 w b F (x :: s) l) (hn : inL s x = false) (hx : (Lit.int .i64 x).wf = true) :
    Calls Try.prog 18 #[.pointer (some ⟨b, 0, none⟩), .int .i64 x] w fun e w' => e = .returned (.tuple #[]) ∧ Q2 w' b F s l ∧ Turn F w w' := by
  obtain ⟨M, V, hq⟩ := h
  have c0 : w.cell? ⟨b, 0, none⟩ = some M := cell_of_row w b 0 _ 47 (0, 0) hq.blk
  have HQ := Lib.hid hq
  have HN := Lib.hid hn
  have HX := Lib.hid hx
  clear hq hn hx
  rcases HQ.out.mb with ⟨_, hs0⟩ | ⟨m, rfl, hm⟩
  · cases hs0
  · have hmb := (HQ.out.mne m rfl).1
    have hmF := HQ.out.fm m rfl
    have HMV := Lib.hid (HQ.out.mne m rfl).2
    have HM := Lib.hid hm
    clear hm
    go_enter Try.func18, Try.ntmps18
    go_wp2_with (at_delete; refine wpList_dropS _ rfl (.tmp 7) (.tmp 8) rfl m s rfl x HM.out rfl HX.out HN.out ?_; intro w2 hm2 ht2)
    go_end0
    refine ⟨rfl, ⟨.map (some m), V, ht2.heap HQ.out.blk (by simpa using Ne.symm hmb), HQ.out.fb, fun g hg => Nat.lt_of_lt_of_le (HQ.out.fl g hg) ht2.size, .inr ⟨_, rfl, hm2⟩, ?_, HQ.out.fm, HQ.out.fv⟩, ht2.more (by simpa using .inl hmF)⟩
    exact HQ.out.ln.turn ht2 (fun g hg => by
        have := HMV.out
        rw [hg] at this
        simpa using fun e => this (by rw [e]))

set_option maxHeartbeats 800000 in
theorem stand_any (b : Nat) (F : List Nat) (s l : List Int) (x : Int) (w : World) (h : Q2 w b F s l) (hl : l.length ≤ 10000000) :
    Calls Try.prog 20 #[.pointer (some ⟨b, 1, none⟩), .int .i64 x] w fun e w' => e = .returned (.tuple #[]) ∧ ∃ F', Q2 w' b F' s (l ++ [x]) ∧ Foot w.heap.size F F' ∧ Turn F w w' := by
  obtain ⟨M, V, hq⟩ := h
  have c1 : w.cell? ⟨b, 1, none⟩ = some V := cell_of_row w b 1 _ 47 (0, 0) hq.blk
  have f1 : w.frozen? ⟨b, 1, none⟩ = false := frozen_of_row w b 1 _ 47 hq.blk
  have hvb : ∀ g, V.ownBlock = some g → g ≠ b := hq.vne
  have hbl : b < w.heap.size := hq.fl b hq.fb
  have HVB := Lib.hid hvb
  have hnb : b ∉ V.ownBlock.toList := fun hm => by
    cases e : V.ownBlock with
    | none => rw [e] at hm; simp at hm
    | some g => rw [e] at hm; simp at hm; exact hvb g e hm.symm
  have HNB := Lib.hid hnb
  have HQ := Lib.hid hq
  clear hq hvb hnb
  go_enter Try.func20, Try.ntmps20
  go_wp2_with (at_builtin; refine wpList_appQ rfl (.tmp 8) (.tmp 10) rfl w V l x _ rfl HQ.out.ln rfl hl ?_; intro v' w2 hl2 ht2 hv2; obtain ⟨A2, n2, rfl, _, _⟩ := hl2.form; have hb2 := ht2.heap HQ.out.blk HNB.out; have c2 : w2.cell? ⟨b, 1, none⟩ = some V := cell_of_row w2 b 1 _ 47 (0, 0) hb2; have f2 : w2.frozen? ⟨b, 1, none⟩ = false := frozen_of_row w2 b 1 _ 47 hb2; have HB2 := Lib.hid hb2; have HL2 := Lib.hid hl2; have HT2 := Lib.hid ht2; have HV2 := Lib.hid hv2; clear hl2 ht2 hv2 hb2)
  go_end0
  have hL2 := HL2.out
  have hV2 := HV2.out
  generalize hv : Value.slice A2 (l.length + 1) n2 = v at *
  rw [show Value.slice A2 (l ++ [x]).length n2 = v by rw [← hv]; simp] at hL2 hV2
  have hgb : ∀ g, v.ownBlock = some g → g ≠ b := by
    intro g hg
    rcases hV2 with e | ⟨g', e, h1, _⟩
    · exact HVB.out g (by rw [← e]; exact hg)
    · rw [hg] at e
      cases e
      omega
  have tS : Turn [b] w2 (w2.setCell ⟨b, 1, none⟩ v) := (Turn.refl [b] w2).setCell (.inl (by simp)) _
  have hF : ∀ g ∈ V.ownBlock.toList, g ∈ F ∨ w.heap.size ≤ g := fun g hg => by
    cases e : V.ownBlock with
    | none => rw [e] at hg; simp at hg
    | some g' => rw [e] at hg; simp at hg; exact .inl (by rw [hg]; exact HQ.out.fv g' e)
  have tF : Turn F w w2 := HT2.out.more hF
  refine ⟨rfl, v.ownBlock.toList ++ F, ⟨M, v, heap_put HB2.out, List.mem_append_right _ HQ.out.fb, ?_, ?_, hL2.turn tS (fun g hg => by simpa using hgb g hg), fun m e => List.mem_append_right _ (HQ.out.fm m e), fun g e => List.mem_append_left _ (by simp [e])⟩, ?_, tF.trans tS (by simpa using .inl HQ.out.fb)⟩
  · intro g hg
    rcases List.mem_append.1 hg with hg | hg
    · refine Nat.lt_of_lt_of_le (hL2.lt g (by simpa using hg)).1 tS.size
    · exact Nat.lt_of_lt_of_le (HQ.out.fl g hg) (Nat.le_trans tF.size tS.size)
  · refine (HQ.out.mb.turn HT2.out ?_).turn tS (fun m e => by simpa using (HQ.out.mne m e).1)
    intro m e hm
    exact (HQ.out.mne m e).2 (by simpa using hm)
  · intro g hg
    rcases List.mem_append.1 hg with hg | hg
    · rcases hV2 with e | ⟨g', e, h1, _⟩
      · rw [e] at hg
        exact hF g hg
      · rw [e] at hg
        simp at hg
        exact .inr (by omega)
    · exact .inl hg

theorem QP.put {w : World} {b : Nat} {F : List Nat} {M V V' : Value} {s l l' : List Int} (h : QP w b F M V s l) (hL : Ln w V' l') (hv : ∀ g, V'.ownBlock = some g → V.ownBlock = some g) :
    Q2 (w.setCell ⟨b, 1, none⟩ V') b F s l' ∧ Turn F w (w.setCell ⟨b, 1, none⟩ V') := by
  have tS : Turn [b] w (w.setCell ⟨b, 1, none⟩ V') := (Turn.refl [b] w).setCell (.inl (by simp)) _
  refine ⟨⟨M, V', heap_put h.blk, h.fb, fun g hg => Nat.lt_of_lt_of_le (h.fl g hg) tS.size, h.mb.turn tS (fun m e => by simpa using (h.mne m e).1), hL.turn tS (fun g hg => by simpa using h.vne g (hv g hg)), h.fm, fun g hg => h.fv g (hv g hg)⟩, tS.more (by simpa using .inl h.fb)⟩

set_option maxHeartbeats 800000 in
theorem first_any (b : Nat) (F : List Nat) (s l : List Int) (x : Int) (w : World) (h : Q2 w b F s (x :: l)) (hl : l.length ≤ 10000000) :
    Calls Try.prog 17 #[.pointer (some ⟨b, 1, none⟩)] w fun e w' => e = .returned (.int .i64 x) ∧ Q2 w' b F s l ∧ Turn F w w' := by
  obtain ⟨M, V, hq⟩ := h
  have hvb : ∀ g, V.ownBlock = some g → g ≠ b := hq.vne
  have f1 : w.frozen? ⟨b, 1, none⟩ = false := frozen_of_row w b 1 _ 47 hq.blk
  obtain ⟨A, c, rfl, hI, hc⟩ := hq.ln.form
  obtain ⟨g, off, rfl, hg, hcell⟩ := hI 0 x rfl
  have c1 : w.cell? ⟨b, 1, none⟩ = some (.slice (some ⟨g, off, none⟩) (l.length + 1) c) := cell_of_row w b 1 _ 47 (0, 0) hq.blk
  have hgb : g ≠ b := hvb g rfl
  have hT := Ln.tail (x := x) (l := l) hq.ln
  have HP := Lib.hid (hq.put hT.1 hT.2)
  rw [Nat.add_zero] at hcell
  rw [List.length_cons] at hc
  clear hq hvb hI hT
  by_cases e1 : c = 1
  · subst e1
    go_enter Try.func17, Try.ntmps17
    go_wp2_with fail
    go_ret
    have := HP.out
    simp only [tailV, if_true, show l.length = 0 by omega] at this
    exact ⟨rfl, this.1, this.2⟩
  · go_enter Try.func17, Try.ntmps17
    go_wp2_with fail
    go_ret
    have := HP.out
    simp only [tailV, if_neg e1, Option.map_some, Addr.add_lit] at this
    exact ⟨rfl, this.1, this.2⟩

theorem length_any (b : Nat) (F : List Nat) (s l : List Int) (w : World) (h : Q2 w b F s l) :
    Calls Try.prog 21 #[.pointer (some ⟨b, 1, none⟩)] w fun e w' => e = .returned (.int .i64 (l.length : Int)) ∧ w = w' := by
  obtain ⟨M, V, hq⟩ := h
  obtain ⟨A, c, rfl, hI, hc⟩ := hq.ln.form
  have c1 : w.cell? ⟨b, 1, none⟩ = some (.slice A l.length c) := cell_of_row w b 1 _ 47 (0, 0) hq.blk
  clear hq hI
  go_enter Try.func21, Try.ntmps21
  go_wp2_with fail
  go_ret
  exact ⟨rfl, rfl⟩

theorem eq26_nil (w : World) : (binOp .eql 26 (.slice none 0 0) (.slice none 0 0)).run Try.prog w = .ok (.bool true) w := by kernel_rfl
theorem eq26_some (a : Addr) (n c : Nat) (w : World) : (binOp .eql 26 (.slice (some a) n c) (.slice none 0 0)).run Try.prog w = .ok (.bool false) w := by kernel_rfl
attribute [local go_sem] eq26_nil eq26_some

/-- append of a slice in one row onto an empty slice that has no room. -/
theorem wpList_clone {ops : Array Oper} {rest : List Oper} {o : Oper} {a : Act} {Q : Exit → Act → World → Prop} (hgd : o.guard = none) (s x : Operand)
    (ho : o.op = .call { callee := .builtin .append, args := #[s, x], argTypes := #[26, 26] })
    (W : World) (l : List Int) (A : Addr) (c : Nat) (hs : a.eval s = .slice (some ⟨W.heap.size, 0, none⟩) 0 0) (hx : a.eval x = .slice (some A) l.length c) (hr : Ints W (some A) l)
    (hl : l.length ≤ 1000000)
    (h : ∀ v' w', OwnI w' W.heap.size v' l → Turn [] W w' → wpList Try.prog ops Q rest (a.put o.dst v') w') :
    wpList Try.prog ops Q (o :: rest) a (W.alloc (.cells #[] 3)) := by
  refine wpList_appAll hgd s x ho (W.alloc (.cells #[] 3)) W.heap.size (.slice (some ⟨W.heap.size, 0, none⟩) 0 0) [] l (some A) l.length c hs ?_ hx (hr.below ((Turn.refl [] W).alloc _)) rfl (by simp) hl (by simp) ?_
  · exact World.ownsRow_made W #[] 0 (Nat.le_refl _) (by unfold maxLen; omega) rfl
  · intro v' w' ho2 ht2 _
    exact h v' w' (by simpa using ho2) (((Turn.refl [] W).alloc _).trans ht2 (by simp [Value.ownBlock]))

set_option maxHeartbeats 800000 in
theorem clone_any (v : Value) (l : List Int) (w : World) (h : Ln w v l) (hl : l.length ≤ 1000000) :
    Calls Try.prog 24 #[v] w fun e w' => ∃ v', e = .returned v' ∧ OwnI w' w.heap.size v' l ∧ Turn [] w w' := by
  rcases h with ⟨rfl, rfl⟩ | ⟨g, off, c, cur, rfl, r⟩
  · go_enter Try.func24, Try.ntmps24
    go_wp2_with fail
    go_ret
    exact ⟨_, rfl, OwnI.nil _ _, Turn.refl _ _⟩
  · have hI : Ints w (some ⟨g, off, none⟩) l := by
      obtain ⟨A, c', e, hI, _⟩ := Ln.form (.inr ⟨g, off, c, cur, rfl, r⟩ : Ln w (.slice (some ⟨g, off, none⟩) l.length c) l)
      cases e
      exact hI
    have HI := Lib.hid hI
    clear hI r
    go_enter Try.func24, Try.ntmps24
    go_wp2_with (at_builtin; refine wpList_clone rfl (.tmp 5) (.tmp 6) rfl w l ⟨g, off, none⟩ c rfl rfl HI.out hl ?_; intro v' w2 ho2 ht2)
    go_ret
    exact ⟨_, rfl, ho2, ht2⟩

theorem all_any (b : Nat) (F : List Nat) (s l : List Int) (w : World) (h : Q2 w b F s l) (hl : l.length ≤ 1000000) :
    Calls Try.prog 22 #[.pointer (some ⟨b, 1, none⟩)] w fun e w' => ∃ v', e = .returned v' ∧ OwnI w' w.heap.size v' l ∧ Turn [] w w' := by
  obtain ⟨M, V, hq⟩ := h
  have c1 : w.cell? ⟨b, 1, none⟩ = some V := cell_of_row w b 1 _ 47 (0, 0) hq.blk
  have HL := Lib.hid hq.ln
  clear hq
  go_enter Try.func22, Try.ntmps22
  go_wp2_with fail
  refine (clone_any V l _ HL.out hl).mono ?_
  rintro e w1 ⟨v', rfl, ho, ht⟩
  have HO := Lib.hid ho
  have HT := Lib.hid ht
  clear ho ht
  go_wp2_with fail
  go_ret
  exact ⟨_, rfl, HO.out, HT.out⟩
end Go.Proofs.Ytchccoolnelohaa
