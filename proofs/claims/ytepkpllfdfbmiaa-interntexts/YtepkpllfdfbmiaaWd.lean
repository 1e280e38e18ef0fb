/- The numbering of texts: number, enter, thing, all; Word, Text, Texts. -/
import Derived.Test.YtepkpllfdfbmiaaWs
set_option linter.unusedSimpArgs false
set_option linter.unusedVariables false
namespace Go.Proofs.Ytepkpllfdfbmiaa
open Go.RowKit Go.Maps

theorem law9 : Keyed Try.prog 9 := string_keyed Try.underlying9
theorem Gs.key {s : ByteArray} (h : Gs s) : keyOf Try.prog 9 (.string s) = some (sK s) := Go.WideMaps.keyOf_string_mk Try.underlying9 h
theorem gs_inj : ∀ a b, Gs a → Gs b → sK a = sK b → a = b := fun a b _ _ h => by
  unfold sK at h
  injection h with h
  exact ByteArray.ext (by simpa using h)

theorem map52_nil (w : World) : (binOp .eql 52 (.map none) (.map none)).run Try.prog w = .ok (.bool true) w := by kernel_rfl
theorem map52_some (m : Nat) (w : World) : (binOp .eql 52 (.map (some m)) (.map none)).run Try.prog w = .ok (.bool false) w := by kernel_rfl
theorem eq28_nil (w : World) : (binOp .eql 28 (.slice none 0 0) (.slice none 0 0)).run Try.prog w = .ok (.bool true) w := by kernel_rfl
theorem eq28_some (a : Addr) (n c : Nat) (w : World) : (binOp .eql 28 (.slice (some a) n c) (.slice none 0 0)).run Try.prog w = .ok (.bool false) w := by kernel_rfl
attribute [local go_sem] map52_nil map52_some eq28_nil eq28_some

theorem numberS_any (b : Nat) (F : List Nat) (L : List (List Int)) (S : List ByteArray) (s : ByteArray) (w : World) (h : Tb w b F L S) (hS : S.Nodup) (hs : Gs s) :
    Calls Try.prog 32 #[.pointer (some ⟨b, 2, none⟩), .string s] w fun e w' => e = .returned (.tuple #[.int .i64 (fnd S s : Int), .bool (inB S s)]) ∧ w = w' := by
  obtain ⟨M, V, M2, V2, h⟩ := h
  have c2 : w.cell? ⟨b, 2, none⟩ = some M2 := cell_of_row w b 2 _ 58 (0, 0) h.blk
  have hl := h.mb2.look law9 Try.underlying52 hS hs hs.key
  clear h
  go_enter Try.func32, Try.ntmps32
  go_wp2_with fail
  go_ret2
  exact ⟨rfl, rfl⟩

theorem OwnS.form {w : World} {B : Nat} {v : Value} {S : List ByteArray} (h : OwnS w B v S) : ∃ A c, v = .slice A S.length c ∧ S.length ≤ c ∧ (∀ a, A = some a → ∃ g, a = ⟨g, 0, none⟩ ∧ g < w.heap.size) ∧ (A = none → S.length = 0 ∧ c = 0) ∧ ∀ (i : Nat) (s : ByteArray), S[i]? = some s → ∃ g, A = some ⟨g, 0, none⟩ ∧ g < w.heap.size ∧ w.cell? ⟨g, i, none⟩ = some (.string s) := by
  rcases h.2 with ⟨rfl, hn⟩ | ⟨g, cap, cur, rfl, hb, hg, hnc, _, _, ht⟩
  · refine ⟨none, 0, by rw [hn], by omega, (fun a e => by cases e), fun _ => ⟨hn, rfl⟩, fun i s hi => ?_⟩
    rw [List.eq_nil_of_length_eq_zero hn] at hi
    simp at hi
  · refine ⟨_, cap, rfl, hnc, (fun a e => ⟨g, by cases e; rfl, (Array.getElem?_eq_some_iff.1 hg).1⟩), (fun e => by cases e), fun i s hi => ⟨g, rfl, (Array.getElem?_eq_some_iff.1 hg).1, ?_⟩⟩
    have hil : i < S.length := (List.getElem?_eq_some_iff.1 hi).1
    rw [World.ownsRow.cellAt (cap := cap) h i (by omega)]
    simp [hi]

/-- append of one text, laid in a block of its own just ahead, onto a slice of the program's own. -/
theorem wpList_appS {ops : Array Oper} {rest : List Oper} {o : Oper} {a : Act} {Q : Exit → Act → World → Prop} (hgd : o.guard = none) (s x : Operand)
    (ho : o.op = .call { callee := .builtin .append, args := #[s, x], argTypes := #[28, 28] })
    (W : World) (v : Value) (S : List ByteArray) (t : ByteArray) (c : Nat) (hs : a.eval s = v) (hown : OwnS W 0 v S) (hx : a.eval x = .slice (some ⟨W.heap.size, 0, none⟩) 1 c)
    (hl : S.length ≤ 1000000)
    (h : ∀ v' w', OwnS w' 0 v' (S ++ [t]) → Turn v.ownBlock.toList W w' → (v'.ownBlock = v.ownBlock ∨ ∃ g, v'.ownBlock = some g ∧ W.heap.size ≤ g) → wpList Try.prog ops Q rest (a.put o.dst v') w') :
    wpList Try.prog ops Q (o :: rest) a (W.alloc (.cells #[.string t] 9)) := by
  obtain ⟨i0, hi0, hz0, hz1, hz2⟩ := info_parts string_info
  refine wpList_append_own_at (W.alloc (.cells #[.string t] 9)) hgd s x 28 ho 0 9 i0 _ 1 16 Try.underlying28 hi0 hz0 hz1 hz2 rfl (by omega) v S.length _ hs
    (Turn.owns ((Turn.refl [] W).alloc _) hown (by simp)) ⟨W.heap.size, 0, none⟩ 1 c [.string t] hx rfl (cell_one_new _ _ _) (by simp [Value.oneCell']) (by simp only [maxLen]; omega) (by omega) (Nat.zero_le _) ?_
  intro v' w' h1 h2 _ h4
  refine h v' w' ?_ (((Turn.refl _ W).alloc _).grown h2 (fun k hk => .inl (by simp [hk]))) ?_
  · unfold OwnS
    rw [List.length_append, List.map_append]
    exact h1
  · rcases h4 with h4 | h4
    · exact .inl h4
    · exact .inr ⟨_, h4, by simp⟩

theorem TP.entered2 {w w' : World} {b m : Nat} {F : List Nat} {M V V2 v : Value} {L : List (List Int)} {S : List ByteArray} {s : ByteArray} (h : TP w b F M V (.map (some m)) V2 L S) (hm : MK 9 sK Gs w' m (S ++ [s])) (hv : OwnS w' 0 v (S ++ [s]))
    (t1 : Turn (m :: V2.ownBlock.toList) w w') (hvb : v.ownBlock = V2.ownBlock ∨ ∃ g, v.ownBlock = some g ∧ w.heap.size ≤ g) :
    Tb (w'.setCell ⟨b, 3, none⟩ v) b (v.ownBlock.toList ++ F) L (S ++ [s]) ∧ Foot w.heap.size F (v.ownBlock.toList ++ F) ∧ Turn F w (w'.setCell ⟨b, 3, none⟩ v) := by
  have hbl : b < w.heap.size := h.fl b h.fb
  have hmm := h.mne2 (m := m) rfl
  have hF : ∀ g ∈ m :: V2.ownBlock.toList, g ∈ F ∨ w.heap.size ≤ g := fun g hg => by
    rcases List.mem_cons.1 hg with rfl | hg
    · exact .inl (h.fm2 _ rfl)
    · exact .inl (h.fv2 g (by simpa using hg))
  have tF : Turn F w w' := t1.more hF
  have hb : b ∉ m :: V2.ownBlock.toList := fun hg => by
    rcases List.mem_cons.1 hg with e | hg
    · exact hmm.1 e.symm
    · exact (h.vne2 (by simpa using hg)).1 rfl
  have tS : Turn [b] w' (w'.setCell ⟨b, 3, none⟩ v) := (Turn.refl [b] w').setCell (.inl (by simp)) _
  have hvne : ∀ g, v.ownBlock = some g → g ≠ b := by
    intro g hg
    rcases hvb with e | ⟨g', e, h1⟩
    · exact (h.vne2 (by rw [← e]; exact hg)).1
    · rw [hg] at e
      cases e
      omega
  refine ⟨⟨M, V, .map (some m), v, heap4_3 (t1.heap h.blk hb), List.mem_append_right _ h.fb, ?_, ?_, ?_, .inr ⟨m, rfl, hm.turn tS (by simpa using hmm.1)⟩, Turn.owns tS hv (fun g hg => by simpa using hvne g hg), ?_, ?_, ?_, ?_, h.am⟩, ?_, tF.trans tS (by simpa using .inl h.fb)⟩
  · intro g hg
    rcases List.mem_append.1 hg with hg | hg
    · exact Nat.lt_of_lt_of_le (World.ownsRow.lt hv g (by simpa using hg)).2 tS.size
    · exact Nat.lt_of_lt_of_le (h.fl g hg) (Nat.le_trans tF.size tS.size)
  · refine (h.mb.turn t1 ?_).turn tS (fun m' e => by simpa using (h.mne e).1)
    intro m' e hg
    rcases List.mem_cons.1 hg with e2 | hg
    · subst e2
      exact h.am m' e rfl
    · exact (h.mne e).2.2 (by simpa using hg)
  · refine Turn.owns tS (Turn.owns t1 h.row ?_) (fun g e => by simpa using (h.vne e).1)
    intro g e hg
    rcases List.mem_cons.1 hg with e2 | hg
    · subst e2
      exact hmm.2.1 e
    · exact (h.vne e).2 (by simpa using hg)
  · exact fun m' e => List.mem_append_right _ (h.fm m' e)
  · exact fun g e => List.mem_append_right _ (h.fv g e)
  · exact fun m' e => List.mem_append_right _ (h.fm2 m' e)
  · exact fun g e => List.mem_append_left _ (by simp [e])
  · intro g hg
    rcases List.mem_append.1 hg with hg | hg
    · rcases hvb with e | ⟨g', e, h1⟩
      · rw [e] at hg
        exact .inl (h.fv2 g (by simpa using hg))
      · rw [e] at hg
        simp at hg
        exact .inr (by omega)
    · exact .inl hg
theorem TP.made2 {w : World} {b : Nat} {F : List Nat} {M V V2 : Value} {L : List (List Int)} {S : List ByteArray} (h : TP w b F M V (.map none) V2 L S) :
    TP ((w.setCell ⟨b, 2, none⟩ (.map (some w.heap.size))).alloc (.map #[] 0)) b (w.heap.size :: F) M V (.map (some w.heap.size)) V2 L S ∧ Turn F w ((w.setCell ⟨b, 2, none⟩ (.map (some w.heap.size))).alloc (.map #[] 0)) := by
  have hbl : b < w.heap.size := h.fl b h.fb
  have hL : S = [] := by
    rcases h.mb2 with ⟨_, e⟩ | ⟨m, e, _⟩
    · exact e
    · cases e
  have tA : Turn [b] w ((w.setCell ⟨b, 2, none⟩ (.map (some w.heap.size))).alloc (.map #[] 0)) := ((Turn.refl [b] w).setCell (.inl (by simp)) _).alloc _
  have hlt : w.heap.size < ((w.setCell ⟨b, 2, none⟩ (.map (some w.heap.size))).alloc (.map #[] 0)).heap.size := by simp
  refine ⟨⟨((Turn.refl [] _).alloc _).heap (heap4_2 h.blk) (by simp), List.mem_cons_of_mem _ h.fb, ?_, h.mb.turn tA (fun m e => by simpa using (h.mne e).1), Turn.owns tA h.row (fun g e => by simpa using (h.vne e).1), .inr ⟨_, rfl, ?_⟩, Turn.owns tA h.row2 (fun g e => by simpa using (h.vne2 e).1), ?_, ?_, ?_, ?_, ?_⟩, tA.more (by simpa using .inl h.fb)⟩
  · intro g hg
    rcases List.mem_cons.1 hg with rfl | hg
    · exact hlt
    · exact Nat.lt_of_lt_of_le (h.fl g hg) tA.size
  · rw [hL]
    have := MK.made (k := 9) (κ := sK) (G := Gs) (w.setCell ⟨b, 2, none⟩ (.map (some w.heap.size)))
    simpa using this
  · exact fun m e => List.mem_cons_of_mem _ (h.fm m e)
  · exact fun g e => List.mem_cons_of_mem _ (h.fv g e)
  · intro m e
    cases e
    simp
  · exact fun g e => List.mem_cons_of_mem _ (h.fv2 g e)
  · intro m e e2
    cases e2
    have := h.fl _ (h.fm _ e)
    omega
theorem TP.done2 {w W w2 w5 : World} {b m n c5 : Nat} {F F1 : List Nat} {M V V2 : Value} {A5 : Option Addr} {L : List (List Int)} {S : List ByteArray} {s : ByteArray} (h : TP W b F1 M V (.map (some m)) V2 L S) (hF : Foot w.heap.size F F1) (t0 : Turn F w W)
    (hm : MK 9 sK Gs w2 m (S ++ [s])) (t2 : Turn [m] W w2) (hv : OwnS w5 0 (.slice A5 (S ++ [s]).length c5) (S ++ [s])) (t5 : Turn V2.ownBlock.toList w2 w5)
    (hvb : Value.ownBlock (.slice A5 (S ++ [s]).length c5) = V2.ownBlock ∨ ∃ g, Value.ownBlock (.slice A5 (S ++ [s]).length c5) = some g ∧ w2.heap.size ≤ g) (hn : n = S.length + 1) :
    ∃ F', Tb (w5.setCell ⟨b, 3, none⟩ (.slice A5 n c5)) b F' L (S ++ [s]) ∧ Foot w.heap.size F F' ∧ Turn F w (w5.setCell ⟨b, 3, none⟩ (.slice A5 n c5)) := by
  have e : Value.slice A5 n c5 = .slice A5 (S ++ [s]).length c5 := by rw [hn]; simp
  rw [e]
  have tm : Turn (m :: V2.ownBlock.toList) W w5 := (t2.more (G := m :: V2.ownBlock.toList) (by simp)).trans t5 (fun g hg => .inl (List.mem_cons_of_mem _ hg))
  obtain ⟨h1, h2, h3⟩ := h.entered2 (hm.turn t5 (fun hg => (h.mne2 (m := m) rfl).2.2 (by simpa using hg))) hv tm (by
    rcases hvb with e | ⟨g, e, hle⟩
    · exact .inl e
    · exact .inr ⟨g, e, Nat.le_trans t2.size hle⟩)
  exact ⟨_, h1, hF.trans h2 t0.size, t0.trans h3 hF⟩

set_option maxHeartbeats 1600000 in
theorem enterS_any (b : Nat) (F : List Nat) (L : List (List Int)) (S : List ByteArray) (s : ByteArray) (w : World) (h : Tb w b F L S) (hs : Gs s) (hin : s ∉ S) (hl : S.length ≤ 1000000) :
    Calls Try.prog 33 #[.pointer (some ⟨b, 2, none⟩), .string s] w fun e w' => e = .returned (.int .i64 (S.length : Int)) ∧ ∃ F', Tb w' b F' L (S ++ [s]) ∧ Foot w.heap.size F F' ∧ Turn F w w' := by
  obtain ⟨M, V, M2, V2, hq⟩ := h
  obtain ⟨A, c, rfl, hlc, -⟩ := OwnS.form hq.row2
  have HQ := Lib.hid hq
  have HG := Lib.hid hs
  have HK := Lib.hid hs.key
  have HIN := Lib.hid hin
  have c2 : w.cell? ⟨b, 2, none⟩ = some M2 := cell_of_row w b 2 _ 58 (0, 0) hq.blk
  have c3 : w.cell? ⟨b, 3, none⟩ = some (.slice A S.length c) := cell_of_row w b 3 _ 58 (0, 0) hq.blk
  have f2 : w.frozen? ⟨b, 2, none⟩ = false := frozen_of_row w b 2 _ 58 hq.blk
  have hbw : b < w.heap.size := hq.fl b hq.fb
  clear hq hs hin
  rcases HQ.out.mb2 with ⟨rfl, hL0⟩ | ⟨m, rfl, hm⟩
  · have hmm := @run_makeMap Try.prog
    have hma := HQ.out.made2
    obtain ⟨W2, hW2⟩ : ∃ W2, (w.setCell ⟨b, 2, none⟩ (.map (some w.heap.size))).alloc (.map #[] 0) = W2 := ⟨_, rfl⟩
    rw [hW2] at hma
    have HQ2 := Lib.hid hma.1
    have HTA := Lib.hid hma.2
    have HFA : Hid (Foot w.heap.size F (w.heap.size :: F)) := Lib.hid (fun g hg => by
      rcases List.mem_cons.1 hg with rfl | hg
      · exact .inr (Nat.le_refl _)
      · exact .inl hg)
    have HM : Hid (MK 9 sK Gs W2 w.heap.size S) := Lib.hid (by
      rcases hma.1.mb2 with ⟨e, _⟩ | ⟨m', e, h⟩
      · cases e
      · cases e; exact h)
    have k2 : W2.cell? ⟨b, 2, none⟩ = some (.map (some w.heap.size)) := cell_of_row W2 b 2 _ 58 (0, 0) hma.1.blk
    have k3 : W2.cell? ⟨b, 3, none⟩ = some (.slice A S.length c) := cell_of_row W2 b 3 _ 58 (0, 0) hma.1.blk
    clear hma hL0
    go_enter Try.func33, Try.ntmps33
    go_wp2_with (first
      | (at_mapUpdate; refine wpList_putK _ rfl (.tmp 23) (.tmp 24) (.tmp 25) rfl law9 Try.underlying52 gs_inj w.heap.size S rfl HM.out hl s _ rfl HK.out HG.out HIN.out rfl ?_; intro w2 hm2 ht2
         have hb2 : w2.heap[b]? = some (.cells #[M, V, .map (some w.heap.size), .slice A S.length c] 58 (0, 0)) := ht2.heap HQ2.out.blk (by simp; omega)
         have n3 : w2.cell? ⟨b, 3, none⟩ = some (.slice A S.length c) := cell_of_row w2 b 3 _ 58 (0, 0) hb2
         have hlt2 : b < w2.heap.size := (Array.getElem?_eq_some_iff.1 hb2).1
         have HO2 : Hid (OwnS w2 0 (.slice A S.length c) S) := Lib.hid (Turn.owns ht2 HQ2.out.row2 (fun g hg e => (HQ2.out.mne2 (m := w.heap.size) rfl).2.2 (by simp at e; subst e; exact hg)))
         have HM2 := Lib.hid hm2
         have HT2 := Lib.hid ht2
         have HB2 := Lib.hid hb2
         clear hm2 ht2 hb2)
      | (at_builtin; refine wpList_appS rfl (.tmp 30) (.tmp 32) rfl w2 (.slice A S.length c) S s _ rfl HO2.out rfl hl ?_; intro v5 w5 ho5 ht5 hm5
         obtain ⟨A5, c5, hv5, _⟩ := OwnS.form ho5
         subst hv5
         have hb5 := ht5.heap HB2.out (fun hg => (HQ2.out.vne2 (by simpa using hg)).1 rfl)
         have m3 : w5.cell? ⟨b, 3, none⟩ = some (.slice A S.length c) := cell_of_row w5 b 3 _ 58 (0, 0) hb5
         have g3 : w5.frozen? ⟨b, 3, none⟩ = false := frozen_of_row w5 b 3 _ 58 hb5
         have HO5 := Lib.hid ho5
         have HT5 := Lib.hid ht5
         have HM5 := Lib.hid hm5
         clear ho5 ht5 hm5 hb5))
    go_ret
    exact ⟨rfl, TP.done2 HQ2.out HFA.out HTA.out HM2.out HT2.out HO5.out HT5.out HM5.out rfl⟩
  · have HM := Lib.hid hm
    clear hm
    have hmb := (HQ.out.mne2 (m := m) rfl).1
    go_enter Try.func33, Try.ntmps33
    go_wp2_with (first
      | (at_mapUpdate; refine wpList_putK _ rfl (.tmp 23) (.tmp 24) (.tmp 25) rfl law9 Try.underlying52 gs_inj m S rfl HM.out hl s _ rfl HK.out HG.out HIN.out rfl ?_; intro w2 hm2 ht2
         have hb2 : w2.heap[b]? = some (.cells #[M, V, .map (some m), .slice A S.length c] 58 (0, 0)) := ht2.heap HQ.out.blk (by simp; omega)
         have n3 : w2.cell? ⟨b, 3, none⟩ = some (.slice A S.length c) := cell_of_row w2 b 3 _ 58 (0, 0) hb2
         have hlt2 : b < w2.heap.size := (Array.getElem?_eq_some_iff.1 hb2).1
         have HO2 : Hid (OwnS w2 0 (.slice A S.length c) S) := Lib.hid (Turn.owns ht2 HQ.out.row2 (fun g hg e => (HQ.out.mne2 (m := m) rfl).2.2 (by simp at e; subst e; exact hg)))
         have HM2 := Lib.hid hm2
         have HT2 := Lib.hid ht2
         have HB2 := Lib.hid hb2
         clear hm2 ht2 hb2)
      | (at_builtin; refine wpList_appS rfl (.tmp 30) (.tmp 32) rfl w2 (.slice A S.length c) S s _ rfl HO2.out rfl hl ?_; intro v5 w5 ho5 ht5 hm5
         obtain ⟨A5, c5, hv5, _⟩ := OwnS.form ho5
         subst hv5
         have hb5 := ht5.heap HB2.out (fun hg => (HQ.out.vne2 (by simpa using hg)).1 rfl)
         have m3 : w5.cell? ⟨b, 3, none⟩ = some (.slice A S.length c) := cell_of_row w5 b 3 _ 58 (0, 0) hb5
         have g3 : w5.frozen? ⟨b, 3, none⟩ = false := frozen_of_row w5 b 3 _ 58 hb5
         have HO5 := Lib.hid ho5
         have HT5 := Lib.hid ht5
         have HM5 := Lib.hid hm5
         clear ho5 ht5 hm5 hb5))
    go_ret
    exact ⟨rfl, TP.done2 HQ.out (Foot.refl _ _) (Turn.refl _ _) HM2.out HT2.out HO5.out HT5.out HM5.out rfl⟩

theorem thingS_no (b : Nat) (F : List Nat) (L : List (List Int)) (S : List ByteArray) (id : Int) (w : World) (h : Tb w b F L S) (hid : id < 0 ∨ (S.length : Int) ≤ id) :
    Calls Try.prog 26 #[.pointer (some ⟨b, 2, none⟩), .int .i64 id] w fun e w' => e = .returned (.tuple #[.string ⟨#[]⟩, .bool false]) ∧ w = w' := by
  obtain ⟨M, V, M2, V2, hq⟩ := h
  obtain ⟨A, c, rfl, hlc, -⟩ := OwnS.form hq.row2
  have c3 : w.cell? ⟨b, 3, none⟩ = some (.slice A S.length c) := cell_of_row w b 3 _ 58 (0, 0) hq.blk
  clear hq
  by_cases h0 : id < 0
  · have d : decide (id < 0) = true := by simpa using h0
    go_enter Try.func26, Try.ntmps26
    go_wp2_with fail
    go_ret2
    exact ⟨rfl, rfl⟩
  · have d : decide (id < 0) = false := by simpa using h0
    have d1 : decide ((S.length : Int) ≤ id) = true := by simp; omega
    go_enter Try.func26, Try.ntmps26
    go_wp2_with fail
    go_ret2
    exact ⟨rfl, rfl⟩
theorem thingS_yes (b : Nat) (F : List Nat) (L : List (List Int)) (S : List ByteArray) (i : Nat) (s : ByteArray) (w : World) (h : Tb w b F L S) (hi : S[i]? = some s) (hl : S.length ≤ 1000000) :
    Calls Try.prog 26 #[.pointer (some ⟨b, 2, none⟩), .int .i64 (i : Int)] w fun e w' => e = .returned (.tuple #[.string s, .bool true]) ∧ w = w' := by
  obtain ⟨M, V, M2, V2, hq⟩ := h
  obtain ⟨A, c, rfl, hlc, _, _, hrow⟩ := OwnS.form hq.row2
  have c3 : w.cell? ⟨b, 3, none⟩ = some (.slice A S.length c) := cell_of_row w b 3 _ 58 (0, 0) hq.blk
  obtain ⟨g, rfl, hg, hc⟩ := hrow i s hi
  have hil : i < S.length := (List.getElem?_eq_some_iff.1 hi).1
  have e0 : decide ((i : Int) < 0) = false := by simp
  have e1 : decide ((S.length : Int) ≤ (i : Int)) = false := by simp; omega
  have e1' : decide (S.length ≤ i) = false := by simp; omega
  clear hq hrow hi
  go_enter Try.func26, Try.ntmps26
  go_wp2_with fail
  go_ret2
  exact ⟨rfl, rfl⟩

/-- append of a whole slice of texts onto an empty slice that has no room. -/
theorem wpList_cloneS {ops : Array Oper} {rest : List Oper} {o : Oper} {a : Act} {Q : Exit → Act → World → Prop} (hgd : o.guard = none) (s x : Operand)
    (ho : o.op = .call { callee := .builtin .append, args := #[s, x], argTypes := #[28, 28] })
    (W : World) (S : List ByteArray) (g c : Nat) (hs : a.eval s = .slice (some ⟨W.heap.size, 0, none⟩) 0 0) (hx : a.eval x = .slice (some ⟨g, 0, none⟩) S.length c) (hr : ∀ (i : Nat) (s : ByteArray), S[i]? = some s → W.cell? ⟨g, i, none⟩ = some (.string s)) (hg : g < W.heap.size)
    (hl : S.length ≤ 1000000)
    (h : ∀ v' w', OwnS w' W.heap.size v' S → Turn [] W w' → wpList Try.prog ops Q rest (a.put o.dst v') w') :
    wpList Try.prog ops Q (o :: rest) a (W.alloc (.cells #[] 9)) := by
  obtain ⟨i0, hi0, hz0, hz1, hz2⟩ := info_parts string_info
  refine wpList_append_own_at (W.alloc (.cells #[] 9)) hgd s x 28 ho W.heap.size 9 i0 _ 1 16 Try.underlying28 hi0 hz0 hz1 hz2 rfl (by omega) (.slice (some ⟨W.heap.size, 0, none⟩) 0 0) 0 [] hs
    (World.ownsRow_made W #[] 0 (Nat.le_refl _) (by unfold maxLen; omega) rfl) ⟨g, 0, none⟩ S.length c (S.map Value.string) hx (by simp) ?_ ?_ (by simp only [maxLen]; omega) (by omega) (by simp) ?_
  · intro j u hj
    rw [List.getElem?_map] at hj
    cases hy : S[j]? with
    | none => rw [hy] at hj; cases hj
    | some y =>
      rw [hy] at hj
      injection hj with hj
      subst hj
      rw [Addr.add_lit, Nat.zero_add]
      exact (((Turn.refl [] W).alloc (.cells #[] 9)).cell (p := ⟨g, j, none⟩) hg (by simp)).trans (hr j y hy)
  · intro u hu
    obtain ⟨y, _, rfl⟩ := List.mem_map.1 hu
    rfl
  · intro v' w' h1 h2 _ h4
    refine h v' w' ?_ (((Turn.refl [] W).alloc _).trans (G := [W.heap.size]) ((Turn.refl _ _).grown h2 (fun k hk => .inl (by simp [Value.ownBlock] at hk; simp [hk]))) (by simp))
    unfold OwnS
    simpa using h1

theorem cloneS_any (v : Value) (S : List ByteArray) (w : World) (h : OwnS w 0 v S) (hl : S.length ≤ 1000000) :
    Calls Try.prog 35 #[v] w fun e w' => ∃ v', e = .returned v' ∧ OwnS w' w.heap.size v' S ∧ Turn [] w w' := by
  obtain ⟨A, c, rfl, hlc, ha, hnil, hrow⟩ := OwnS.form h
  clear h
  cases A with
  | none =>
    obtain ⟨h0, rfl⟩ := hnil rfl
    have e : S = [] := List.eq_nil_of_length_eq_zero h0
    subst e
    go_enter Try.func35, Try.ntmps35
    go_wp2_with fail
    go_ret
    exact ⟨_, rfl, World.ownsRow_nil _ _ _ _, Turn.refl _ _⟩
  | some ad =>
    obtain ⟨g, rfl, hg⟩ := ha ad rfl
    have HR : Hid (∀ (i : Nat) (s : ByteArray), S[i]? = some s → w.cell? ⟨g, i, none⟩ = some (.string s)) := Lib.hid (fun i s hi => by
      obtain ⟨g', e, _, hc⟩ := hrow i s hi
      cases e
      exact hc)
    clear hrow ha hnil
    go_enter Try.func35, Try.ntmps35
    go_wp2_with (at_builtin; refine wpList_cloneS rfl (.tmp 5) (.tmp 6) rfl w S g c rfl rfl HR.out hg hl ?_; intro v' w2 ho2 ht2)
    go_ret
    exact ⟨_, rfl, ho2, ht2⟩

theorem allTexts_any (b : Nat) (F : List Nat) (L : List (List Int)) (S : List ByteArray) (w : World) (h : Tb w b F L S) (hl : S.length ≤ 1000000) :
    Calls Try.prog 27 #[.pointer (some ⟨b, 2, none⟩)] w fun e w' => ∃ v', e = .returned v' ∧ OwnS w' w.heap.size v' S ∧ Turn [] w w' := by
  obtain ⟨M, V, M2, V2, hq⟩ := h
  have c3 : w.cell? ⟨b, 3, none⟩ = some V2 := cell_of_row w b 3 _ 58 (0, 0) hq.blk
  have HL := Lib.hid hq.row2
  clear hq
  go_enter Try.func27, Try.ntmps27
  go_wp2_with fail
  refine (cloneS_any V2 S _ HL.out hl).mono ?_
  rintro e w1 ⟨v', rfl, ho, ht⟩
  have HO := Lib.hid ho
  have HT := Lib.hid ht
  clear ho ht
  go_wp2_with fail
  go_ret
  exact ⟨_, rfl, HO.out, HT.out⟩

/-- What Word answers, and the texts behind it. -/
def wdN {α : Type} [DecidableEq α] (S : List α) (s : α) : Nat := if s ∈ S then fnd S s else S.length
def wdL {α : Type} [DecidableEq α] (S : List α) (s : α) : List α := if s ∈ S then S else S ++ [s]
theorem wd_in {α : Type} [DecidableEq α] {S : List α} {s : α} (h : s ∈ S) : wdN S s = fnd S s ∧ wdL S s = S := ⟨if_pos h, if_pos h⟩
theorem wd_out {α : Type} [DecidableEq α] {S : List α} {s : α} (h : s ∉ S) : wdN S s = S.length ∧ wdL S s = S ++ [s] := ⟨if_neg h, if_neg h⟩
theorem wdL_le {α : Type} [DecidableEq α] (S : List α) (s : α) : (wdL S s).length ≤ S.length + 1 := by
  unfold wdL
  split
  · omega
  · simp
theorem OkS.snoc {S : List ByteArray} {s : ByteArray} (h : OkS S) (hs : Gs s) (hin : s ∉ S) : OkS (S ++ [s]) := by
  refine ⟨?_, ?_⟩
  · rw [List.nodup_append]
    refine ⟨h.1, by simp, ?_⟩
    intro a ha b hb
    simp at hb
    subst hb
    exact fun e => hin (e ▸ ha)
  · intro m hm
    rcases List.mem_append.1 hm with hm | hm
    · exact h.2 m hm
    · simp at hm
      subst hm
      exact hs

set_option maxHeartbeats 1600000 in
theorem textNumber_any (b : Nat) (F : List Nat) (Ns : List (List Int)) (S : List ByteArray) (s : ByteArray) (w : World) (h : Tt w b F Ns S) (hs : Gs s) (hlim : s.size ≤ 281474976710656) (hl : S.length ≤ 1000000) :
    Calls Try.prog 25 #[.pointer (some ⟨b, 2, none⟩), .string s] w fun e w' => e = .returned (.int .i64 (wdN S s : Int)) ∧ ∃ F', Tt w' b F' Ns (wdL S s) ∧ Foot w.heap.size F F' ∧ Turn F w w' := by
  have H := Lib.hid h
  have HG := Lib.hid hs
  have hK := numberS_any b F (Ns.map tup) S s w h.1 h.2.2.1 hs
  clear h hs
  by_cases hin : s ∈ S
  · rw [inB_true.2 hin] at hK
    have HI : Hid (wdN S s = fnd S s ∧ wdL S s = S) := Lib.hid (wd_in hin)
    rw [HI.out.1, HI.out.2]
    have HK := Lib.hid hK
    clear hK hin
    go_enter Try.func25, Try.ntmps25
    go_wp2_with fail
    (with_reducible refine HK.out.mono ?_)
    rintro e w1 ⟨rfl, rfl⟩
    go_wp2_with fail
    go_ret
    exact ⟨rfl, F, H.out, Foot.refl _ _, Turn.refl _ _⟩
  · rw [inB_false.2 hin, fnd_out hin] at hK
    have HI : Hid (wdN S s = S.length ∧ wdL S s = S ++ [s]) := Lib.hid (wd_out hin)
    rw [HI.out.1, HI.out.2]
    have HK := Lib.hid hK
    have HIN := Lib.hid hin
    clear hK hin
    go_enter Try.func25, Try.ntmps25
    go_wp2_with fail
    (with_reducible refine HK.out.mono ?_)
    rintro e w1 ⟨rfl, rfl⟩
    go_wp2_with fail
    go_region_held3 (fun _ => True)
      (first | trivial | go_keep)
      (first
        | (go_at_call 34; (with_reducible refine (sClone_any s _ hlim).mono ?_); rintro e w2 ⟨rfl, ht2⟩)
        | (go_at_call 33; have tw2 : Turn [] w w2 := (Turn.refl [] w).drew.trans' ht2; have hE := enterS_any b F (Ns.map tup) S s w2 (H.out.1.turn' tw2) HG.out HIN.out hl; (with_reducible refine hE.mono ?_); clear hE; rintro e w3 ⟨rfl, F3, hq3, hf3, ht3⟩))
    have HQ3 := Lib.hid hq3
    have HF3 := Lib.hid hf3
    have HT2 := Lib.hid tw2
    have HT3 := Lib.hid ((tw2.more (G := F) (by simp)).trans ht3 (fun g hg => .inl hg))
    clear hq3 hf3 ht3 ht2 tw2
    go_wp2_with fail
    go_ret
    exact ⟨rfl, F3, ⟨HQ3.out, H.out.2.1, H.out.2.2.snoc HG.out HIN.out⟩, (Foot.refl w.heap.size F).trans HF3.out HT2.out.size, HT3.out⟩

theorem word_any (b : Nat) (F : List Nat) (Ns : List (List Int)) (S : List ByteArray) (s : ByteArray) (w : World) (h : Tt w b F Ns S) (hs : Gs s) (hlim : s.size ≤ 281474976710656) (hl : S.length ≤ 1000000) :
    Calls Try.prog 15 #[.pointer (some ⟨b, 0, none⟩), .string s] w fun e w' => e = .returned (.int .i64 (wdN S s : Int)) ∧ ∃ F', Tt w' b F' Ns (wdL S s) ∧ Foot w.heap.size F F' ∧ Turn F w w' := by
  have HK := Lib.hid (textNumber_any b F Ns S s w h hs hlim hl)
  clear h hs
  go_enter Try.func15, Try.ntmps15
  go_wp2_with fail
  (with_reducible refine HK.out.mono ?_)
  rintro e w1 ⟨rfl, hx⟩
  have HX := Lib.hid hx
  clear hx
  go_wp2_with fail
  go_ret
  exact ⟨rfl, HX.out⟩
theorem text_walk (b : Nat) (id : Int) (s : ByteArray) (q : Bool) (w : World)
    (hK : Calls Try.prog 26 #[.pointer (some ⟨b, 2, none⟩), .int .i64 id] w fun e w' => e = .returned (.tuple #[.string s, .bool q]) ∧ w = w') :
    Calls Try.prog 17 #[.pointer (some ⟨b, 0, none⟩), .int .i64 id] w fun e w' => e = .returned (.tuple #[.string s, .bool q]) ∧ w = w' := by
  have HK := Lib.hid hK
  clear hK
  go_enter Try.func17, Try.ntmps17
  go_wp2_with fail
  (with_reducible refine HK.out.mono ?_)
  rintro e w1 ⟨rfl, rfl⟩
  go_wp2_with fail
  go_ret2
  exact ⟨rfl, rfl⟩
theorem texts_any (b : Nat) (F : List Nat) (Ns : List (List Int)) (S : List ByteArray) (w : World) (h : Tt w b F Ns S) (hl : S.length ≤ 1000000) :
    Calls Try.prog 19 #[.pointer (some ⟨b, 0, none⟩)] w fun e w' => ∃ v, e = .returned v ∧ OwnS w' w.heap.size v S ∧ Turn [] w w' := by
  have HK := Lib.hid (allTexts_any b F (Ns.map tup) S w h.1 hl)
  clear h
  go_enter Try.func19, Try.ntmps19
  go_wp2_with fail
  (with_reducible refine HK.out.mono ?_)
  rintro e w1 ⟨v, rfl, ho, ht⟩
  have HO := Lib.hid ho
  have HT := Lib.hid ht
  clear ho ht
  go_wp2_with fail
  go_ret
  exact ⟨_, rfl, HO.out, HT.out⟩
end Go.Proofs.Ytepkpllfdfbmiaa
