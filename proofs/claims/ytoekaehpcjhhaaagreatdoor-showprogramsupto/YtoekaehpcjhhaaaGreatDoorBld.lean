/- Lists of texts that grow from a world on; bounds on rows; the reference's All, from what Lines does. -/
import Derived.Test.YtoekaehpcjhhaaaGreatDoorOnw
import Derived.Deep.DeepCutAuto
set_option linter.unusedSimpArgs false
set_option linter.unusedVariables false
namespace Go.Proofs.YtoekaehpcjhhaaaGreatDoor
open Go.RowKit

/-- Since w0 a list of texts was made: it is L, at v; nothing older was turned. -/
def Bld (w0 w : World) (v : Value) (L : List ByteArray) : Prop := OwnS w v L ∧ Nw w0.heap.size v ∧ Turn [] w0 w
theorem Bld.nil (w : World) : Bld w w (.slice none 0 0) [] := ⟨OwnS.nil w, (fun g hg => by cases hg), Turn.refl _ _⟩
theorem Bld.one (w : World) (s : ByteArray) : Bld w (w.alloc (.cells #[.string s] 9)) (.slice (some ⟨w.heap.size, 0, none⟩) 1 1) [s] :=
  ⟨OwnS.one w s, (fun g hg => by injection hg with hg; exact Nat.le_of_eq hg), bx w _ _⟩
theorem Bld.turn' {w0 w w' : World} {v : Value} {L : List ByteArray} (h : Bld w0 w v L) (t : Turn [] w w') : Bld w0 w' v L := ⟨h.1.turn t (by simp), h.2.1, h.2.2.trans' t⟩
theorem Bld.before {w0 w1 w : World} {v : Value} {L : List ByteArray} (h : Bld w1 w v L) (t : Turn [] w0 w1) : Bld w0 w v L := ⟨h.1, fun g hg => Nat.le_trans t.size (h.2.1 g hg), t.trans' h.2.2⟩
/-- append onto it. -/
theorem wpList_bld {ops : Array Oper} {rest : List Oper} {o : Oper} {a : Act} {Q : Exit → Act → World → Prop} (hgd : o.guard = none) (s x : Operand)
    (ho : o.op = .call { callee := .builtin .append, args := #[s, x], argTypes := #[36, 36] }) (w0 w : World) (v : Value) (l m : List ByteArray) (A : Option Addr) (n c : Nat)
    (hs : a.eval s = v) (hx : a.eval x = .slice A n c) (hB : Bld w0 w v l) (hm : Sts w A m) (hn : n = m.length) (hl : l.length + m.length ≤ 1000000000)
    (h : ∀ v' w', Bld w0 w' v' (l ++ m) → wpList Tryz.prog ops Q rest (a.put o.dst v') w') :
    wpList Tryz.prog ops Q (o :: rest) a w :=
  wpList_appS hgd s x ho w v l m A n c hs hx hB.1 hm hn hl fun v' w' h1 h2 h3 => h v' w' ⟨h1, h3 _ hB.2.1 hB.2.2.size, hB.2.2.trans h2 (fun g hg => .inr (hB.2.1 g (by simpa using hg)))⟩

theorem pl_sz (d : Int) (x y z t f : ByteArray) (ag : List ByteArray) (n : Int) (hs : x.size ≤ 1000 ∧ y.size ≤ 1000 ∧ z.size ≤ 1000 ∧ t.size ≤ 1000 ∧ f.size ≤ 1000) (ha : ag.length ≤ 1000 ∧ ∀ a ∈ ag, a.size ≤ 1000) (hn : -9223372036854775808 ≤ n ∧ n ≤ 9223372036854775807) :
    ∀ s ∈ (pl d x y z t f ag n), 0 < s.size ∧ s.size ≤ 1200000 := by
  have hi : (mk (Lib.itoa n)).size ≤ 21 := by rw [size_bs, bs_mk]; exact Lib.itoa_length_le n hn.1 hn.2
  have hj : (jn ag ⟨#[44, 32]⟩).size ≤ 1002000 := by
    have := size_jn_le ag ⟨#[44, 32]⟩ 1000 2 ha.2 (by decide)
    have h3 : ag.length * (1000 + 2) ≤ 1000 * 1002 := Nat.mul_le_mul ha.1 (by omega)
    omega
  have ht : (tgt x).size ≤ 1003 := by
    unfold tgt
    split
    · decide
    · rw [size_app, show (⟨#[32, 61, 32]⟩ : ByteArray).size = 3 from rfl]; omega
  have hr : 0 < (retT x).size ∧ (retT x).size ≤ 1200000 := by
    unfold retT
    split <;> rw [size_cat] <;> simp [sz_lit] <;> omega
  intro s hs'
  rw [Option.mem_def, pl] at hs'
  by_cases h_0 : d = 0
  · rw [if_pos h_0] at hs'
    injection hs' with hs'
    subst hs'
    rw [size_cat]; simp [sz_lit]; omega
  rw [if_neg h_0] at hs'
  by_cases h_1 : d = 1
  · rw [if_pos h_1] at hs'
    injection hs' with hs'
    subst hs'
    rw [size_cat]; simp [sz_lit]; omega
  rw [if_neg h_1] at hs'
  by_cases h_2 : d = 2
  · rw [if_pos h_2] at hs'
    injection hs' with hs'
    subst hs'
    rw [size_cat]; simp [sz_lit]; omega
  rw [if_neg h_2] at hs'
  by_cases h_3 : d = 3
  · rw [if_pos h_3] at hs'
    injection hs' with hs'
    subst hs'
    rw [size_cat]; simp [sz_lit]; omega
  rw [if_neg h_3] at hs'
  by_cases h_4 : d = 4
  · rw [if_pos h_4] at hs'
    injection hs' with hs'
    subst hs'
    rw [size_cat]; simp [sz_lit]; omega
  rw [if_neg h_4] at hs'
  by_cases h_5 : d = 5
  · rw [if_pos h_5] at hs'
    injection hs' with hs'
    subst hs'
    rw [size_cat]; simp [sz_lit]; omega
  rw [if_neg h_5] at hs'
  by_cases h_6 : d = 6
  · rw [if_pos h_6] at hs'
    injection hs' with hs'
    subst hs'
    rw [size_cat]; simp [sz_lit]; omega
  rw [if_neg h_6] at hs'
  by_cases h_7 : d = 7
  · rw [if_pos h_7] at hs'
    injection hs' with hs'
    subst hs'
    rw [size_cat]; simp [sz_lit]; omega
  rw [if_neg h_7] at hs'
  by_cases h_8 : d = 8
  · rw [if_pos h_8] at hs'
    injection hs' with hs'
    subst hs'
    rw [size_cat]; simp [sz_lit]; omega
  rw [if_neg h_8] at hs'
  by_cases h_9 : d = 9
  · rw [if_pos h_9] at hs'
    injection hs' with hs'
    subst hs'
    rw [size_cat]; simp [sz_lit]; omega
  rw [if_neg h_9] at hs'
  by_cases h_10 : d = 10
  · rw [if_pos h_10] at hs'
    injection hs' with hs'
    subst hs'
    rw [size_cat]; simp [sz_lit]; omega
  rw [if_neg h_10] at hs'
  by_cases h_11 : d = 11
  · rw [if_pos h_11] at hs'
    injection hs' with hs'
    subst hs'
    unfold callT; rw [size_cat]; simp [sz_lit, size_cat]; omega
  rw [if_neg h_11] at hs'
  by_cases h_12 : d = 12
  · rw [if_pos h_12] at hs'
    injection hs' with hs'
    subst hs'
    unfold callT; rw [size_cat]; simp [sz_lit, size_cat]; omega
  rw [if_neg h_12] at hs'
  by_cases h_13 : d = 13
  · rw [if_pos h_13] at hs'
    injection hs' with hs'
    subst hs'
    unfold callT; rw [size_cat]; simp [sz_lit, size_cat]; omega
  rw [if_neg h_13] at hs'
  by_cases h_14 : d = 14
  · rw [if_pos h_14] at hs'
    injection hs' with hs'
    subst hs'
    rw [size_cat]; simp [sz_lit]; omega
  rw [if_neg h_14] at hs'
  by_cases h_15 : d = 15
  · rw [if_pos h_15] at hs'
    injection hs' with hs'
    subst hs'
    rw [size_cat]; simp [sz_lit]; omega
  rw [if_neg h_15] at hs'
  by_cases h_16 : d = 16
  · rw [if_pos h_16] at hs'
    injection hs' with hs'
    subst hs'
    rw [size_cat]; simp [sz_lit]; omega
  rw [if_neg h_16] at hs'
  by_cases h_17 : d = 17
  · rw [if_pos h_17] at hs'
    injection hs' with hs'
    subst hs'
    rw [size_cat]; simp [sz_lit]; omega
  rw [if_neg h_17] at hs'
  by_cases h_18 : d = 18
  · rw [if_pos h_18] at hs'
    injection hs' with hs'
    subst hs'
    rw [size_cat]; simp [sz_lit]; omega
  rw [if_neg h_18] at hs'
  by_cases h_22 : d = 22
  · rw [if_pos h_22] at hs'
    injection hs' with hs'
    subst hs'
    exact hr
  rw [if_neg h_22] at hs'
  cases hs'

mutual
theorem rw1_ok (D : Nat) : ∀ (s : St), FtS s → ∀ r ∈ rw1 D s, r.2.size ≤ 1200000 ∧ r.1 ≤ D + (rw1 D s).length
  | .mk d x y z t f ag n bd ot lin cl, h => by
    obtain ⟨hn, hs, ha, hb, ho⟩ := h.parts
    have ib := rwL_ok (D + 1) bd hb
    have io := rwL_ok (D + 1) ot ho
    have h1 : tryT.size ≤ 1200000 := by decide
    have h2 : (catchT t x).size ≤ 1200000 := by unfold catchT; rw [size_cat]; simp [sz_lit]; omega
    have h3 : (ifT y z).size ≤ 1200000 := by unfold ifT; rw [size_cat]; simp [sz_lit]; omega
    have h4 : (whileT y z).size ≤ 1200000 := by unfold whileT; rw [size_cat]; simp [sz_lit]; omega
    have h5 : elseT.size ≤ 1200000 := by decide
    have h6 : shutT.size ≤ 1200000 := by decide
    by_cases h19 : d = 19
    · subst h19
      rw [rw1_try]
      intro r hr
      simp only [List.mem_append, List.mem_singleton] at hr
      simp only [List.length_append, List.length_singleton]
      rcases hr with (((rfl | hr) | rfl) | hr) | rfl
      · exact ⟨h1, by omega⟩
      · have := ib r hr; exact ⟨this.1, by omega⟩
      · exact ⟨h2, by omega⟩
      · have := io r hr; exact ⟨this.1, by omega⟩
      · exact ⟨h6, by omega⟩
    · by_cases h20 : d = 20
      · subst h20
        rw [rw1_if]
        intro r hr
        simp only [List.mem_append, List.mem_singleton] at hr
        simp only [List.length_append, List.length_singleton]
        rcases hr with ((rfl | hr) | hr) | rfl
        · exact ⟨h3, by omega⟩
        · have := ib r hr; exact ⟨this.1, by omega⟩
        · split at hr
          · simp at hr
          · rename_i hne
            simp only [List.mem_append, List.mem_singleton] at hr
            rw [if_neg hne, List.length_append, List.length_singleton]
            rcases hr with rfl | hr
            · exact ⟨h5, by omega⟩
            · have := io r hr; exact ⟨this.1, by omega⟩
        · exact ⟨h6, by omega⟩
      · by_cases h21 : d = 21
        · subst h21
          rw [rw1_while]
          intro r hr
          simp only [List.mem_append, List.mem_singleton] at hr
          simp only [List.length_append, List.length_singleton]
          rcases hr with (rfl | hr) | rfl
          · exact ⟨h4, by omega⟩
          · have := ib r hr; exact ⟨this.1, by omega⟩
          · exact ⟨h6, by omega⟩
        · rw [rw1_plain h19 h20 h21]
          intro r hr
          obtain ⟨s, hs', rfl⟩ := List.mem_map.1 hr
          exact ⟨(pl_sz d x y z t f ag n hs ha hn s (by simpa using hs')).2, by simp⟩
theorem rwL_ok (D : Nat) : ∀ (l : List St), FtL l → ∀ r ∈ rwL D l, r.2.size ≤ 1200000 ∧ r.1 ≤ D + (rwL D l).length
  | [], _ => by rw [rwL_nil]; simp
  | s :: l, h => by
    rw [FtL] at h
    rw [rwL_cons]
    intro r hr
    rw [List.length_append]
    rcases List.mem_append.1 hr with hr | hr
    · have := rw1_ok D s h.1 r hr; exact ⟨this.1, by omega⟩
    · have := rwL_ok D l h.2 r hr; exact ⟨this.1, by omega⟩
end
theorem ln_sz {r : Row} {k : Nat} (h1 : r.2.size ≤ 1200000) (h2 : r.1 ≤ k) : (ln r).size ≤ 2 * k + 1200000 := by
  unfold ln
  rw [size_bs, bs_mk, List.length_append, List.length_replicate, ← size_bs]
  omega

/-- What the reference's Lines answers for this statement. -/
def RSaidS (s : St) : Prop := ∀ (cs : List Value) (B : Nat) (w : World), RdS B w cs s → B ≤ w.heap.size → (rw1 0 s).length ≤ 100000000 →
  Calls Tryz.prog 33 #[.agg cs.toArray] w fun e w' => ∃ A' c', e = .returned (.slice A' (rw1 0 s).length c') ∧ Bld w w' (.slice A' (rw1 0 s).length c') ((rw1 0 s).map ln)
/-- What the reference's All answers for these statements. -/
def RSaidL (l : List St) : Prop := ∀ (A : Option Addr) (c B : Nat) (w : World), RdL B w A 0 l → B ≤ w.heap.size → (rwL 0 l).length ≤ 100000000 → l.length ≤ 100000000 →
  Calls Tryz.prog 23 #[.slice A l.length c] w fun e w' => ∃ A' c', e = .returned (.slice A' (rwL 0 l).length c') ∧ Bld w w' (.slice A' (rwL 0 l).length c') ((rwL 0 l).map ln)

set_option maxHeartbeats 4000000 in
set_option maxRecDepth 100000 in
theorem all_of (l : List St) (hs : ∀ s ∈ l, RSaidS s) : RSaidL l := by
  intro A c B w hr hB hz hlen
  have HS := Lib.hid hs
  have HR := Lib.hid hr
  obtain ⟨n, hn⟩ : ∃ n, l.length = n := ⟨_, rfl⟩
  have HN := Lib.hid hn
  rw [hn] at hlen ⊢
  have HZ := Lib.hid hz
  clear hs hr hn hz
  go_enter Tryz.func23, Tryz.ntmps23
  go_wp2_with fail
  go_loopw [3, 4] (fun v i wr => ∃ k : Nat, k ≤ n ∧ i = .int .i64 (k : Int) ∧ Hid (Bld w wr v ((rwL 0 (l.take k)).map ln))) (fun _ i _ => n - (intOf i).toNat)
  case atStart => exact ⟨0, Nat.zero_le _, rfl, Lib.hid (by rw [List.take_zero, rwL_nil]; exact Bld.nil w)⟩
  case round =>
    obtain ⟨k, hk, rfl, HW⟩ := hrel
    by_cases hlt : k < n
    · have hT1 := HW.out.2.2
      obtain ⟨s, hsk⟩ := at_lt (l := l) (k := k) (by rw [HN.out]; exact hlt)
      obtain ⟨g, off, cs, rfl, hgB, hgl, hcell, hRd⟩ := RdL.at (HR.out.turn hT1 (by simp) l) hsk
      rw [Nat.zero_add] at hcell
      have hlen1 := rwL_take_le 0 l (k + 1)
      rw [rwL_take hsk, List.length_append] at hlen1
      have hz := HZ.out
      have HC := Lib.hid (HS.out s (List.mem_of_getElem? hsk) cs B wr hRd (Nat.le_trans hB hT1.size) (by omega))
      have hlt1 : (rwL 0 (l.take k)).length + (rw1 0 s).length ≤ 1000000000 := by omega
      have HLT := Lib.hid hlt1
      have HSK := Lib.hid hsk
      obtain ⟨m, hm⟩ : ∃ m, (rw1 0 s).length = m := ⟨_, rfl⟩
      have HM := Lib.hid hm
      rw [hm] at HC
      clear hlen1 hlt1 hm hz
      obtain ⟨d, x, y, z, t, f, ag, nn, bd, ot, lin, cl⟩ := s
      obtain ⟨A1, c1, A2, c2, A3, c3, rfl, -, -, -, -⟩ := hRd.cells
      have e0 : wr.cell? ⟨g, off + k * 12, none⟩ = some (.int .i64 d) := hcell 0 _ rfl
      have e1 := hcell 1 _ rfl
      have e2 := hcell 2 _ rfl
      have e3 := hcell 3 _ rfl
      have e4 := hcell 4 _ rfl
      have e5 := hcell 5 _ rfl
      have e6 := hcell 6 _ rfl
      have e7 := hcell 7 _ rfl
      have e8 := hcell 8 _ rfl
      have e9 := hcell 9 _ rfl
      have e10 := hcell 10 _ rfl
      have e11 := hcell 11 _ rfl
      clear hsk hRd hT1 hcell
      go_wp2_with fail
      refine HC.out.mono ?_
      rintro e w2 ⟨A', c', rfl, hb⟩
      have HB2 := Lib.hid hb
      clear hb e0 e1 e2 e3 e4 e5 e6 e7 e8 e9 e10 e11
      go_wp2_with (at_builtin
                   refine wpList_bld rfl (.tmp 11) (.tmp 16) rfl w w2 u3 ((rwL 0 (l.take k)).map ln) ((rw1 0 _).map ln) A' m c' rfl rfl (HW.out.turn' HB2.out.2.2) (OwnS.sts HB2.out.1).2.2 (by rw [List.length_map]; exact HM.out.symm) (by simpa using HLT.out) ?_
                   intro v3 w3 hb3
                   have HB3 := Lib.hid hb3
                   clear hb3)
      go_roundw
      case rel => exact ⟨k + 1, by omega, by go_num, Lib.hid (by rw [rwL_take HSK.out, List.map_append]; exact HB3.out)⟩
      case measure => simp [intOf]; omega
    · have hkn : k = n := by omega
      subst hkn
      have hb := HW.out
      rw [List.take_of_length_le (by rw [HN.out]; exact Nat.le_refl _)] at hb
      obtain ⟨A', c', hv, _, _⟩ := owns_form hb.1
      rw [List.length_map] at hv
      subst hv
      have HB := Lib.hid hb
      clear hb HW
      go_wp2_with fail
      go_ret
      exact ⟨A', c', rfl, HB.out⟩
end Go.Proofs.YtoekaehpcjhhaaaGreatDoor
