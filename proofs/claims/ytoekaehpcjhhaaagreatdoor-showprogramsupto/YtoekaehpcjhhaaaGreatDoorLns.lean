/- lines: what the whole text's lines are told by. -/
import Derived.Test.YtoekaehpcjhhaaaGreatDoorSmb
import Derived.Test.YtoekaehpcjhhaaaGreatDoorShl
set_option linter.unusedSimpArgs false
set_option linter.unusedVariables false
namespace Go.Proofs.YtoekaehpcjhhaaaGreatDoor
open Go.RowKit

theorem line_info : (Tryz.prog.info? 53).map (fun i => (i.zero, i.size, i.bytes)) = some (some (.agg #[.int .i64 0, .string ⟨#[]⟩]), 2, 24) := by kernel_rfl
/-- The slice v is of the program's own making and holds the lines. -/
def OwnN (w : World) (v : Value) (L : List Row) : Prop := w.ownsRow 0 53 2 v L.length (L.flatMap rcs)
/-- Since w0 a list of lines was made. -/
def Bln (w0 w : World) (v : Value) (L : List Row) : Prop := OwnN w v L ∧ Nw w0.heap.size v ∧ Turn [] w0 w
theorem Bln.turn' {w0 w w' : World} {v : Value} {L : List Row} (h : Bln w0 w v L) (t : Turn [] w w') : Bln w0 w' v L := ⟨Turn.owns t h.1 (by simp), h.2.1, h.2.2.trans' t⟩
/-- append of one line, laid in a block of its own. -/
theorem wpList_bln {ops : Array Oper} {rest : List Oper} {o : Oper} {a : Act} {Q : Exit → Act → World → Prop} (hgd : o.guard = none) (s x : Operand)
    (ho : o.op = .call { callee := .builtin .append, args := #[s, x], argTypes := #[51, 51] }) (w0 w : World) (v : Value) (L : List Row) (r : Row) (vb c : Nat)
    (hs : a.eval s = v) (hx : a.eval x = .slice (some ⟨vb, 0, none⟩) 1 c) (hB : Bln w0 w v L) (hb : w.heap[vb]? = some (.cells #[.int .i64 (r.1 : Int), .string r.2] 53 (0, 0))) (hl : L.length ≤ 5000000000000)
    (h : ∀ v' w', Bln w0 w' v' (L ++ [r]) → Turn v.ownBlock.toList w w' → (v'.ownBlock = v.ownBlock ∨ v'.ownBlock = some w.heap.size) → wpList Tryz.prog ops Q rest (a.put o.dst v') w') :
    wpList Tryz.prog ops Q (o :: rest) a w := by
  refine wpList_appR hgd s x 51 ho w 53 _ 2 24 Tryz.underlying51 line_info rfl (by omega) v L.length _ hs hB.1 (some ⟨vb, 0, none⟩) 1 c (rcs r) hx ⟨rfl, .inr ⟨vb, 0, rfl, (Array.getElem?_eq_some_iff.1 hb).1, fun j u hj => ?_⟩⟩ ?_ (by simp only [maxLen]; omega) (by omega) ?_
  · rw [cell_of_row w vb _ _ _ _ hb, Nat.zero_add]
    simpa [rcs] using hj
  · intro u hu
    simp [rcs] at hu
    rcases hu with rfl | rfl <;> rfl
  · intro v' w' h1 h2 h3
    refine h v' w' ⟨?_, ?_, hB.2.2.trans h2 (fun g hg => .inr (hB.2.1 g (by simpa using hg)))⟩ h2 h3
    · unfold OwnN
      rw [List.length_append, List.flatMap_append]
      simpa using h1
    · intro g hg
      rcases h3 with h3 | h3
      · rw [h3] at hg; exact hB.2.1 g hg
      · rw [h3] at hg; injection hg with hg; rw [← hg]; exact hB.2.2.size

theorem lnsP_take : ∀ (ts : List ByteArray) (a j : Nat) (t : ByteArray), ts[j]? = some t → lnsP a (ts.take (j + 1)) = lnsP a (ts.take j) ++ [pc (if j = 0 then a else 0) t]
  | [], a, j, t, h => by simp at h
  | u :: ts, a, 0, t, h => by
    simp at h
    subst h
    simp [lnsP]
  | u :: ts, a, j + 1, t, h => by
    have := lnsP_take ts 0 j t (by simpa using h)
    rw [ite_self] at this
    rw [List.take_succ_cons, lnsP, this, List.take_succ_cons, lnsP, List.cons_append, if_neg (show ¬ j + 1 = 0 by omega)]
theorem lns_take {R : List Row} {k : Nat} {r : Row} (h : R[k]? = some r) : lns (R.take (k + 1)) = lns (R.take k) ++ lnsP (2 * r.1) (pcs r.2) := by
  unfold lns
  rw [take_snoc h, List.flatMap_append]
  simp
theorem lns_append (R S : List Row) : lns (R ++ S) = lns R ++ lns S := by unfold lns; rw [List.flatMap_append]
theorem lnsP_len : ∀ (a : Nat) (ts : List ByteArray), (lnsP a ts).length = ts.length
  | _, [] => rfl
  | a, t :: ts => by rw [lnsP, List.length_cons, List.length_cons, lnsP_len 0 ts]
theorem split_le (sep : ByteArray) : ∀ (k : Nat) (s t : ByteArray), t ∈ Lib.splitB sep 0 k s → t.size ≤ s.size
  | 0, s, t, h => by rw [Lib.splitB_zero] at h; simp at h; subst h; exact Nat.le_refl _
  | k + 1, s, t, h => by
    unfold Lib.splitB at h
    split at h
    · simp at h; subst h; exact Nat.le_refl _
    · rcases List.mem_cons.1 h with rfl | h
      · rw [ByteArray.size_extract]; omega
      · have := split_le sep k _ t h
        rw [ByteArray.size_extract] at this
        omega
theorem count_le (s : List UInt8) : Lib.count s [10] ≤ s.length := by
  have key : ∀ (n : Nat) (s : List UInt8), s.length ≤ n → Lib.count s [10] ≤ s.length := by
    intro n
    induction n with
    | zero =>
      intro s hs
      have : s = [] := List.eq_nil_of_length_eq_zero (by omega)
      subst this
      rw [Lib.count_miss (by rfl)]
      simp
    | succ n ih =>
      intro s hs
      rcases Lib.index_spec s [10] with ⟨h, _⟩ | ⟨i, h, hi, hocc, _⟩
      · rw [Lib.count_miss h]; omega
      · have hb := Lib.countB_hit (mk s) ⟨#[10]⟩ i (by decide) (by unfold Lib.indexB; exact (by simpa [mk] using h))
        unfold Lib.countB at hb
        have e1 : (mk s).data.toList = s := by simp [mk]
        have e2 : ((mk s).extract (i + 1) (mk s).size).data.toList = s.drop (i + 1) := by rw [Lib.extract_to_end, e1]
        have e3 : (⟨#[10]⟩ : ByteArray).data.toList = [10] := rfl
        have e4 : (⟨#[10]⟩ : ByteArray).size = 1 := rfl
        rw [e1, e3, e4, e2] at hb
        rw [hb]
        have hl : i < s.length := by
          unfold Lib.occAt at hocc
          rcases Nat.lt_or_ge i s.length with h' | h'
          · exact h'
          · rw [List.drop_of_length_le h'] at hocc; simp at hocc
        have := ih (s.drop (i + 1)) (by rw [List.length_drop]; omega)
        rw [List.length_drop] at this
        omega
  exact key s.length s (Nat.le_refl _)
theorem pcs_len (X : ByteArray) : (pcs X).length = Lib.countB X ⟨#[10]⟩ + 1 := Lib.splitB_all _ (by decide) 0 _ X rfl
theorem pcs_le (X : ByteArray) : (pcs X).length ≤ X.size + 1 := by
  rw [pcs_len]
  have := count_le X.data.toList
  have e3 : (⟨#[10]⟩ : ByteArray).data.toList = [10] := rfl
  unfold Lib.countB
  rw [e3]
  have e4 : X.size = X.data.toList.length := Array.length_toList.symm
  omega
theorem lns_len (m : Nat) : ∀ (R : List Row), (∀ r ∈ R, r.2.size ≤ m) → (lns R).length ≤ R.length * (m + 1)
  | [], _ => by simp [lns]
  | r :: R, h => by
    have h1 := lns_len m R fun q hq => h q (by simp [hq])
    have h2 := pcs_le r.2
    have h3 := h r (by simp)
    have e : lns (r :: R) = lnsP (2 * r.1) (pcs r.2) ++ lns R := by unfold lns; rw [List.flatMap_cons]
    rw [e, List.length_append, lnsP_len, List.length_cons, Nat.add_mul]
    omega
theorem lns_take_le (R : List Row) (k : Nat) : (lns (R.take k)).length ≤ (lns R).length := by
  conv => rhs; rw [← List.take_append_drop k R, lns_append]
  simp

set_option maxHeartbeats 8000000 in
set_option maxRecDepth 100000 in
theorem lines_any (T b : Nat) (F : List Nat) (R : List Row) (D : Nat) (m : Int) (w : World) (h : Sh T w b F R D) (hm : w.cell? ⟨0, 0, none⟩ = some (.int .i64 m)) (hR : R.length ≤ 100000000) (hy : ∀ r ∈ R, r.2.size ≤ 40000000 ∧ r.1 ≤ 10000000) (hz : (lns R).length ≤ 4000000000000) :
    Calls Tryz.prog 17 #[.pointer (some ⟨b, 0, none⟩)] w fun e w' => ∃ A' c', e = .returned (.slice A' (lns R).length c') ∧ Bln w w' (.slice A' (lns R).length c') (lns R) := by
  obtain ⟨V, h⟩ := h
  have hrow := h.row
  have hbl : b < w.heap.size := h.fl b h.fb
  obtain ⟨AV, cV, rfl, hVc, hVm⟩ := owns_form hrow
  have c0 : w.cell? ⟨b, 0, none⟩ = some (.slice AV R.length cV) := cell_of_row w b 0 _ T (0, 0) h.blk
  have HR := Lib.hid hrow
  have HY := Lib.hid hy
  have HM := Lib.hid hm
  have HZ := Lib.hid hz
  obtain ⟨n, hn⟩ : ∃ n, R.length = n := ⟨_, rfl⟩
  have HN := Lib.hid hn
  rw [hn] at c0 hR
  obtain ⟨i0, hi, hz0, hz1, hz2⟩ := info_parts line_info
  have HI := Lib.hid (And.intro hi (And.intro hz0 (And.intro hz1 hz2)))
  clear h hrow hz hn hVc hVm hi hz0 hz1 hz2 hy hm
  go_enter Tryz.func17, Tryz.ntmps17
  go_wp2_with (first
    | (at_make; refine wpList_make_own _ rfl _ _ 51 rfl 0 53 i0 _ 2 Tryz.underlying51 HI.out.1 HI.out.2.1 HI.out.2.2.1 .i64 .i64 _ n rfl rfl rfl (by rw [HI.out.2.2.2]; omega) (by unfold maxLen; omega) (Nat.zero_le _) ?_
       intro w0 ho0 hg0
       have t0 : Turn [] w w0 := (Turn.refl [] w).grown hg0 (by simp)
       have d0 : w0.cell? ⟨b, 0, none⟩ = some (.slice AV n cV) := (t0.cell (p := ⟨b, 0, none⟩) hbl (by simp)).trans c0
       have HB0 : Hid (Bln w w0 (.slice (some ⟨w.heap.size, 0, none⟩) 0 n) []) := Lib.hid ⟨ho0, (fun g hg => by injection hg with hg; exact Nat.le_of_eq hg), t0⟩
       clear ho0 hg0 t0 c0)
    | fail)
  go_loopw [3, 21] (fun v i wr => ∃ k : Nat, k ≤ n ∧ i = .int .i64 (k : Int) ∧ Hid (Bln w wr v (lns (R.take k)))) (fun _ i _ => n - (intOf i).toNat)
  case atStart => exact ⟨0, Nat.zero_le _, rfl, Lib.hid (by simpa [lns] using HB0.out)⟩
  case round =>
    obtain ⟨k, hk, rfl, HW⟩ := hrel
    by_cases hlt : k < n
    · obtain ⟨r, hr⟩ := at_lt (l := R) (k := k) (by rw [HN.out]; exact hlt)
      obtain ⟨g, rfl, hgl, q0, q1⟩ := row_at (Turn.owns HW.out.2.2 HR.out (by simp)) hr
      have hyr := HY.out r (List.mem_of_getElem? hr)
      obtain ⟨D0, X⟩ := r
      simp only at q0 q1 hyr
      have tA := bx wr #[.int .i64 (D0 : Int), .string X] 77
      obtain ⟨W, hW⟩ : ∃ W, wr.alloc (.cells #[.int .i64 (D0 : Int), .string X] 77) = W := ⟨_, rfl⟩
      rw [hW] at tA
      have HS := Lib.hid (split_any X ⟨#[10]⟩ m W (by omega) (((HW.out.2.2.trans' tA).cell (p := ⟨0, 0, none⟩) (cell_lt HM.out) (by simp)).trans HM.out) (by decide))
      have HX := Lib.hid (lns_take hr)
      have hz := HZ.out
      have hlk := lns_take_le R (k + 1)
      rw [lns_take hr, List.length_append, lnsP_len] at hlk
      obtain ⟨P, hP⟩ : ∃ P, (pcs X).length = P := ⟨_, rfl⟩
      have HP := Lib.hid hP
      have hPc : Lib.countB X ⟨#[10]⟩ + 1 = P := by rw [← hP, pcs_len]
      rw [hPc] at HS
      have hPn : P ≤ 40000001 := by have := pcs_le X; omega
      have hlk' : (lns (R.take k)).length + P ≤ 4000000000000 := by simp only at hlk; omega
      have HLK := Lib.hid hlk'
      have HTA := Lib.hid tA
      have HWW := Lib.hid hW
      have HWk : Hid (Bln w W u3 (lns (R.take k))) := Lib.hid (HW.out.turn' tA)
      clear hr hlk hlk' tA hW hP hPc HW hz
      go_wp2_with fail
      rw [HWW.out]
      refine HS.out.mono ?_
      rintro e w2 ⟨rfl, hw2⟩
      have HW2 : Hid (w2.heap[W.heap.size]? = some (.cells ((pcs X).map Value.string).toArray 9 (0, 0)) ∧ Turn [] W w2) := Lib.hid (by subst hw2; exact ⟨heap_alloc_new W _, bx W _ _⟩)
      clear hw2 HS
      obtain ⟨w0, hw0⟩ : ∃ q, q = wr := ⟨_, rfl⟩
      subst hw0
      have HPL := Lib.hid hPn
      have HD0 : Hid ((D0 : Int) * 2 = ((2 * D0 : Nat) : Int)) := Lib.hid (by omega)
      have HBk : Hid (Bln w w2 u3 (lns (R.take k) ++ lnsP (2 * D0) ((pcs X).take 0))) := Lib.hid (by
        have := HWk.out.turn' HW2.out.2
        simpa [lnsP] using this)
      have HNb : Hid (u3.ownBlock ≠ some W.heap.size) := Lib.hid (fun e => by
        have := (owns_lt HWk.out.1 e).1
        omega)
      have HYX := Lib.hid hyr.1
      have hd1 := hyr.2
      clear HWk hyr q0 q1
      go_wp2_with fail
      rw [HD0.out]
      obtain ⟨dd, hdd⟩ : ∃ q, 2 * D0 = q := ⟨_, rfl⟩
      rw [hdd] at HBk HX ⊢
      have hddl : dd ≤ 20000000 := by omega
      clear hdd hd1
      go_loopw [3, 6, 32] (fun v a i wi => ∃ j ah : Nat, j ≤ P ∧ i = .int .i64 (j : Int) ∧ a = .int .i64 (ah : Int) ∧ ah ≤ 20000000 ∧ Hid (ah = if j = 0 then dd else 0) ∧ Hid (Bln w wi v (lns (R.take k) ++ lnsP dd ((pcs X).take j)) ∧ v.ownBlock ≠ some W.heap.size ∧ W.heap.size < wi.heap.size ∧ wi.heap[W.heap.size]? = some (.cells ((pcs X).map Value.string).toArray 9 (0, 0)))) (fun _ _ i _ => P - (intOf i).toNat)
      case atStart => exact ⟨0, dd, Nat.zero_le _, rfl, rfl, hddl, Lib.hid rfl, Lib.hid ⟨HBk.out, HNb.out, (Array.getElem?_eq_some_iff.1 HW2.out.1).1, HW2.out.1⟩⟩
      case round =>
        obtain ⟨j, ah, hj, rfl, rfl, hah, HAH, HBj⟩ := hrel
        by_cases hjl : j < P
        · obtain ⟨t, ht⟩ := at_lt (l := pcs X) (k := j) (by rw [HP.out]; exact hjl)
          have hc : wr.cell? ⟨W.heap.size, j, none⟩ = some (.string t) := by rw [cell_of_row wr _ j _ _ _ HBj.out.2.2.2]; simp [ht]
          have hts : t.size ≤ 40000000 := Nat.le_trans (split_le _ _ _ _ (List.mem_of_getElem? ht)) HYX.out
          have hTL := tl_le t
          have HTR : Hid (Calls Tryz.prog 30 #[.string t, .string ⟨#[32]⟩] wr fun e w' => e = .returned (.string (tl t)) ∧ wr = w') := Lib.hid (trim_any t wr)
          have HTK := Lib.hid (lnsP_take (pcs X) dd j t ht)
          obtain ⟨TL, hTLe⟩ : ∃ q, tl t = q := ⟨_, rfl⟩
          have HPC : Hid (pc (if j = 0 then dd else 0) t = (ah + t.size - TL.size, TL)) := Lib.hid (by unfold pc; rw [← HAH.out, hTLe])
          rw [hTLe] at HTR hTL
          have hcast : (ah : Int) + (t.size : Int) - (TL.size : Int) = ((ah + t.size - TL.size : Nat) : Int) := by omega
          have HCA := Lib.hid hcast
          have hlen : (lns (R.take k) ++ lnsP dd ((pcs X).take j)).length ≤ 5000000000000 := by
            rw [List.length_append, lnsP_len, List.length_take, HP.out]
            have := HLK.out
            omega
          have HLE := Lib.hid hlen
          clear ht hTLe hcast hlen
          go_wp2_with fail
          refine HTR.out.mono ?_
          rintro e w4 ⟨rfl, rfl⟩
          go_wp2_with (first
            | (at_builtin
               refine wpList_bln rfl (.tmp 38) (.tmp 48) rfl w _ u3 (lns (R.take k) ++ lnsP dd ((pcs X).take j)) (ah + t.size - TL.size, TL) wr.heap.size 1 rfl rfl (HBj.out.1.turn' (bx wr _ _)) (by rw [← HCA.out]; exact heap_alloc_new wr _) HLE.out ?_
               intro v3 w3 hb3 ht3 hm3
               have HB3 := Lib.hid hb3
               have HM3 : Hid (v3.ownBlock ≠ some W.heap.size ∧ W.heap.size < w3.heap.size ∧ w3.heap[W.heap.size]? = some (.cells ((pcs X).map Value.string).toArray 9 (0, 0))) := Lib.hid (by
                 have hs1 := (bx wr #[.int .i64 ((ah : Int) + (t.size : Int) - (TL.size : Int)), .string TL] 53)
                 refine ⟨fun e => ?_, Nat.lt_of_lt_of_le HBj.out.2.2.1 (Nat.le_trans hs1.size ht3.size), ht3.heap (hs1.heap HBj.out.2.2.2 (by simp)) (fun hg => HBj.out.2.1 (by simpa using hg))⟩
                 rcases hm3 with h | h
                 · rw [h] at e; exact HBj.out.2.1 e
                 · rw [h] at e; injection e with e; have := HBj.out.2.2.1; have := hs1.size; omega)
               clear hb3 ht3 hm3)
            | fail)
          go_roundw
          case rel => exact ⟨j + 1, 0, by omega, by go_num, rfl, by omega, Lib.hid (by rw [if_neg (show ¬ j + 1 = 0 by omega)]), Lib.hid ⟨by rw [HTK.out, HPC.out, ← List.append_assoc]; exact HB3.out, HM3.out⟩⟩
          case measure => simp [intOf]; omega
        · have hjP : j = P := by omega
          subst hjP
          have HBe : Hid (Bln w wr u3 (lns (R.take (k + 1)))) := Lib.hid (by
            have := HBj.out.1
            rw [List.take_of_length_le (l := pcs X) (by rw [HP.out]; exact Nat.le_refl _)] at this
            rw [HX.out]; exact this)
          go_wp2_with fail
          go_roundw
          case rel => exact ⟨k + 1, by omega, by go_num, HBe⟩
          case measure => simp [intOf]; omega
    · have hkn : k = n := by omega
      subst hkn
      have hb := HW.out
      rw [List.take_of_length_le (by rw [HN.out]; exact Nat.le_refl _)] at hb
      obtain ⟨A', c', hv, hc', _⟩ := owns_form hb.1
      subst hv
      have HB := Lib.hid hb
      clear hb HW
      go_wp2_with fail
      go_ret
      exact ⟨A', c', rfl, HB.out⟩
end Go.Proofs.YtoekaehpcjhhaaaGreatDoor
