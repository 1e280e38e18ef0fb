/- InternPads: tuples that differ by noughts behind alone are unlike ones. -/
import Derived.Test.YtepkpllfdfbmiaaPd
set_option linter.unusedSimpArgs false
set_option linter.unusedVariables false
namespace Go.Proofs.Ytepkpllfdfbmiaa
open Go.RowKit Go.Maps

theorem idN_none {ns : List Int} (h : ns.length ≤ 8) : idN [] ns = 0 := by
  unfold idN
  rw [if_neg (by omega), if_neg (by simp)]
  rfl
theorem idL_none {ns : List Int} (h : ns.length ≤ 8) : idL [] ns = [ns] := by
  unfold idL
  rw [if_neg (by omega), if_neg (by simp)]
  rfl
theorem fnd_head (ns : List Int) (Ns : List (List Int)) : fnd (ns :: Ns) ns = 0 := by
  unfold fnd
  simp
theorem idN_head {ns : List Int} (Ns : List (List Int)) (h : ns.length ≤ 8) : idN (ns :: Ns) ns = 0 := by
  unfold idN
  rw [if_neg (by omega), if_pos (by simp), fnd_head]
  rfl
theorem idN_long {ns : List Int} (Ns : List (List Int)) (h : 8 < ns.length) : idN Ns ns = -1 := if_pos h
theorem idL_long {ns : List Int} (Ns : List (List Int)) (h : 8 < ns.length) : idL Ns ns = Ns := if_pos h
theorem idN_new {ns : List Int} {Ns : List (List Int)} (h : ns.length ≤ 8) (hn : ns ∉ Ns) : idN Ns ns = (Ns.length : Int) := by
  unfold idN
  rw [if_neg (by omega), if_neg hn]
theorem idL_new {ns : List Int} {Ns : List (List Int)} (h : ns.length ≤ 8) (hn : ns ∉ Ns) : idL Ns ns = Ns ++ [ns] := by
  unfold idL
  rw [if_neg (by omega), if_neg hn]

theorem OwnI.slice {w : World} {B : Nat} {v : Value} {l : List Int} (h : OwnI w B v l) : ∃ A c, v = .slice A l.length c ∧ Ints w A l ∧ l.length ≤ c ∧ ∀ a, A = some a → B ≤ a.block ∧ a.block < w.heap.size := by
  obtain ⟨A, c, e, hI, hc⟩ := h.form
  refine ⟨A, c, e, hI, hc, ?_⟩
  rintro a rfl
  exact OwnI.lt h a.block (by rw [e]; rfl)
theorem OwnI.arg {w : World} {B : Nat} {A : Option Addr} {n c : Nat} {l : List Int} (h : OwnI w B (.slice A n c) l) (hw : Wf l) : Arg w A l c := by
  obtain ⟨A', c', e, hI, hc⟩ := h.form
  cases e
  refine ⟨hI, hw, ?_⟩
  rintro rfl
  rcases h.2 with ⟨e, hn⟩ | ⟨g, cap, cur, e, _⟩
  · injection e with _ _ e3
    exact ⟨hn, e3⟩
  · cases e
theorem Ints.off {w w' : World} {F : List Nat} {A : Option Addr} {l : List Int} (h : Ints w A l) (t : Turn F w w') (hn : ∀ a, A = some a → a.block ∉ F) : Ints w' A l := fun k y hy => by
  obtain ⟨g, off, e, hlt, hc⟩ := h k y hy
  exact ⟨g, off, e, Nat.lt_of_lt_of_le hlt t.size, (t.cell (p := ⟨g, off + k, none⟩) hlt (hn ⟨g, off, none⟩ e)).trans hc⟩
theorem Wf.zeros {l : List Int} (h : Wf l) (k : Nat) : Wf (l ++ List.replicate k 0) := by
  intro y hy
  rcases List.mem_append.1 hy with hy | hy
  · exact h y hy
  · have := List.eq_of_mem_replicate hy
    subst this
    decide
/-- An argument's cells lie below what the call makes. -/
theorem Turn.arg {w w' : World} {A : Option Addr} {ns : List Int} {c : Nat} (h : Arg w A ns c) (t : Turn [] w w') : Arg w' A ns c := h.turn' t

set_option maxRecDepth 100000 in
set_option maxHeartbeats 4000000 in
theorem pads_law (A : Option Addr) (c : Nat) (ns : List Int) (k : Nat) (w : World) (hl : ns.length ≤ 9223372036854775807) (hA : Arg w A ns c) (hk : k ≤ 255) :
    Calls Try.prog 5 #[.slice A ns.length c, .int .u8 (k : Int)] w fun e w' => e = .returned (.bool true) ∧ Turn [] w w' := by
  have HA := Lib.hid hA
  clear hA
  by_cases h8 : 8 < ns.length
  · have d : decide ((8 : Int) < (ns.length : Int)) = true := by simp; omega
    have d' : decide (8 < ns.length) = true := by simp; omega
    go_enter Try.func5, Try.ntmps5
    go_wp2_with fail
    refine (awake_any _).mono ?_
    rintro e w1 ⟨rfl, ht1⟩
    have HT1 := Lib.hid ht1
    clear ht1
    go_wp2_with fail
    refine (awake_any _).mono ?_
    rintro e w2 ⟨rfl, ht2⟩
    have HT2 := Lib.hid (HT1.out.trans' ht2)
    clear ht2
    go_wp2_with fail
    go_ret
    exact ⟨rfl, HT2.out⟩
  · have hn8 : ns.length ≤ 8 := by omega
    have d : decide ((8 : Int) < (ns.length : Int)) = false := by simp; omega
    have d' : decide (8 < ns.length) = false := by simp; omega
    obtain ⟨K, hK, hK8⟩ : ∃ K : Nat, k % 8 = K ∧ K < 8 := ⟨k % 8, rfl, Nat.mod_lt _ (by omega)⟩
    obtain ⟨J, hJ⟩ : ∃ J : Nat, J = K + 1 := ⟨_, rfl⟩
    have hKi : (1 : Int) + (k : Int) % 8 = (J : Int) := by omega
    have hKi2 : (1 : Int) + (k : Int).tmod 8 = (J : Int) := by rw [← hKi, Int.tmod_eq_emod_of_nonneg (by omega)]
    have hJ0 : 0 < J := by omega
    have hJ8 : J ≤ 8 := by omega
    clear hK hJ
    obtain ⟨Bl, hBl⟩ : ∃ Bl, ns ++ List.replicate J 0 = Bl := ⟨_, rfl⟩
    obtain ⟨M, hM⟩ : ∃ M, Bl.length = M := ⟨_, rfl⟩
    have hMJ : M = ns.length + J := by rw [← hM, ← hBl]; simp
    have HWB : Hid (Wf Bl) := Lib.hid (by rw [← hBl]; exact HA.out.2.1.zeros J)
    have HNE : Hid (Bl ∉ [ns]) := Lib.hid (fun h => by
      simp at h
      have : Bl.length = ns.length := by rw [h]
      omega)
    have HBl := Lib.hid hBl
    have HM := Lib.hid hM
    have HI0 : Hid (idN [] ns = 0 ∧ idL [] ns = [ns]) := Lib.hid ⟨idN_none hn8, idL_none hn8⟩
    have HMJ := Lib.hid hMJ
    have hM16 : M ≤ 16 := by omega
    clear hBl hM hMJ
    go_enter Try.func5, Try.ntmps5
    go_wp2_with fail
    refine (awake_any _).mono ?_
    rintro e w1 ⟨rfl, ht1⟩
    have HT1 := Lib.hid ht1
    clear ht1
    go_wp2_with fail
    (with_reducible refine (new_any _).mono ?_)
    rintro e w2 ⟨b, rfl, hq2, hb2, ht2⟩
    have HF2 : Hid (Foot w.heap.size [] [b]) := Lib.hid (fun g hg => .inr (by have := HT1.out.size; simp at hg; omega))
    have HQ2 := Lib.hid hq2
    have HT2 := Lib.hid (HT1.out.trans' ht2)
    clear hq2 ht2 HT1 hb2
    go_wp2_with fail
    (with_reducible refine (id_any b [b] [] [] A ns c _ HQ2.out (HA.out.turn' HT2.out) (by simp)).mono ?_)
    rw [HI0.out.1, HI0.out.2]
    rintro e w3 ⟨rfl, F3, hq3, hf3, ht3⟩
    have HQ3 := Lib.hid hq3
    have HF3 := Lib.hid (HF2.out.trans hf3 HT2.out.size)
    have HT3 := Lib.hid (HT2.out.trans ht3 HF2.out)
    have HA3 := Lib.hid (HA.out.turn' HT3.out)
    clear hq3 hf3 ht3 HQ2 HT2 HF2
    go_wp2_with (at_builtin; first
      | (refine wpList_clone rfl (.tmp 21) (.tmp 22) rfl w3 ns A c rfl rfl HA3.out.1 (by omega) ?_; intro v4 w4 ho4 ht4; have HO4 := Lib.hid ho4; have HT4 := Lib.hid ht4; have hs4 := ht4.size; clear ho4 ht4)
      | (refine wpList_appZ rfl (.tmp 23) (.tmp 27) rfl w4 w3.heap.size v4 ns J hJ0 rfl rfl HO4.out (by omega) hs4 ?_; intro v5 w5 ho5 ht5; rw [HBl.out] at ho5; have hf5 := ho5.form; rw [HM.out] at hf5; obtain ⟨A5, c5, rfl, _, hc5⟩ := hf5; have HO5 := Lib.hid ho5; have HT5 := Lib.hid ht5; clear ho5 ht5))
    have t35 : Turn [] w3 w5 := HT4.out.trans HT5.out (fun g hg => .inr (OwnI.lt HO4.out g (by simpa using hg)).1)
    have HT5' := Lib.hid (HT3.out.trans' t35)
    have HQ5 := Lib.hid (HQ3.out.turn' t35)
    have HA5 : Hid (Arg w5 A5 Bl c5) := Lib.hid (by exact HO5.out.arg HWB.out)
    clear t35
    have hMJ := HMJ.out
    by_cases hM8 : 8 < M
    · clear hMJ
      have e1 : decide ((8 : Int) < (M : Int)) = true := by simp; omega
      have e2 : decide (8 < M) = true := by simp; omega
      have e3 : decide ((M : Int) ≤ 8) = false := by simp; omega
      have e4 : decide (M ≤ 8) = false := by simp; omega
      have HI1 : Hid (idN [ns] Bl = -1 ∧ idL [ns] Bl = [ns]) := Lib.hid ⟨idN_long _ (by have := HM.out; omega), idL_long _ (by have := HM.out; omega)⟩
      have hI := id_any b F3 [ns] [] A5 Bl c5 w5 HQ5.out HA5.out (by simp)
      rw [HM.out, HI1.out.1, HI1.out.2] at hI
      (with_reducible refine hI.mono ?_)
      clear hI
      rintro e w6 ⟨rfl, F6, hq6, hf6, ht6⟩
      have HQ6 := Lib.hid hq6
      have HF6 := Lib.hid (HF3.out.trans hf6 HT5'.out.size)
      have HT6 := Lib.hid (HT5'.out.trans ht6 HF3.out)
      have HA6 := Lib.hid (HA.out.turn' HT6.out)
      clear hq6 hf6 ht6
      go_wp2_with fail
      refine (len_any b F6 [ns] [] _ HQ6.out).mono ?_
      rintro e w7 ⟨rfl, rfl⟩
      rw [show (([ns] : List (List Int)).length : Int) = 1 from rfl]
      go_wp2_with fail
      have hI2 := id_any b F6 [ns] [] A ns c w6 HQ6.out HA6.out (by simp)
      rw [idN_head _ hn8] at hI2
      (with_reducible refine hI2.mono ?_)
      clear hI2
      rintro e w8 ⟨rfl, F8, hq8, hf8, ht8⟩
      have HT8 := Lib.hid (HT6.out.trans ht8 HF6.out)
      clear hq8 hf8 ht8
      go_wp2_with fail
      go_ret
      exact ⟨rfl, HT8.out⟩
    · clear hMJ
      have e1 : decide ((8 : Int) < (M : Int)) = false := by simp; omega
      have e2 : decide (8 < M) = false := by simp; omega
      have e3 : decide ((M : Int) ≤ 8) = true := by simp; omega
      have e4 : decide (M ≤ 8) = true := by simp; omega
      have HI1 : Hid (idN [ns] Bl = 1 ∧ idL [ns] Bl = [ns, Bl]) := Lib.hid ⟨idN_new (by have := HM.out; omega) HNE.out, idL_new (by have := HM.out; omega) HNE.out⟩
      have hI := id_any b F3 [ns] [] A5 Bl c5 w5 HQ5.out HA5.out (by simp)
      rw [HM.out, HI1.out.1, HI1.out.2] at hI
      (with_reducible refine hI.mono ?_)
      clear hI
      rintro e w6 ⟨rfl, F6, hq6, hf6, ht6⟩
      have HQ6 := Lib.hid hq6
      have HF6 := Lib.hid (HF3.out.trans hf6 HT5'.out.size)
      have HT6 := Lib.hid (HT5'.out.trans ht6 HF3.out)
      have HA6 := Lib.hid (HA.out.turn' HT6.out)
      clear hq6 hf6 ht6
      go_wp2_with fail
      refine (len_any b F6 [ns, Bl] [] _ HQ6.out).mono ?_
      rintro e w7 ⟨rfl, rfl⟩
      rw [show (([ns, Bl] : List (List Int)).length : Int) = 2 from rfl]
      go_wp2_with fail
      have hI2 := id_any b F6 [ns, Bl] [] A ns c w6 HQ6.out HA6.out (by simp)
      rw [idN_head _ hn8] at hI2
      (with_reducible refine hI2.mono ?_)
      clear hI2
      rintro e w8 ⟨rfl, F8, hq8, hf8, ht8⟩
      have HT8 := Lib.hid (HT6.out.trans ht8 HF6.out)
      clear hq8 hf8 ht8
      go_wp2_with fail
      go_ret
      exact ⟨rfl, HT8.out⟩
end Go.Proofs.Ytepkpllfdfbmiaa
