/- params, above, methods. -/
import Derived.Test.YtoekaehpcjhhaaaGreatDoorPvr
import Derived.Test.YtoekaehpcjhhaaaGreatDoorShl
set_option linter.unusedSimpArgs false
set_option linter.unusedVariables false
namespace Go.Proofs.YtoekaehpcjhhaaaGreatDoor
open Go.RowKit

theorem parL_take {l : List Vr} {j : Nat} {v : Vr} (h : l[j]? = some v) : parL (l.take (j + 1)) = parL (l.take j) ++ [v.1 ++ sp ++ v.2] := by
  unfold parL
  rw [take_snoc h, List.map_append]
  rfl
theorem parL_len (l : List Vr) : (parL l).length = l.length := by simp [parL]
theorem parT_size {l : List Vr} (h : FtV l) : (parT l).size ≤ 16777300 := by
  have := size_jn_le (parL l) ⟨#[44, 32]⟩ 2097153 2 (by
    intro a ha
    obtain ⟨v, hv, rfl⟩ := List.mem_map.1 ha
    have := h.2 v hv
    simp only [size_app, sp, sz_lit, List.size_toArray, List.length_cons, List.length_nil]
    omega) (by decide)
  rw [parL_len] at this
  have h2 : l.length * (2097153 + 2) ≤ 8 * (2097153 + 2) := Nat.mul_le_mul_right _ h.1
  unfold parT
  omega

set_option maxHeartbeats 4000000 in
set_option maxRecDepth 100000 in
theorem params_any (A : Option Addr) (c B : Nat) (l : List Vr) (w : World) (hr : RdV B w A l) (hf : FtV l) :
    Calls Tryz.prog 72 #[.slice A l.length c] w fun e w' => e = .returned (.string (parT l)) ∧ Turn [] w w' := by
  have HR := Lib.hid hr
  have HV := Lib.hid hf.2
  have HZ := Lib.hid (parT_size hf)
  obtain ⟨n, hn⟩ : ∃ n, l.length = n := ⟨_, rfl⟩
  have HN := Lib.hid hn
  have hn8 : n ≤ 8 := by rw [← hn]; exact hf.1
  obtain ⟨i0, hi, hz0, hz1, hz2⟩ := info_parts str_info
  have HI := Lib.hid (And.intro hi (And.intro hz0 (And.intro hz1 hz2)))
  rw [hn]
  clear hr hf hn hi hz0 hz1 hz2
  go_enter Tryz.func72, Tryz.ntmps72
  go_wp2_with (first
    | (at_make; refine wpList_make_own _ rfl _ _ 36 rfl 0 9 i0 _ 1 Tryz.underlying36 HI.out.1 HI.out.2.1 HI.out.2.2.1 .i64 .i64 _ n rfl rfl rfl (by rw [HI.out.2.2.2]; omega) (by unfold maxLen; omega) (Nat.zero_le _) ?_
       intro w0 ho0 hg0
       have t0 : Turn [] w w0 := (Turn.refl [] w).grown hg0 (by simp)
       have HB0 : Hid (Bld w w0 (.slice (some ⟨w.heap.size, 0, none⟩) 0 n) []) := Lib.hid ⟨ho0, (fun g hg => by injection hg with hg; exact Nat.le_of_eq hg), t0⟩
       clear ho0 hg0 t0)
    | fail)
  go_loopw [3, 11] (fun v i wr => ∃ j : Nat, j ≤ n ∧ i = .int .i64 (j : Int) ∧ Hid (Bld w wr v (parL (l.take j)))) (fun _ i _ => n - (intOf i).toNat)
  case atStart => exact ⟨0, Nat.zero_le _, rfl, Lib.hid (by simpa [parL] using HB0.out)⟩
  case round =>
    obtain ⟨j, hj, rfl, HW⟩ := hrel
    by_cases hlt : j < n
    · obtain ⟨v, hv⟩ := at_lt (l := l) (k := j) (by rw [HN.out]; exact hlt)
      obtain ⟨g, off, p, q, rfl, hgB, hgl, e0, e1, e2, e3⟩ := (HR.out.turn HW.out.2.2 (by simp)) j v hv
      have hvs := HV.out v (List.mem_of_getElem? hv)
      have HX := Lib.hid (parL_take hv)
      obtain ⟨t, x⟩ := v
      simp only at e0 e1 hvs
      have hlk : (parL (l.take j)).length = j := by rw [parL_len, List.length_take, HN.out]; omega
      have HLK := Lib.hid hlk
      have d1 := add_run t ⟨#[32]⟩ (by simp only [sz_lit, List.size_toArray, List.length_cons, List.length_nil]; omega)
      have d2 := add_run (t ++ ⟨#[32]⟩) x (by simp only [size_app, sz_lit, List.size_toArray, List.length_cons, List.length_nil]; omega)
      obtain ⟨X, hX⟩ : ∃ X, t ++ ⟨#[32]⟩ ++ x = X := ⟨_, rfl⟩
      rw [hX] at d2
      have HXX : Hid (t ++ sp ++ x = X) := Lib.hid hX
      clear hv hlk hvs hX
      go_wp2_with (first
        | (at_builtin
           refine wpList_bld rfl (.tmp 15) (.tmp 22) rfl w _ u3 (parL (l.take j)) [X] (some ⟨wr.heap.size + 1, 0, none⟩) 1 1 rfl rfl (HW.out.turn' ((bx wr _ _).trans' (bx _ _ _))) (sts_new2 wr _ _ _ rfl) rfl (by rw [HLK.out]; simp; omega) ?_
           intro v3 w3 hb3
           have HB3 := Lib.hid hb3
           clear hb3)
        | fail)
      go_roundw
      case rel => exact ⟨j + 1, by omega, by go_num, Lib.hid (by rw [HX.out, HXX.out]; exact HB3.out)⟩
      case measure => simp [intOf]; omega
    · have hkn : j = n := by omega
      subst hkn
      have hb := HW.out
      rw [List.take_of_length_le (by rw [HN.out]; exact Nat.le_refl _)] at hb
      obtain ⟨A', c', hv, hc', _⟩ := owns_form hb.1
      rw [parL_len, HN.out] at hv hc'
      subst hv
      have HJ := Lib.hid (join_any A' c' (parL l) ⟨#[44, 32]⟩ wr (OwnS.sts hb.1).2.2 (by rw [parL_len, HN.out]; exact hc') (by rw [parL_len, HN.out]; omega) (by have := HZ.out; unfold parT at this; omega))
      rw [parL_len, HN.out] at HJ
      have HT := Lib.hid hb.2.2
      clear hb HW
      go_wp2_with fail
      refine HJ.out.mono ?_
      rintro e w5 ⟨rfl, t5⟩
      have HT5 := Lib.hid t5
      clear t5
      go_wp2_with fail
      go_ret
      exact ⟨rfl, HT.out.trans' HT5.out⟩

theorem faces_size {l : List ByteArray} (h : l.length ≤ 8 ∧ ∀ f ∈ l, f.size ≤ 1048576) : (jn l ⟨#[44, 32]⟩).size ≤ 8388700 := by
  have := size_jn_le l ⟨#[44, 32]⟩ 1048576 2 h.2 (by decide)
  have h2 : l.length * (1048576 + 2) ≤ 8 * (1048576 + 2) := Nat.mul_le_mul_right _ h.1
  omega
set_option maxHeartbeats 2000000 in
theorem above_any (k : ByteArray) (A : Option Addr) (c : Nat) (l : List ByteArray) (w : World) (h : Sts w A l) (hc : l.length ≤ c) (hl : l.length ≤ 8 ∧ ∀ f ∈ l, f.size ≤ 1048576) (hk : k.size ≤ 100) :
    Calls Tryz.prog 54 #[.string k, .slice A l.length c] w fun e w' => e = .returned (.string (aboT k l)) ∧ Turn [] w w' := by
  by_cases h0 : l.length = 0
  · have HE : Hid (aboT k l = ⟨#[]⟩) := Lib.hid (by rw [aboT, if_pos h0])
    rw [h0]
    clear h hc hl
    go_enter Tryz.func54, Tryz.ntmps54
    go_wp2_with fail
    go_ret
    exact ⟨ret_s HE.out.symm, Turn.refl _ _⟩
  · have hj := faces_size hl
    have HJ := Lib.hid (join_any A c l ⟨#[44, 32]⟩ w h hc (by omega) (by omega))
    obtain ⟨J, hJ⟩ : ∃ J, jn l ⟨#[44, 32]⟩ = J := ⟨_, rfl⟩
    have HE : Hid (aboT k l = ⟨#[32]⟩ ++ k ++ ⟨#[32]⟩ ++ J) := Lib.hid (by rw [aboT, if_neg h0, hJ]; rfl)
    rw [hJ] at HJ hj
    obtain ⟨n, hn⟩ : ∃ n, l.length = n := ⟨_, rfl⟩
    rw [hn] at HJ h0 ⊢
    have h0I : ¬ (n : Int) = 0 := by omega
    have d1 := add_run ⟨#[32]⟩ k (by simp only [sz_lit, List.size_toArray, List.length_cons, List.length_nil]; omega)
    have d2 := add_run (⟨#[32]⟩ ++ k) ⟨#[32]⟩ (by simp only [size_app, sz_lit, List.size_toArray, List.length_cons, List.length_nil]; omega)
    have d3 := add_run (⟨#[32]⟩ ++ k ++ ⟨#[32]⟩) J (by simp only [size_app, sz_lit, List.size_toArray, List.length_cons, List.length_nil]; omega)
    clear h hc hl hn hJ hj
    go_enter Tryz.func54, Tryz.ntmps54
    go_wp2_with fail
    refine HJ.out.mono ?_
    rintro e w1 ⟨rfl, t1⟩
    have HT := Lib.hid t1
    clear t1
    go_wp2_with fail
    go_ret
    exact ⟨ret_s HE.out.symm, HT.out⟩

theorem metsR_take {D : Nat} {l : List Mt} {j : Nat} {m : Mt} (h : l[j]? = some m) : metsR D (l.take (j + 1)) = metsR D (l.take j) ++ metR D m := by
  unfold metsR
  rw [take_snoc h, List.flatMap_append]
  simp
theorem metsR_take_le (D : Nat) {l : List Mt} (h : l.length ≤ 5 ∧ ∀ m ∈ l, FtM m) (j : Nat) : (metsR D (l.take j)).length ≤ 8500050 :=
  metsR_len D ⟨by rw [List.length_take]; omega, fun m hm => h.2 m (List.mem_of_mem_take hm)⟩
theorem hdT_size {m : Mt} (h : FtM m) : (hdT m).size ≤ 16777600 := by
  have h1 := parT_size h.2.2.1
  have h2 := h.1
  have h3 := h.2.1
  unfold hdT
  simp only [size_app, sp, sz_lit, List.size_toArray, List.length_cons, List.length_nil]
  omega
end Go.Proofs.YtoekaehpcjhhaaaGreatDoor
