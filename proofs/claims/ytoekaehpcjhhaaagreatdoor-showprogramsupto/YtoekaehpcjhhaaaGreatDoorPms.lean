/- methods. -/
import Derived.Test.YtoekaehpcjhhaaaGreatDoorPmt
set_option linter.unusedSimpArgs false
set_option linter.unusedVariables false
namespace Go.Proofs.YtoekaehpcjhhaaaGreatDoor
open Go.RowKit

theorem Wr.start {T : Nat} {w : World} {b : Nat} {F : List Nat} {R : List Row} {D : Nat} (h : Sh T w b F R D) : Wr T w b F R D w := ⟨F, h, Foot.refl _ _, Turn.refl _ _⟩
/-- block whose head was laid in a new slice. -/
theorem block_new (T b : Nat) (F : List Nat) (R : List Row) (D : Nat) (B : Nat) (cs : List Value) (m : Mt) (xs : List ByteArray) (C : Array Value) (hC : C = (xs.map Value.string).toArray) (w : World) (h : Sh T w b F R D) (hF : ∀ g ∈ F, B ≤ g) (hE : Env B w) (hm : FtM m) (hr : RdM B w cs m) (hn : xs.length ≤ 1000) (hxl : (cat xs).size ≤ 1000000000) (hz : D + R.length ≤ 90000000) :
    Calls Tryz.prog 25 #[.pointer (some ⟨b, 0, none⟩), .agg cs.toArray, .slice (some ⟨w.heap.size, 0, none⟩) xs.length xs.length] (w.alloc (.cells C 9)) fun e w' => e = .returned (.tuple #[]) ∧ Wr T w b F (R ++ blkR D (cat xs) m) D w' := by
  have tA := bx w C 9
  refine (block_any T b F R D B cs m _ _ xs _ (h.turn' tA) hF (hE.turn tA (by simp)) hm (hr.turn tA (by simp)) (sts_new w xs C hC) (Nat.le_refl _) hn hxl hz).mono ?_
  rintro e w1 ⟨rfl, hW⟩
  exact ⟨rfl, Wr.after tA hW⟩
theorem put_new2 (T b : Nat) (F : List Nat) (R : List Row) (D : Nat) (xs : List ByteArray) (C : Array Value) (hC : C = (xs.map Value.string).toArray) (w : World) (h : Sh T w b F R D) (hn : xs.length ≤ 1000) (hxl : (cat xs).size ≤ 1000000000) (hz : R.length ≤ 1000000000) :
    Calls Tryz.prog 56 #[.pointer (some ⟨b, 0, none⟩), .slice (some ⟨w.heap.size, 0, none⟩) xs.length xs.length] (w.alloc (.cells C 9)) fun e w' => e = .returned (.tuple #[]) ∧ Wr T w b F (R ++ [(D, cat xs)]) D w' := by
  have tA := bx w C 9
  refine (put_any T b F R D _ _ xs _ (h.turn' tA) (sts_new w xs C hC) (Nat.le_refl _) (by omega) (by omega) hz).mono ?_
  rintro e w1 ⟨rfl, hW⟩
  exact ⟨rfl, Wr.after tA hW⟩

set_option maxHeartbeats 8000000 in
set_option maxRecDepth 100000 in
theorem methods_any (T b : Nat) (F : List Nat) (R : List Row) (D : Nat) (A : Option Addr) (c B : Nat) (l : List Mt) (w : World) (h : Sh T w b F R D) (hr : RdMs B w A l) (hF : ∀ g ∈ F, B ≤ g) (hE : Env B w) (hf : l.length ≤ 5 ∧ ∀ m ∈ l, FtM m) (hz : D + R.length ≤ 80000000) :
    Calls Tryz.prog 53 #[.pointer (some ⟨b, 0, none⟩), .slice A l.length c] w fun e w' => e = .returned (.tuple #[]) ∧ Wr T w b F (R ++ metsR D l) D w' := by
  have H0 : Hid (Wr T w b F (R ++ metsR D (l.take 0)) D w) := Lib.hid (by simpa [metsR] using Wr.start h)
  have HR := Lib.hid hr
  have HF := Lib.hid hF
  have HE := Lib.hid hE
  have HV := Lib.hid hf
  obtain ⟨n, hn⟩ : ∃ n, l.length = n := ⟨_, rfl⟩
  have HN := Lib.hid hn
  have hn8 : n ≤ 5 := by rw [← hn]; exact hf.1
  rw [hn]
  clear h hr hF hf hn hE
  go_enter Tryz.func53, Tryz.ntmps53
  go_wp2_with fail
  go_loopw [9] (fun i wr => ∃ j : Nat, j ≤ n ∧ i = .int .i64 (j : Int) ∧ Hid (Wr T w b F (R ++ metsR D (l.take j)) D wr)) (fun i _ => n - (intOf i).toNat)
  case atStart => exact ⟨0, Nat.zero_le _, rfl, H0⟩
  case round =>
    obtain ⟨j, hj, rfl, HW⟩ := hrel
    by_cases hlt : j < n
    · obtain ⟨F1, hS1, hF1, hT1⟩ := HW.out
      obtain ⟨m, hm⟩ := at_lt (l := l) (k := j) (by rw [HN.out]; exact hlt)
      obtain ⟨g, off, cs, rfl, ⟨_, hgB, hgl, hcell⟩, hRd⟩ := (HR.out.turn hT1 HF.out) j m hm
      have hfm := HV.out.2 m (List.mem_of_getElem? hm)
      have HX := Lib.hid (metsR_take (D := D) hm)
      have hlen0 := metsR_take_le D HV.out j
      have hhd := hdT_size hfm
      have hpt := parT_size hfm.2.2.1
      simp only at hgB hgl hcell
      have hRd0 := hRd
      obtain ⟨A1, c1, A2, c2, A3, c3, p, q, rfl, r1, r2, r3⟩ := hRd
      have e0 : wr.cell? ⟨g, off + j * 9, none⟩ = some (.string m.ret) := hcell 0 _ rfl
      have e1 := hcell 1 _ rfl
      have e2 := hcell 2 _ rfl
      have e3 := hcell 3 _ rfl
      have e4 := hcell 4 _ rfl
      have e5 := hcell 5 _ rfl
      have e6 := hcell 6 _ rfl
      have e7 := hcell 7 _ rfl
      have e8 := hcell 8 _ rfl
      have tA := bx wr #[.string m.ret, .string m.name, .bool m.stat, .bool m.bare, .slice A1 m.ps.length c1, .slice A2 m.ls.length c2, .slice A3 m.bd.length c3, .int .i64 p, .int .i64 q] 28
      obtain ⟨W, hW⟩ : ∃ W, wr.alloc (.cells #[.string m.ret, .string m.name, .bool m.stat, .bool m.bare, .slice A1 m.ps.length c1, .slice A2 m.ls.length c2, .slice A3 m.bd.length c3, .int .i64 p, .int .i64 q] 28) = W := ⟨_, rfl⟩
      have hg' : W.heap[wr.heap.size]? = some (.cells #[.string m.ret, .string m.name, .bool m.stat, .bool m.bare, .slice A1 m.ps.length c1, .slice A2 m.ls.length c2, .slice A3 m.bd.length c3, .int .i64 p, .int .i64 q] 28 (0, 0)) := by rw [← hW]; exact heap_alloc_new wr _
      rw [hW] at tA
      have hWl : wr.heap.size < W.heap.size := (Array.getElem?_eq_some_iff.1 hg').1
      have gs : ∀ (w' : World), Turn [] W w' → ∀ (i : Nat) (v : Value), (#[.string m.ret, .string m.name, .bool m.stat, .bool m.bare, .slice A1 m.ps.length c1, .slice A2 m.ls.length c2, .slice A3 m.bd.length c3, .int .i64 p, .int .i64 q] : Array Value)[i]? = some v → w'.cell? ⟨wr.heap.size, i, none⟩ = some v := fun w' ht i v hv => (ht.cell (p := ⟨wr.heap.size, i, none⟩) hWl (by simp)).trans ((cell_of_row W _ i _ _ _ hg').trans hv)
      have HG := Lib.hid gs
      have m0 := gs W (Turn.refl _ _) 0 _ rfl
      have m1 := gs W (Turn.refl _ _) 1 _ rfl
      have m4 := gs W (Turn.refl _ _) 4 _ rfl
      have HPa := Lib.hid (params_any A1 c1 B m.ps W.drew ((r1.turn tA (by simp)).turn (Turn.refl [] W).drew (by simp)) hfm.2.2.1)
      have HB : Hid (∀ w' (xs : List ByteArray) (C : Array Value), Turn [] W w' → C = (xs.map Value.string).toArray → xs.length ≤ 1000 → (cat xs).size ≤ 1000000000 → Calls Tryz.prog 25 #[.pointer (some ⟨b, 0, none⟩), .agg #[.string m.ret, .string m.name, .bool m.stat, .bool m.bare, .slice A1 m.ps.length c1, .slice A2 m.ls.length c2, .slice A3 m.bd.length c3, .int .i64 p, .int .i64 q], .slice (some ⟨w'.heap.size, 0, none⟩) xs.length xs.length] (w'.alloc (.cells C 9)) fun e w'' => e = .returned (.tuple #[]) ∧ Wr T w' b F1 (R ++ metsR D (l.take j) ++ blkR D (cat xs) m) D w'') := Lib.hid (fun w' xs C ht hC h1 h2 =>
        block_new T b F1 _ D B _ m xs C hC w' (hS1.turn' (tA.trans' ht)) (Foot.above hF1 HF.out HE.out.lt) ((HE.out.turn hT1 HF.out).turn (tA.trans' ht) (by simp)) hfm (hRd0.turn (tA.trans' ht) (by simp)) h1 h2 (by rw [List.length_append]; omega))
      have HPu : Hid (∀ w' (xs : List ByteArray) (C : Array Value), Turn [] W w' → C = (xs.map Value.string).toArray → xs.length ≤ 1000 → (cat xs).size ≤ 1000000000 → Calls Tryz.prog 56 #[.pointer (some ⟨b, 0, none⟩), .slice (some ⟨w'.heap.size, 0, none⟩) xs.length xs.length] (w'.alloc (.cells C 9)) fun e w'' => e = .returned (.tuple #[]) ∧ Wr T w' b F1 (R ++ metsR D (l.take j) ++ [(D, cat xs)]) D w'') := Lib.hid (fun w' xs C ht hC h1 h2 =>
        put_new2 T b F1 _ D xs C hC w' (hS1.turn' (tA.trans' ht)) h1 h2 (by rw [List.length_append]; omega))
      have HMR : Hid (metR D m = if m.bare = true then [(D, cat [hdT m, ⟨#[59]⟩])] else if m.stat = true then blkR D (cat [⟨#[115, 116, 97, 116, 105, 99, 32]⟩, hdT m, openT]) m else blkR D (cat [hdT m, openT]) m) := Lib.hid rfl
      obtain ⟨PT, hPT⟩ : ∃ q, parT m.ps = q := ⟨_, rfl⟩
      obtain ⟨H, hH⟩ : ∃ q, hdT m = q := ⟨_, rfl⟩
      have HH : Hid (⟨#[109, 101, 116, 104, 111, 100, 32]⟩ ++ m.ret ++ ⟨#[32]⟩ ++ m.name ++ ⟨#[40]⟩ ++ PT ++ ⟨#[41]⟩ = H) := Lib.hid (by rw [← hH, ← hPT]; rfl)
      rw [hPT] at HPa hpt
      rw [hH] at HMR hhd
      have hr1 := hfm.1
      have hn1 := hfm.2.1
      have HFm := Lib.hid hfm
      have HT1 := Lib.hid (And.intro hF1 hT1)
      have HTA := Lib.hid tA
      have HWW := Lib.hid hW
      have hbl := hS1.lt.1
      obtain ⟨mr, hmr⟩ : ∃ q, m.ret = q := ⟨_, rfl⟩
      obtain ⟨mn, hmn⟩ : ∃ q, m.name = q := ⟨_, rfl⟩
      obtain ⟨ms, hms⟩ : ∃ q, m.stat = q := ⟨_, rfl⟩
      obtain ⟨mb, hmb⟩ : ∃ q, m.bare = q := ⟨_, rfl⟩
      obtain ⟨np, hnp⟩ : ∃ q, m.ps.length = q := ⟨_, rfl⟩
      obtain ⟨nl, hnl⟩ : ∃ q, m.ls.length = q := ⟨_, rfl⟩
      obtain ⟨nb, hnb⟩ : ∃ q, m.bd.length = q := ⟨_, rfl⟩
      rw [hmr] at e0 HG m0 HB HH hr1 HWW
      rw [hmn] at e1 HG m1 HB HH hn1 HWW
      rw [hms] at e2 HG HB HMR HWW
      rw [hmb] at e3 HG HB HMR HWW
      rw [hnp] at e4 HG m4 HB HPa HWW
      rw [hnl] at e5 HG HB HWW
      rw [hnb] at e6 HG HB HWW
      have d1 := add_run ⟨#[109, 101, 116, 104, 111, 100, 32]⟩ mr (by simp only [sz_lit, List.size_toArray, List.length_cons, List.length_nil]; omega)
      have d2 := add_run (⟨#[109, 101, 116, 104, 111, 100, 32]⟩ ++ mr) ⟨#[32]⟩ (by simp only [size_app, sz_lit, List.size_toArray, List.length_cons, List.length_nil]; omega)
      have d3 := add_run (⟨#[109, 101, 116, 104, 111, 100, 32]⟩ ++ mr ++ ⟨#[32]⟩) mn (by simp only [size_app, sz_lit, List.size_toArray, List.length_cons, List.length_nil]; omega)
      have d4 := add_run (⟨#[109, 101, 116, 104, 111, 100, 32]⟩ ++ mr ++ ⟨#[32]⟩ ++ mn) ⟨#[40]⟩ (by simp only [size_app, sz_lit, List.size_toArray, List.length_cons, List.length_nil]; omega)
      have d5 := add_run (⟨#[109, 101, 116, 104, 111, 100, 32]⟩ ++ mr ++ ⟨#[32]⟩ ++ mn ++ ⟨#[40]⟩) PT (by simp only [size_app, sz_lit, List.size_toArray, List.length_cons, List.length_nil]; omega)
      have d6 := add_run (⟨#[109, 101, 116, 104, 111, 100, 32]⟩ ++ mr ++ ⟨#[32]⟩ ++ mn ++ ⟨#[40]⟩ ++ PT) ⟨#[41]⟩ (by simp only [size_app, sz_lit, List.size_toArray, List.length_cons, List.length_nil]; omega)
      rw [HH.out] at d6
      clear hS1 hF1 hT1 tA hW hg' hm HW gs r1 r2 r3 hRd0 hcell hfm hPT hH hmr hmn hms hmb hnp hnl hnb
      go_upto_region 3 with fail
      rw [HWW.out]
      go_region_held3 (fun w' => w'.cell? ⟨wr.heap.size, 0, none⟩ = some (.string mr) ∧ w'.cell? ⟨wr.heap.size, 1, none⟩ = some (.string mn) ∧ w'.cell? ⟨wr.heap.size, 4, none⟩ = some (.slice A1 np c1))
        (first | exact ⟨m0, m1, m4⟩ | exact ⟨p0, p1, p4⟩ | go_keep)
        (first
          | (go_at_call 72; (with_reducible refine HPa.out.mono ?_); rintro e w2 ⟨rfl, t2⟩
             have ht2 : Turn [] W w2 := ((Turn.refl [] W).drew).trans' t2
             have p0 := HG.out w2 ht2 0 _ rfl
             have p1 := HG.out w2 ht2 1 _ rfl
             have p4 := HG.out w2 ht2 4 _ rfl
             have HT2 := Lib.hid ht2
             clear t2 ht2)
          | fail)
      have k2 := HG.out w2 HT2.out 2 _ rfl
      have k3 := HG.out w2 HT2.out 3 _ rfl
      have k5 := HG.out w2 HT2.out 5 _ rfl
      have k6 := HG.out w2 HT2.out 6 _ rfl
      have k7 := HG.out w2 HT2.out 7 _ rfl
      have k8 := HG.out w2 HT2.out 8 _ rfl
      clear e0 e1 e2 e3 e4 e5 e6 e7 e8 d1 d2 d3 d4 d5 d6 m0 m1 m4 HPa HG
      cases mb with
      | true =>
        have HC := Lib.hid (HPu.out w2 [H, ⟨#[59]⟩] #[.string H, .string ⟨#[59]⟩] HT2.out rfl (by simp) (by rw [size_cat]; simp [sz_lit, openT]; omega))
        go_wp2_with fail
        refine HC.out.mono ?_
        rintro e w3 ⟨rfl, hW3⟩
        have HW3 : Hid (Wr T w b F (R ++ metsR D (l.take (j + 1))) D w3) := Lib.hid (by
          rw [HX.out, HMR.out, if_pos trivial, ← List.append_assoc]
          exact Wr.trans HT1.out.1 HT1.out.2 (Wr.after (HTA.out.trans' HT2.out) hW3))
        clear hW3 HC
        go_wp2_with fail
        go_roundw
        case rel => exact ⟨j + 1, by omega, by go_num, HW3⟩
        case measure => simp [intOf]; omega
      | false =>
        cases ms with
        | true =>
          have HC := Lib.hid (HB.out w2 [⟨#[115, 116, 97, 116, 105, 99, 32]⟩, H, openT] #[.string ⟨#[115, 116, 97, 116, 105, 99, 32]⟩, .string H, .string ⟨#[32, 123]⟩] HT2.out rfl (by simp) (by rw [size_cat]; simp [sz_lit, openT]; omega))
          go_wp2_with fail
          refine HC.out.mono ?_
          rintro e w3 ⟨rfl, hW3⟩
          have HW3 : Hid (Wr T w b F (R ++ metsR D (l.take (j + 1))) D w3) := Lib.hid (by
            rw [HX.out, HMR.out, if_neg Bool.false_ne_true, if_pos trivial, ← List.append_assoc]
            exact Wr.trans HT1.out.1 HT1.out.2 (Wr.after (HTA.out.trans' HT2.out) hW3))
          clear hW3 HC
          go_wp2_with fail
          go_roundw
          case rel => exact ⟨j + 1, by omega, by go_num, HW3⟩
          case measure => simp [intOf]; omega
        | false =>
          have HC := Lib.hid (HB.out w2 [H, openT] #[.string H, .string ⟨#[32, 123]⟩] HT2.out rfl (by simp) (by rw [size_cat]; simp [sz_lit, openT]; omega))
          go_wp2_with fail
          refine HC.out.mono ?_
          rintro e w3 ⟨rfl, hW3⟩
          have HW3 : Hid (Wr T w b F (R ++ metsR D (l.take (j + 1))) D w3) := Lib.hid (by
            rw [HX.out, HMR.out, if_neg Bool.false_ne_true, if_neg Bool.false_ne_true, ← List.append_assoc]
            exact Wr.trans HT1.out.1 HT1.out.2 (Wr.after (HTA.out.trans' HT2.out) hW3))
          clear hW3 HC
          go_wp2_with fail
          go_roundw
          case rel => exact ⟨j + 1, by omega, by go_num, HW3⟩
          case measure => simp [intOf]; omega
    · go_wp2_with fail
      go_end0
      obtain rfl : j = n := by omega
      have := HW.out
      rw [List.take_of_length_le (by rw [HN.out]; exact Nat.le_refl _)] at this
      exact ⟨rfl, this⟩
end Go.Proofs.YtoekaehpcjhhaaaGreatDoor
