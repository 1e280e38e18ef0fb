import Derived.Test.YtoekaehpcjhhaaaGreatDoorRmt
import Derived.Test.YtoekaehpcjhhaaaGreatDoorPok

/- The reference's class. -/
set_option linter.unusedSimpArgs false
set_option linter.unusedVariables false
namespace Go.Proofs.YtoekaehpcjhhaaaGreatDoor
open Go.RowKit

set_option maxHeartbeats 16000000 in
set_option maxRecDepth 100000 in
theorem rclass_100 (B : Nat) (cs : List Value) (c : Cl) (w : World) (hr : RdC B w cs c) (hB : B ≤ w.heap.size) (hc : FtC c) (htg : TgC c) (hS : ∀ m ∈ c.ms, RSaidL m.bd) (hSI : ∀ m, c.init = some m → RSaidL m.bd) (hface : c.face = true) (hfac : c.faces.length = 0) :
    Calls Tryz.prog 11 #[.agg cs.toArray] w fun e w' => ∃ A' c', e = .returned (.slice A' (clsR 0 c).length c') ∧ Bld w w' (.slice A' (clsR 0 c).length c') ((clsR 0 c).map ln) := by
  obtain ⟨A3, c3, A4, c4, A5, c5, A6, c6, I, p, q, rfl, k3, r3, r3B, r4, r5, r6, r7⟩ := hr
  have tA := bx w #[.string c.name, .string c.super, .bool c.face, .slice A3 c.faces.length c3, .slice A4 c.fs.length c4, .slice A5 c.ss.length c5, .slice A6 c.ms.length c6, .pointer I, .int .i64 p, .int .i64 q] 43
  obtain ⟨W, hW⟩ : ∃ W, w.alloc (.cells #[.string c.name, .string c.super, .bool c.face, .slice A3 c.faces.length c3, .slice A4 c.fs.length c4, .slice A5 c.ss.length c5, .slice A6 c.ms.length c6, .pointer I, .int .i64 p, .int .i64 q] 43) = W := ⟨_, rfl⟩
  have hg : W.heap[w.heap.size]? = some (.cells #[.string c.name, .string c.super, .bool c.face, .slice A3 c.faces.length c3, .slice A4 c.fs.length c4, .slice A5 c.ss.length c5, .slice A6 c.ms.length c6, .pointer I, .int .i64 p, .int .i64 q] 43 (0, 0)) := by rw [← hW]; exact heap_alloc_new w _
  rw [hW] at tA
  have HR6 := Lib.hid (fun w' (ht : Turn [] W w') => (r6.turn tA (by simp)).turn ht (by simp))
  have HMe := Lib.hid (fun w' (ht : Turn [] W w') m (hm : m ∈ c.ms) cs (hrd : RdM B w' cs m) => rmethod_any B cs m w' hrd (Nat.le_trans hB (tA.trans' ht).size) (hc.ms.2 m hm) (hS m hm))
  have HMl := Lib.hid (fun m (hm : m ∈ c.ms) => metR_len 0 (hc.ms.2 m hm))
  have HMs := Lib.hid (fun j => metsR_take_le 0 hc.ms j)
  have hcn := hc.name
  have hcu := hc.super
  have HLb : Hid ((metsR 0 c.ms).length ≤ 10300000) := Lib.hid (by have := metsR_len 0 hc.ms; omega)
  have HFu : Hid (∀ A c1 W', Sts W' A ((metsR 0 c.ms).map ln) → Calls Tryz.prog 22 #[.slice A ((metsR 0 c.ms).map ln).length c1] W' fun e w' => ∃ A' c', e = .returned (.slice A' ((metsR 0 c.ms).map ln).length c') ∧ Bld W' w' (.slice A' ((metsR 0 c.ms).map ln).length c') ((metsR 1 c.ms).map ln)) := Lib.hid (fun A c1 W' hst => by
    have hok := (metsR_facts 0 (by omega) hc.ms htg.ms).1
    have := further_any A c1 ((metsR 0 c.ms).map ln) W' hst (by rw [List.length_map]; have := HLb.out; omega) (by
      intro x hx
      obtain ⟨r, hr', rfl⟩ := List.mem_map.1 hx
      have := hok r hr'
      obtain ⟨k, t⟩ := r
      rw [ln_size2]
      simp only at this
      omega)
    rw [fur_map, metsR_deep] at this
    exact this)
  obtain ⟨nf, hnf⟩ : ∃ q, c.faces.length = q := ⟨_, rfl⟩
  obtain ⟨n4, hn4⟩ : ∃ q, c.fs.length = q := ⟨_, rfl⟩
  obtain ⟨n5, hn5⟩ : ∃ q, c.ss.length = q := ⟨_, rfl⟩
  obtain ⟨n6, hn6⟩ : ∃ q, c.ms.length = q := ⟨_, rfl⟩
  have HN4 := Lib.hid hn4
  have HN5 := Lib.hid hn5
  have HN6 := Lib.hid hn6
  have hn48 : n4 ≤ 8 := by rw [← hn4]; exact hc.fs.1
  have hn58 : n5 ≤ 8 := by rw [← hn5]; exact hc.ss.1
  have hn65 : n6 ≤ 5 := by rw [← hn6]; exact hc.ms.1
  have HHd : Hid (⟨#[105, 110, 116, 101, 114, 102, 97, 99, 101, 32]⟩ ++ c.name ++ ⟨#[32, 123]⟩ = facT c) := Lib.hid (by unfold facT aboT; rw [if_pos hfac]; apply bs_inj; simp [bs_cat, bs_append, bs_lit, sp, extK, openT])
  have HSh : Hid ([facT c] ++ (metsR 1 c.ms).map ln ++ [⟨#[125]⟩] = (clsR 0 c).map ln) := Lib.hid (by
    unfold clsR
    rw [if_pos hface, List.map_append, List.map_append, List.map_cons, List.map_nil, List.map_cons, List.map_nil, ln_zero, ln_zero, shutT_eq])
  obtain ⟨cn, hcn'⟩ : ∃ q, c.name = q := ⟨_, rfl⟩
  obtain ⟨cu, hcu'⟩ : ∃ q, c.super = q := ⟨_, rfl⟩
  rw [hcn', hcu', hface, hnf, hn4, hn5, hn6] at hg hW ⊢
  rw [hnf] at hfac
  rw [hcn'] at hcn HHd
  rw [hcu'] at hcu
  have hce : ∀ w', Turn [] W w' → w'.cell? ⟨w.heap.size, 0, none⟩ = some (.string cn) ∧ w'.cell? ⟨w.heap.size, 1, none⟩ = some (.string cu) ∧ w'.cell? ⟨w.heap.size, 2, none⟩ = some (.bool true) ∧ w'.cell? ⟨w.heap.size, 3, none⟩ = some (.slice A3 nf c3) ∧ w'.cell? ⟨w.heap.size, 4, none⟩ = some (.slice A4 n4 c4) ∧ w'.cell? ⟨w.heap.size, 5, none⟩ = some (.slice A5 n5 c5) ∧ w'.cell? ⟨w.heap.size, 6, none⟩ = some (.slice A6 n6 c6) ∧ w'.cell? ⟨w.heap.size, 7, none⟩ = some (.pointer I) ∧ w'.cell? ⟨w.heap.size, 8, none⟩ = some (.int .i64 p) ∧ w'.cell? ⟨w.heap.size, 9, none⟩ = some (.int .i64 q) := fun w' ht => by
    have h1 : ∀ (i : Nat) (v : Value), (#[.string cn, .string cu, .bool true, .slice A3 nf c3, .slice A4 n4 c4, .slice A5 n5 c5, .slice A6 n6 c6, .pointer I, .int .i64 p, .int .i64 q] : Array Value)[i]? = some v → w'.cell? ⟨w.heap.size, i, none⟩ = some v := fun i v hv => (cell_of_row w' _ i _ _ _ (ht.heap hg (by simp))).trans hv
    exact ⟨h1 0 _ rfl, h1 1 _ rfl, h1 2 _ rfl, h1 3 _ rfl, h1 4 _ rfl, h1 5 _ rfl, h1 6 _ rfl, h1 7 _ rfl, h1 8 _ rfl, h1 9 _ rfl⟩
  have HCe := Lib.hid hce
  have HT := Lib.hid tA
  have HW := Lib.hid hW
  have d1 := add_run (⟨#[99, 108, 97, 115, 115, 32]⟩) cn (by simp only [size_app, sz_lit, List.size_toArray, List.length_cons, List.length_nil]; omega)
  have d2 := add_run (⟨#[105, 110, 116, 101, 114, 102, 97, 99, 101, 32]⟩) cn (by simp only [size_app, sz_lit, List.size_toArray, List.length_cons, List.length_nil]; omega)
  obtain ⟨H, hH⟩ : ∃ q, ⟨#[105, 110, 116, 101, 114, 102, 97, 99, 101, 32]⟩ ++ cn = q := ⟨_, rfl⟩
  rw [hH] at HHd
  rw [hH] at d2
  have hHs : H.size ≤ 40000000 := by rw [← hH]; simp only [size_app, sz_lit, List.size_toArray, List.length_cons, List.length_nil]; omega
  have dz := add_run H ⟨#[32, 123]⟩ (by simp only [sz_lit, List.size_toArray, List.length_cons, List.length_nil]; omega)
  rw [HHd.out] at dz
  subst hfac
  obtain ⟨m0, m1, m2, m3, m4, m5, m6, m7, m8, m9⟩ := hce W (Turn.refl _ _)
  clear r3 r3B r4 r5 r6 r7 tA hW hg hB hc htg hS hSI hce hH hcn hcu hcn' hcu' hn4 hn5 hn6 hface
  go_enter Tryz.func11, Tryz.ntmps11
  go_wp2_with fail
  rw [HW.out]
  go_loopw [5, 8] (fun v i wr => ∃ j : Nat, j ≤ n6 ∧ i = .int .i64 (j : Int) ∧ Hid (Bld W wr v ((metsR 0 (c.ms.take j)).map ln))) (fun _ i _ => n6 - (intOf i).toNat)
  case atStart => exact ⟨0, Nat.zero_le _, rfl, Lib.hid (by simpa [metsR] using Bld.nil W)⟩
  case round =>
    obtain ⟨j, hj, rfl, HB⟩ := hrel
    obtain ⟨k0, k1, k2, k3, k4, k5, k6, k7, k8, k9⟩ := HCe.out wr HB.out.2.2
    by_cases hlt : j < n6
    · obtain ⟨m, hm⟩ := at_lt (l := c.ms) (k := j) (by rw [HN6.out]; exact hlt)
      obtain ⟨g, off, cs, hA6, ⟨_, hgB, hgl, hcell⟩, hRd⟩ := HR6.out wr HB.out.2.2 j m hm
      subst hA6
      have HC := Lib.hid (HMe.out wr HB.out.2.2 m (List.mem_of_getElem? hm) cs hRd)
      have HX : Hid ((metsR 0 (c.ms.take (j + 1))).map ln = (metsR 0 (c.ms.take j)).map ln ++ (metR 0 m).map ln) := Lib.hid (by rw [metsR_take hm, ← List.map_append])
      have hl0 := HMs.out j
      have hl1 := HMl.out m (List.mem_of_getElem? hm)
      obtain ⟨A1', c1', A2', c2', A3', c3', p', q', rfl, _, _, _⟩ := hRd
      simp only at hcell hgl
      have e0 : wr.cell? ⟨g, off + j * 9, none⟩ = some (.string m.ret) := hcell 0 _ rfl
      have e1 := hcell 1 _ rfl
      have e2 := hcell 2 _ rfl
      have e3 := hcell 3 _ rfl
      have e4 := hcell 4 _ rfl
      have e5 := hcell 5 _ rfl
      have e6 := hcell 6 _ rfl
      have e7 := hcell 7 _ rfl
      have e8 := hcell 8 _ rfl
      obtain ⟨nr, hnr⟩ : ∃ z, (metR 0 m).length = z := ⟨_, rfl⟩
      rw [hnr] at HC hl1
      have HNR := Lib.hid hnr
      have HLm : Hid (((metR 0 m).map ln).length = nr) := Lib.hid (by rw [List.length_map]; exact hnr)
      have HL0 : Hid (((metsR 0 (c.ms.take j)).map ln).length ≤ 20000000) := Lib.hid (by rw [List.length_map]; omega)
      clear hcell hm hnr
      go_wp2_with fail
      refine HC.out.mono ?_
      rintro e w7 ⟨A7, c7, rfl, hb7⟩
      have HB7 := Lib.hid hb7
      clear hb7 e0 e1 e2 e3 e4 e5 e6 e7 e8 HC
      go_wp2_with (first
        | (at_builtin; refine wpList_bld rfl (.tmp 108) (.tmp 114) rfl W w7 u5 ((metsR 0 (c.ms.take j)).map ln) ((metR 0 m).map ln) A7 nr c7 rfl rfl (HB.out.turn' HB7.out.2.2) (OwnS.sts HB7.out.1).2.2 (by rw [List.length_map]; exact HNR.out.symm) (by rw [HLm.out]; have := HL0.out; omega) ?_
           intro v8 w8 hb8
           have HB8 := Lib.hid hb8
           clear hb8)
        | fail)
      go_roundw
      case rel => exact ⟨j + 1, by omega, by go_num, Lib.hid (by rw [HX.out]; exact HB8.out)⟩
      case measure => simp [intOf]; omega
    · have hjn : j = n6 := by omega
      subst hjn
      have hb : Bld W wr u5 ((metsR 0 c.ms).map ln) := by
        have := HB.out
        rw [List.take_of_length_le (l := c.ms) (by rw [HN6.out]; exact Nat.le_refl _)] at this
        exact this
      obtain ⟨A8, n8, c8, rfl⟩ := hb.form
      have hn8e := (OwnS.sts hb.1).1
      have HN8 := Lib.hid hn8e
      have tB := bx wr #[.string (facT c)] 9
      have HC := Lib.hid (HFu.out A8 c8 _ ((OwnS.sts hb.1).2.2.turn' tB))
      rw [← hn8e] at HC
      have hn8l : n8 ≤ 10300000 := by rw [HN8.out, List.length_map]; exact HLb.out
      have HTW := Lib.hid hb.2.2
      clear hb hn8e tB HB
      go_wp2_with fail
      refine HC.out.mono ?_
      rintro e w9 ⟨A9, c9, rfl, hb9⟩
      have HI1 : Hid (((metsR 1 c.ms).map ln).length = n8) := Lib.hid (by have := (OwnS.sts hb9.1).1; exact this.symm)
      have HSt9 := Lib.hid (OwnS.sts hb9.1).2.2
      have HOne : Hid (Bld wr w9 (.slice (some ⟨wr.heap.size, 0, none⟩) 1 1) [facT c]) := Lib.hid ((Bld.one wr _).turn' hb9.2.2)
      clear hb9 HC
      go_wp2_with (first
        | (at_builtin; refine wpList_bld rfl (.tmp 118) (.tmp 120) rfl wr w9 (.slice (some ⟨wr.heap.size, 0, none⟩) 1 1) [facT c] ((metsR 1 c.ms).map ln) A9 n8 c9 rfl rfl HOne.out HSt9.out HI1.out.symm (by rw [HI1.out]; simp; omega) ?_
           intro v10 w10 hb10
           obtain ⟨A10, n10, c10, rfl⟩ := hb10.form
           have HB10 := Lib.hid hb10
           clear hb10)
        | (at_builtin; refine wpList_bld rfl (.tmp 121) (.tmp 122) rfl wr _ (.slice A10 n10 c10) ([facT c] ++ (metsR 1 c.ms).map ln) [⟨#[125]⟩] (some ⟨w10.heap.size, 0, none⟩) 1 1 rfl rfl (HB10.out.turn' (bx w10 _ _)) (sts_new w10 _ _ rfl) rfl (by rw [List.length_append, HI1.out]; simp; omega) ?_
           intro v11 w11 hb11
           obtain ⟨A11, n11, c11, rfl⟩ := hb11.form
           have HB11 := Lib.hid hb11
           clear hb11)
        | fail)
      go_ret
      have hb := HB11.out
      rw [HSh.out] at hb
      have hn := (OwnS.sts hb.1).1
      rw [List.length_map] at hn
      subst hn
      exact ⟨A11, c11, rfl, hb.before (HT.out.trans' HTW.out)⟩
end Go.Proofs.YtoekaehpcjhhaaaGreatDoor

/- The reference's class. -/
set_option linter.unusedSimpArgs false
set_option linter.unusedVariables false
namespace Go.Proofs.YtoekaehpcjhhaaaGreatDoor
open Go.RowKit

set_option maxHeartbeats 16000000 in
set_option maxRecDepth 100000 in
theorem rclass_101 (B : Nat) (cs : List Value) (c : Cl) (w : World) (hr : RdC B w cs c) (hB : B ≤ w.heap.size) (hc : FtC c) (htg : TgC c) (hS : ∀ m ∈ c.ms, RSaidL m.bd) (hSI : ∀ m, c.init = some m → RSaidL m.bd) (hface : c.face = true) (hfac : ¬ c.faces.length = 0) :
    Calls Tryz.prog 11 #[.agg cs.toArray] w fun e w' => ∃ A' c', e = .returned (.slice A' (clsR 0 c).length c') ∧ Bld w w' (.slice A' (clsR 0 c).length c') ((clsR 0 c).map ln) := by
  obtain ⟨A3, c3, A4, c4, A5, c5, A6, c6, I, p, q, rfl, k3, r3, r3B, r4, r5, r6, r7⟩ := hr
  have tA := bx w #[.string c.name, .string c.super, .bool c.face, .slice A3 c.faces.length c3, .slice A4 c.fs.length c4, .slice A5 c.ss.length c5, .slice A6 c.ms.length c6, .pointer I, .int .i64 p, .int .i64 q] 43
  obtain ⟨W, hW⟩ : ∃ W, w.alloc (.cells #[.string c.name, .string c.super, .bool c.face, .slice A3 c.faces.length c3, .slice A4 c.fs.length c4, .slice A5 c.ss.length c5, .slice A6 c.ms.length c6, .pointer I, .int .i64 p, .int .i64 q] 43) = W := ⟨_, rfl⟩
  have hg : W.heap[w.heap.size]? = some (.cells #[.string c.name, .string c.super, .bool c.face, .slice A3 c.faces.length c3, .slice A4 c.fs.length c4, .slice A5 c.ss.length c5, .slice A6 c.ms.length c6, .pointer I, .int .i64 p, .int .i64 q] 43 (0, 0)) := by rw [← hW]; exact heap_alloc_new w _
  rw [hW] at tA
  have HR6 := Lib.hid (fun w' (ht : Turn [] W w') => (r6.turn tA (by simp)).turn ht (by simp))
  have HMe := Lib.hid (fun w' (ht : Turn [] W w') m (hm : m ∈ c.ms) cs (hrd : RdM B w' cs m) => rmethod_any B cs m w' hrd (Nat.le_trans hB (tA.trans' ht).size) (hc.ms.2 m hm) (hS m hm))
  have HMl := Lib.hid (fun m (hm : m ∈ c.ms) => metR_len 0 (hc.ms.2 m hm))
  have HMs := Lib.hid (fun j => metsR_take_le 0 hc.ms j)
  have hj := faces_size hc.faces
  have HJ := Lib.hid (rjoin_any A3 c3 c.faces ⟨#[44, 32]⟩ W (r3.turn' tA) (by have := hc.faces.1; omega) (by omega))
  obtain ⟨J, hJ⟩ : ∃ q, jn c.faces ⟨#[44, 32]⟩ = q := ⟨_, rfl⟩
  rw [hJ] at HJ hj
  have hcn := hc.name
  have hcu := hc.super
  have HLb : Hid ((metsR 0 c.ms).length ≤ 10300000) := Lib.hid (by have := metsR_len 0 hc.ms; omega)
  have HFu : Hid (∀ A c1 W', Sts W' A ((metsR 0 c.ms).map ln) → Calls Tryz.prog 22 #[.slice A ((metsR 0 c.ms).map ln).length c1] W' fun e w' => ∃ A' c', e = .returned (.slice A' ((metsR 0 c.ms).map ln).length c') ∧ Bld W' w' (.slice A' ((metsR 0 c.ms).map ln).length c') ((metsR 1 c.ms).map ln)) := Lib.hid (fun A c1 W' hst => by
    have hok := (metsR_facts 0 (by omega) hc.ms htg.ms).1
    have := further_any A c1 ((metsR 0 c.ms).map ln) W' hst (by rw [List.length_map]; have := HLb.out; omega) (by
      intro x hx
      obtain ⟨r, hr', rfl⟩ := List.mem_map.1 hx
      have := hok r hr'
      obtain ⟨k, t⟩ := r
      rw [ln_size2]
      simp only at this
      omega)
    rw [fur_map, metsR_deep] at this
    exact this)
  obtain ⟨nf, hnf⟩ : ∃ q, c.faces.length = q := ⟨_, rfl⟩
  obtain ⟨n4, hn4⟩ : ∃ q, c.fs.length = q := ⟨_, rfl⟩
  obtain ⟨n5, hn5⟩ : ∃ q, c.ss.length = q := ⟨_, rfl⟩
  obtain ⟨n6, hn6⟩ : ∃ q, c.ms.length = q := ⟨_, rfl⟩
  have HN4 := Lib.hid hn4
  have HN5 := Lib.hid hn5
  have HN6 := Lib.hid hn6
  have hn48 : n4 ≤ 8 := by rw [← hn4]; exact hc.fs.1
  have hn58 : n5 ≤ 8 := by rw [← hn5]; exact hc.ss.1
  have hn65 : n6 ≤ 5 := by rw [← hn6]; exact hc.ms.1
  have HHd : Hid (⟨#[105, 110, 116, 101, 114, 102, 97, 99, 101, 32]⟩ ++ c.name ++ ⟨#[32, 101, 120, 116, 101, 110, 100, 115, 32]⟩ ++ J ++ ⟨#[32, 123]⟩ = facT c) := Lib.hid (by unfold facT aboT; rw [if_neg hfac, hJ]; apply bs_inj; simp [bs_cat, bs_append, bs_lit, sp, extK, openT])
  have HSh : Hid ([facT c] ++ (metsR 1 c.ms).map ln ++ [⟨#[125]⟩] = (clsR 0 c).map ln) := Lib.hid (by
    unfold clsR
    rw [if_pos hface, List.map_append, List.map_append, List.map_cons, List.map_nil, List.map_cons, List.map_nil, ln_zero, ln_zero, shutT_eq])
  obtain ⟨cn, hcn'⟩ : ∃ q, c.name = q := ⟨_, rfl⟩
  obtain ⟨cu, hcu'⟩ : ∃ q, c.super = q := ⟨_, rfl⟩
  rw [hcn', hcu', hface, hnf, hn4, hn5, hn6] at hg hW ⊢
  rw [hnf] at HJ hfac
  rw [hcn'] at hcn HHd
  rw [hcu'] at hcu
  have hce : ∀ w', Turn [] W w' → w'.cell? ⟨w.heap.size, 0, none⟩ = some (.string cn) ∧ w'.cell? ⟨w.heap.size, 1, none⟩ = some (.string cu) ∧ w'.cell? ⟨w.heap.size, 2, none⟩ = some (.bool true) ∧ w'.cell? ⟨w.heap.size, 3, none⟩ = some (.slice A3 nf c3) ∧ w'.cell? ⟨w.heap.size, 4, none⟩ = some (.slice A4 n4 c4) ∧ w'.cell? ⟨w.heap.size, 5, none⟩ = some (.slice A5 n5 c5) ∧ w'.cell? ⟨w.heap.size, 6, none⟩ = some (.slice A6 n6 c6) ∧ w'.cell? ⟨w.heap.size, 7, none⟩ = some (.pointer I) ∧ w'.cell? ⟨w.heap.size, 8, none⟩ = some (.int .i64 p) ∧ w'.cell? ⟨w.heap.size, 9, none⟩ = some (.int .i64 q) := fun w' ht => by
    have h1 : ∀ (i : Nat) (v : Value), (#[.string cn, .string cu, .bool true, .slice A3 nf c3, .slice A4 n4 c4, .slice A5 n5 c5, .slice A6 n6 c6, .pointer I, .int .i64 p, .int .i64 q] : Array Value)[i]? = some v → w'.cell? ⟨w.heap.size, i, none⟩ = some v := fun i v hv => (cell_of_row w' _ i _ _ _ (ht.heap hg (by simp))).trans hv
    exact ⟨h1 0 _ rfl, h1 1 _ rfl, h1 2 _ rfl, h1 3 _ rfl, h1 4 _ rfl, h1 5 _ rfl, h1 6 _ rfl, h1 7 _ rfl, h1 8 _ rfl, h1 9 _ rfl⟩
  have HCe := Lib.hid hce
  have HT := Lib.hid tA
  have HW := Lib.hid hW
  have d1 := add_run (⟨#[99, 108, 97, 115, 115, 32]⟩) cn (by simp only [size_app, sz_lit, List.size_toArray, List.length_cons, List.length_nil]; omega)
  have d2 := add_run (⟨#[105, 110, 116, 101, 114, 102, 97, 99, 101, 32]⟩) cn (by simp only [size_app, sz_lit, List.size_toArray, List.length_cons, List.length_nil]; omega)
  have d5 := add_run (⟨#[105, 110, 116, 101, 114, 102, 97, 99, 101, 32]⟩ ++ cn) ⟨#[32, 101, 120, 116, 101, 110, 100, 115, 32]⟩ (by simp only [size_app, sz_lit, List.size_toArray, List.length_cons, List.length_nil]; omega)
  have d6 := add_run (⟨#[105, 110, 116, 101, 114, 102, 97, 99, 101, 32]⟩ ++ cn ++ ⟨#[32, 101, 120, 116, 101, 110, 100, 115, 32]⟩) J (by simp only [size_app, sz_lit, List.size_toArray, List.length_cons, List.length_nil]; omega)
  obtain ⟨H, hH⟩ : ∃ q, ⟨#[105, 110, 116, 101, 114, 102, 97, 99, 101, 32]⟩ ++ cn ++ ⟨#[32, 101, 120, 116, 101, 110, 100, 115, 32]⟩ ++ J = q := ⟨_, rfl⟩
  rw [hH] at HHd
  rw [hH] at d6
  have hHs : H.size ≤ 40000000 := by rw [← hH]; simp only [size_app, sz_lit, List.size_toArray, List.length_cons, List.length_nil]; omega
  have dz := add_run H ⟨#[32, 123]⟩ (by simp only [sz_lit, List.size_toArray, List.length_cons, List.length_nil]; omega)
  rw [HHd.out] at dz
  have hfI : (0 : Int) < (nf : Int) := by omega
  have hfN : 0 < nf := by omega
  obtain ⟨m0, m1, m2, m3, m4, m5, m6, m7, m8, m9⟩ := hce W (Turn.refl _ _)
  clear r3 r3B r4 r5 r6 r7 tA hW hg hB hc htg hS hSI hce hH hcn hcu hcn' hcu' hn4 hn5 hn6 hface hJ hj
  go_enter Tryz.func11, Tryz.ntmps11
  go_wp2_with fail
  rw [HW.out]
  refine HJ.out.mono ?_
  rintro e w2 ⟨rfl, rfl⟩
  go_wp2_with fail
  go_loopw [5, 8] (fun v i wr => ∃ j : Nat, j ≤ n6 ∧ i = .int .i64 (j : Int) ∧ Hid (Bld W wr v ((metsR 0 (c.ms.take j)).map ln))) (fun _ i _ => n6 - (intOf i).toNat)
  case atStart => exact ⟨0, Nat.zero_le _, rfl, Lib.hid (by simpa [metsR] using Bld.nil W)⟩
  case round =>
    obtain ⟨j, hj, rfl, HB⟩ := hrel
    obtain ⟨k0, k1, k2, k3, k4, k5, k6, k7, k8, k9⟩ := HCe.out wr HB.out.2.2
    by_cases hlt : j < n6
    · obtain ⟨m, hm⟩ := at_lt (l := c.ms) (k := j) (by rw [HN6.out]; exact hlt)
      obtain ⟨g, off, cs, hA6, ⟨_, hgB, hgl, hcell⟩, hRd⟩ := HR6.out wr HB.out.2.2 j m hm
      subst hA6
      have HC := Lib.hid (HMe.out wr HB.out.2.2 m (List.mem_of_getElem? hm) cs hRd)
      have HX : Hid ((metsR 0 (c.ms.take (j + 1))).map ln = (metsR 0 (c.ms.take j)).map ln ++ (metR 0 m).map ln) := Lib.hid (by rw [metsR_take hm, ← List.map_append])
      have hl0 := HMs.out j
      have hl1 := HMl.out m (List.mem_of_getElem? hm)
      obtain ⟨A1', c1', A2', c2', A3', c3', p', q', rfl, _, _, _⟩ := hRd
      simp only at hcell hgl
      have e0 : wr.cell? ⟨g, off + j * 9, none⟩ = some (.string m.ret) := hcell 0 _ rfl
      have e1 := hcell 1 _ rfl
      have e2 := hcell 2 _ rfl
      have e3 := hcell 3 _ rfl
      have e4 := hcell 4 _ rfl
      have e5 := hcell 5 _ rfl
      have e6 := hcell 6 _ rfl
      have e7 := hcell 7 _ rfl
      have e8 := hcell 8 _ rfl
      obtain ⟨nr, hnr⟩ : ∃ z, (metR 0 m).length = z := ⟨_, rfl⟩
      rw [hnr] at HC hl1
      have HNR := Lib.hid hnr
      have HLm : Hid (((metR 0 m).map ln).length = nr) := Lib.hid (by rw [List.length_map]; exact hnr)
      have HL0 : Hid (((metsR 0 (c.ms.take j)).map ln).length ≤ 20000000) := Lib.hid (by rw [List.length_map]; omega)
      clear hcell hm hnr
      go_wp2_with fail
      refine HC.out.mono ?_
      rintro e w7 ⟨A7, c7, rfl, hb7⟩
      have HB7 := Lib.hid hb7
      clear hb7 e0 e1 e2 e3 e4 e5 e6 e7 e8 HC
      go_wp2_with (first
        | (at_builtin; refine wpList_bld rfl (.tmp 108) (.tmp 114) rfl W w7 u5 ((metsR 0 (c.ms.take j)).map ln) ((metR 0 m).map ln) A7 nr c7 rfl rfl (HB.out.turn' HB7.out.2.2) (OwnS.sts HB7.out.1).2.2 (by rw [List.length_map]; exact HNR.out.symm) (by rw [HLm.out]; have := HL0.out; omega) ?_
           intro v8 w8 hb8
           have HB8 := Lib.hid hb8
           clear hb8)
        | fail)
      go_roundw
      case rel => exact ⟨j + 1, by omega, by go_num, Lib.hid (by rw [HX.out]; exact HB8.out)⟩
      case measure => simp [intOf]; omega
    · have hjn : j = n6 := by omega
      subst hjn
      have hb : Bld W wr u5 ((metsR 0 c.ms).map ln) := by
        have := HB.out
        rw [List.take_of_length_le (l := c.ms) (by rw [HN6.out]; exact Nat.le_refl _)] at this
        exact this
      obtain ⟨A8, n8, c8, rfl⟩ := hb.form
      have hn8e := (OwnS.sts hb.1).1
      have HN8 := Lib.hid hn8e
      have tB := bx wr #[.string (facT c)] 9
      have HC := Lib.hid (HFu.out A8 c8 _ ((OwnS.sts hb.1).2.2.turn' tB))
      rw [← hn8e] at HC
      have hn8l : n8 ≤ 10300000 := by rw [HN8.out, List.length_map]; exact HLb.out
      have HTW := Lib.hid hb.2.2
      clear hb hn8e tB HB
      go_wp2_with fail
      refine HC.out.mono ?_
      rintro e w9 ⟨A9, c9, rfl, hb9⟩
      have HI1 : Hid (((metsR 1 c.ms).map ln).length = n8) := Lib.hid (by have := (OwnS.sts hb9.1).1; exact this.symm)
      have HSt9 := Lib.hid (OwnS.sts hb9.1).2.2
      have HOne : Hid (Bld wr w9 (.slice (some ⟨wr.heap.size, 0, none⟩) 1 1) [facT c]) := Lib.hid ((Bld.one wr _).turn' hb9.2.2)
      clear hb9 HC
      go_wp2_with (first
        | (at_builtin; refine wpList_bld rfl (.tmp 118) (.tmp 120) rfl wr w9 (.slice (some ⟨wr.heap.size, 0, none⟩) 1 1) [facT c] ((metsR 1 c.ms).map ln) A9 n8 c9 rfl rfl HOne.out HSt9.out HI1.out.symm (by rw [HI1.out]; simp; omega) ?_
           intro v10 w10 hb10
           obtain ⟨A10, n10, c10, rfl⟩ := hb10.form
           have HB10 := Lib.hid hb10
           clear hb10)
        | (at_builtin; refine wpList_bld rfl (.tmp 121) (.tmp 122) rfl wr _ (.slice A10 n10 c10) ([facT c] ++ (metsR 1 c.ms).map ln) [⟨#[125]⟩] (some ⟨w10.heap.size, 0, none⟩) 1 1 rfl rfl (HB10.out.turn' (bx w10 _ _)) (sts_new w10 _ _ rfl) rfl (by rw [List.length_append, HI1.out]; simp; omega) ?_
           intro v11 w11 hb11
           obtain ⟨A11, n11, c11, rfl⟩ := hb11.form
           have HB11 := Lib.hid hb11
           clear hb11)
        | fail)
      go_ret
      have hb := HB11.out
      rw [HSh.out] at hb
      have hn := (OwnS.sts hb.1).1
      rw [List.length_map] at hn
      subst hn
      exact ⟨A11, c11, rfl, hb.before (HT.out.trans' HTW.out)⟩
end Go.Proofs.YtoekaehpcjhhaaaGreatDoor

/- The reference's class. -/
set_option linter.unusedSimpArgs false
set_option linter.unusedVariables false
namespace Go.Proofs.YtoekaehpcjhhaaaGreatDoor
open Go.RowKit

set_option maxHeartbeats 16000000 in
set_option maxRecDepth 100000 in
theorem rclass_000 (B : Nat) (cs : List Value) (c : Cl) (w : World) (hr : RdC B w cs c) (hB : B ≤ w.heap.size) (hc : FtC c) (htg : TgC c) (hS : ∀ m ∈ c.ms, RSaidL m.bd) (hSI : ∀ m, c.init = some m → RSaidL m.bd) (hface : c.face = false) (hsup : c.super.size = 0) (hfac : c.faces.length = 0) :
    Calls Tryz.prog 11 #[.agg cs.toArray] w fun e w' => ∃ A' c', e = .returned (.slice A' (clsR 0 c).length c') ∧ Bld w w' (.slice A' (clsR 0 c).length c') ((clsR 0 c).map ln) := by
  obtain ⟨A3, c3, A4, c4, A5, c5, A6, c6, I, p, q, rfl, k3, r3, r3B, r4, r5, r6, r7⟩ := hr
  have tA := bx w #[.string c.name, .string c.super, .bool c.face, .slice A3 c.faces.length c3, .slice A4 c.fs.length c4, .slice A5 c.ss.length c5, .slice A6 c.ms.length c6, .pointer I, .int .i64 p, .int .i64 q] 43
  obtain ⟨W, hW⟩ : ∃ W, w.alloc (.cells #[.string c.name, .string c.super, .bool c.face, .slice A3 c.faces.length c3, .slice A4 c.fs.length c4, .slice A5 c.ss.length c5, .slice A6 c.ms.length c6, .pointer I, .int .i64 p, .int .i64 q] 43) = W := ⟨_, rfl⟩
  have hg : W.heap[w.heap.size]? = some (.cells #[.string c.name, .string c.super, .bool c.face, .slice A3 c.faces.length c3, .slice A4 c.fs.length c4, .slice A5 c.ss.length c5, .slice A6 c.ms.length c6, .pointer I, .int .i64 p, .int .i64 q] 43 (0, 0)) := by rw [← hW]; exact heap_alloc_new w _
  rw [hW] at tA
  have HR4 := Lib.hid (fun w' (ht : Turn [] W w') => (r4.turn tA (by simp)).turn ht (by simp))
  have HR5 := Lib.hid (fun w' (ht : Turn [] W w') => (r5.turn tA (by simp)).turn ht (by simp))
  have HRI := Lib.hid (fun w' (ht : Turn [] W w') => (r7.turn tA (by simp)).turn ht (by simp))
  have HBk := Lib.hid (fun w' (ht : Turn [] W w') m (hi : c.init = some m) cs (hrd : RdM B w' cs m) => rblock_any ⟨#[105, 110, 105, 116]⟩ B cs m w' hrd (Nat.le_trans hB (tA.trans' ht).size) (hc.init m hi) (hSI m hi) (by decide))
  have HV4 := Lib.hid hc.fs.2
  have HV5 := Lib.hid hc.ss.2
  have HR6 := Lib.hid (fun w' (ht : Turn [] W w') => (r6.turn tA (by simp)).turn ht (by simp))
  have HMe := Lib.hid (fun w' (ht : Turn [] W w') m (hm : m ∈ c.ms) cs (hrd : RdM B w' cs m) => rmethod_any B cs m w' hrd (Nat.le_trans hB (tA.trans' ht).size) (hc.ms.2 m hm) (hS m hm))
  have HMl := Lib.hid (fun m (hm : m ∈ c.ms) => metR_len 0 (hc.ms.2 m hm))
  have HMs := Lib.hid (fun j => metsR_take_le 0 hc.ms j)
  have HIL := Lib.hid (initR_len 0 hc.init)
  have hcn := hc.name
  have hcu := hc.super
  have HLb : Hid ((bodyR 0 c).length ≤ 10300000) := Lib.hid (by have := bodyR_len 0 hc; omega)
  have HFu : Hid (∀ A c1 W', Sts W' A ((bodyR 0 c).map ln) → Calls Tryz.prog 22 #[.slice A ((bodyR 0 c).map ln).length c1] W' fun e w' => ∃ A' c', e = .returned (.slice A' ((bodyR 0 c).map ln).length c') ∧ Bld W' w' (.slice A' ((bodyR 0 c).map ln).length c') ((bodyR 1 c).map ln)) := Lib.hid (fun A c1 W' hst => by
    have hok := (bodyR_facts 0 (by omega) hc htg).1
    have := further_any A c1 ((bodyR 0 c).map ln) W' hst (by rw [List.length_map]; have := HLb.out; omega) (by
      intro x hx
      obtain ⟨r, hr', rfl⟩ := List.mem_map.1 hx
      have := hok r hr'
      obtain ⟨k, t⟩ := r
      rw [ln_size2]
      simp only at this
      omega)
    rw [fur_map, bodyR_deep] at this
    exact this)
  obtain ⟨nf, hnf⟩ : ∃ q, c.faces.length = q := ⟨_, rfl⟩
  obtain ⟨n4, hn4⟩ : ∃ q, c.fs.length = q := ⟨_, rfl⟩
  obtain ⟨n5, hn5⟩ : ∃ q, c.ss.length = q := ⟨_, rfl⟩
  obtain ⟨n6, hn6⟩ : ∃ q, c.ms.length = q := ⟨_, rfl⟩
  have HN4 := Lib.hid hn4
  have HN5 := Lib.hid hn5
  have HN6 := Lib.hid hn6
  have hn48 : n4 ≤ 8 := by rw [← hn4]; exact hc.fs.1
  have hn58 : n5 ≤ 8 := by rw [← hn5]; exact hc.ss.1
  have hn65 : n6 ≤ 5 := by rw [← hn6]; exact hc.ms.1
  have HHd : Hid (⟨#[99, 108, 97, 115, 115, 32]⟩ ++ c.name ++ ⟨#[32, 123]⟩ = claT c) := Lib.hid (by unfold claT supT; rw [if_pos hsup]; unfold aboT; rw [if_pos hfac]; apply bs_inj; simp [bs_cat, bs_append, bs_lit, sp, extK, impK, openT])
  have HSh : Hid ([claT c] ++ (bodyR 1 c).map ln ++ [⟨#[125]⟩] = (clsR 0 c).map ln) := Lib.hid (by
    unfold clsR
    rw [if_neg (by rw [hface]; exact Bool.false_ne_true), List.map_append, List.map_append, List.map_cons, List.map_nil, List.map_cons, List.map_nil, ln_zero, ln_zero, shutT_eq])
  obtain ⟨cn, hcn'⟩ : ∃ q, c.name = q := ⟨_, rfl⟩
  obtain ⟨cu, hcu'⟩ : ∃ q, c.super = q := ⟨_, rfl⟩
  rw [hcn', hcu', hface, hnf, hn4, hn5, hn6] at hg hW ⊢
  rw [hnf] at hfac
  rw [hcn'] at hcn HHd
  rw [hcu'] at hcu
  rw [hcu'] at hsup
  have hce : ∀ w', Turn [] W w' → w'.cell? ⟨w.heap.size, 0, none⟩ = some (.string cn) ∧ w'.cell? ⟨w.heap.size, 1, none⟩ = some (.string cu) ∧ w'.cell? ⟨w.heap.size, 2, none⟩ = some (.bool false) ∧ w'.cell? ⟨w.heap.size, 3, none⟩ = some (.slice A3 nf c3) ∧ w'.cell? ⟨w.heap.size, 4, none⟩ = some (.slice A4 n4 c4) ∧ w'.cell? ⟨w.heap.size, 5, none⟩ = some (.slice A5 n5 c5) ∧ w'.cell? ⟨w.heap.size, 6, none⟩ = some (.slice A6 n6 c6) ∧ w'.cell? ⟨w.heap.size, 7, none⟩ = some (.pointer I) ∧ w'.cell? ⟨w.heap.size, 8, none⟩ = some (.int .i64 p) ∧ w'.cell? ⟨w.heap.size, 9, none⟩ = some (.int .i64 q) := fun w' ht => by
    have h1 : ∀ (i : Nat) (v : Value), (#[.string cn, .string cu, .bool false, .slice A3 nf c3, .slice A4 n4 c4, .slice A5 n5 c5, .slice A6 n6 c6, .pointer I, .int .i64 p, .int .i64 q] : Array Value)[i]? = some v → w'.cell? ⟨w.heap.size, i, none⟩ = some v := fun i v hv => (cell_of_row w' _ i _ _ _ (ht.heap hg (by simp))).trans hv
    exact ⟨h1 0 _ rfl, h1 1 _ rfl, h1 2 _ rfl, h1 3 _ rfl, h1 4 _ rfl, h1 5 _ rfl, h1 6 _ rfl, h1 7 _ rfl, h1 8 _ rfl, h1 9 _ rfl⟩
  have HCe := Lib.hid hce
  have HT := Lib.hid tA
  have HW := Lib.hid hW
  have d1 := add_run (⟨#[99, 108, 97, 115, 115, 32]⟩) cn (by simp only [size_app, sz_lit, List.size_toArray, List.length_cons, List.length_nil]; omega)
  obtain ⟨H, hH⟩ : ∃ q, ⟨#[99, 108, 97, 115, 115, 32]⟩ ++ cn = q := ⟨_, rfl⟩
  rw [hH] at HHd
  rw [hH] at d1
  have hHs : H.size ≤ 40000000 := by rw [← hH]; simp only [size_app, sz_lit, List.size_toArray, List.length_cons, List.length_nil]; omega
  have dz := add_run H ⟨#[32, 123]⟩ (by simp only [sz_lit, List.size_toArray, List.length_cons, List.length_nil]; omega)
  rw [HHd.out] at dz
  subst hfac
  obtain rfl := bytes_eq hsup
  obtain ⟨m0, m1, m2, m3, m4, m5, m6, m7, m8, m9⟩ := hce W (Turn.refl _ _)
  clear r3 r3B r4 r5 r6 r7 tA hW hg hB hc htg hS hSI hce hH hcn hcu hcn' hcu' hn4 hn5 hn6 hface
  go_enter Tryz.func11, Tryz.ntmps11
  go_wp2_with fail
  rw [HW.out]
  go_loopw [5, 6] (fun v i wr => ∃ j : Nat, j ≤ n4 ∧ i = .int .i64 (j : Int) ∧ Hid (Bld W wr v ((varR 0 fieldK (c.fs.take j)).map ln))) (fun _ i _ => n4 - (intOf i).toNat)
  case atStart => exact ⟨0, Nat.zero_le _, rfl, Lib.hid (by simpa [varR] using Bld.nil W)⟩
  case round =>
    obtain ⟨j, hj, rfl, HB⟩ := hrel
    obtain ⟨k0, k1, k2, k3, k4, k5, k6, k7, k8, k9⟩ := HCe.out wr HB.out.2.2
    by_cases hlt : j < n4
    · obtain ⟨v, hv⟩ := at_lt (l := c.fs) (k := j) (by rw [HN4.out]; exact hlt)
      obtain ⟨g, off, pp, qq, hA2, hgB, hgl, e0, e1, e2, e3⟩ := HR4.out wr HB.out.2.2 j v hv
      subst hA2
      have hvs := HV4.out v (List.mem_of_getElem? hv)
      have HX : Hid ((varR 0 fieldK (c.fs.take (j + 1))).map ln = (varR 0 fieldK (c.fs.take j)).map ln ++ [fieldK ++ sp ++ v.1 ++ sp ++ v.2 ++ ⟨#[59]⟩]) := Lib.hid (by rw [varL_take hv])
      have HE2 : Hid (∀ w', Turn [] W w' → w'.cell? ⟨g, off + j * 4, none⟩ = some (.string v.1) ∧ w'.cell? ⟨g, off + j * 4 + 1, none⟩ = some (.string v.2)) := Lib.hid (fun w' ht => by
        obtain ⟨g', off', _, _, e, _, _, a0, a1, _, _⟩ := HR4.out w' ht j v hv
        injection e with e
        injection e with e1 e2
        subst e1 e2
        exact ⟨a0, a1⟩)
      obtain ⟨t, x⟩ := v
      simp only at e0 e1 hvs
      have hlk : ((varR 0 fieldK (c.fs.take j)).map ln).length ≤ 100 := by rw [List.length_map]; rw [varR_len, List.length_take, HN4.out]; omega
      have HLK := Lib.hid hlk
      have b1 := add_run ⟨#[102, 105, 101, 108, 100, 32]⟩ t (by simp only [sz_lit, List.size_toArray, List.length_cons, List.length_nil]; omega)
      have b2 := add_run (⟨#[102, 105, 101, 108, 100, 32]⟩ ++ t) ⟨#[32]⟩ (by simp only [size_app, sz_lit, List.size_toArray, List.length_cons, List.length_nil]; omega)
      have b3 := add_run (⟨#[102, 105, 101, 108, 100, 32]⟩ ++ t ++ ⟨#[32]⟩) x (by simp only [size_app, sz_lit, List.size_toArray, List.length_cons, List.length_nil]; omega)
      have b4 := add_run (⟨#[102, 105, 101, 108, 100, 32]⟩ ++ t ++ ⟨#[32]⟩ ++ x) ⟨#[59]⟩ (by simp only [size_app, sz_lit, List.size_toArray, List.length_cons, List.length_nil]; omega)
      obtain ⟨X, hX⟩ : ∃ X, ⟨#[102, 105, 101, 108, 100, 32]⟩ ++ t ++ ⟨#[32]⟩ ++ x ++ ⟨#[59]⟩ = X := ⟨_, rfl⟩
      have HXX : Hid (fieldK ++ sp ++ t ++ sp ++ x ++ ⟨#[59]⟩ = X) := Lib.hid (by rw [← hX]; rfl)
      rw [hX] at b4
      clear hv hlk hvs hX e2 e3
      go_upto_region 13 with fail
      go_region_held3 (fun w' => w'.cell? ⟨w.heap.size, 4, none⟩ = some (.slice (some ⟨g, off, none⟩) n4 c4) ∧ w'.cell? ⟨g, off + j * 4, none⟩ = some (.string t) ∧ w'.cell? ⟨g, off + j * 4 + 1, none⟩ = some (.string x))
        (first | exact ⟨k4, e0, e1⟩ | exact ⟨q4, f0, f1⟩ | go_keep)
        (first
          | (refine step_bld rfl (.tmp 46) (.tmp 63) rfl W _ u5 ((varR 0 fieldK (c.fs.take j)).map ln) [X] (some ⟨wr.heap.size, 0, none⟩) 1 1 (by simp [Act.eval, Act.put]) (by simp [Act.eval, Act.put]) (HB.out.turn' (by first | exact bx wr _ _ | exact (bx wr _ _).drew)) (by first | exact sts_new wr _ _ rfl | exact (sts_new wr _ _ rfl).turn' ((Turn.refl [] _).drew)) rfl (by have := HLK.out; simp at this ⊢; omega) ?_
             intro v6 w6 hb6
             have HB6 := Lib.hid hb6
             obtain ⟨q0, q1, q2, q3, q4, q5, q6, q7, q8, q9⟩ := HCe.out w6 hb6.2.2
             obtain ⟨f0, f1⟩ := HE2.out w6 hb6.2.2
             clear hb6)
          | fail)
      go_wp2_with fail
      go_roundw
      case rel => exact ⟨j + 1, by omega, by go_num, Lib.hid (by rw [HX.out, HXX.out]; exact HB6.out)⟩
      case measure => simp [intOf]; omega
    · have hjn : j = n4 := by omega
      subst hjn
      have hb := HB.out
      rw [List.take_of_length_le (l := c.fs) (by rw [HN4.out]; exact Nat.le_refl _)] at hb
      have HB5 := Lib.hid hb
      clear hb HB
      obtain ⟨wa, hwa⟩ : ∃ q, q = wr := ⟨_, rfl⟩
      subst hwa
      go_wp2_with fail
      go_loopw [5, 7] (fun v i wr => ∃ j : Nat, j ≤ n5 ∧ i = .int .i64 (j : Int) ∧ Hid (Bld W wr v ((varR 0 fieldK c.fs ++ varR 0 staticK (c.ss.take j)).map ln))) (fun _ i _ => n5 - (intOf i).toNat)
      case atStart => exact ⟨0, Nat.zero_le _, rfl, Lib.hid (by simpa [varR] using HB5.out)⟩
      case round =>
        obtain ⟨j, hj, rfl, HB⟩ := hrel
        obtain ⟨k0, k1, k2, k3, k4, k5, k6, k7, k8, k9⟩ := HCe.out wr HB.out.2.2
        by_cases hlt : j < n5
        · obtain ⟨v, hv⟩ := at_lt (l := c.ss) (k := j) (by rw [HN5.out]; exact hlt)
          obtain ⟨g, off, pp, qq, hA2, hgB, hgl, e0, e1, e2, e3⟩ := HR5.out wr HB.out.2.2 j v hv
          subst hA2
          have hvs := HV5.out v (List.mem_of_getElem? hv)
          have HX : Hid ((varR 0 fieldK c.fs ++ varR 0 staticK (c.ss.take (j + 1))).map ln = (varR 0 fieldK c.fs ++ varR 0 staticK (c.ss.take j)).map ln ++ [staticK ++ sp ++ v.1 ++ sp ++ v.2 ++ ⟨#[59]⟩]) := Lib.hid (by rw [List.map_append, List.map_append, varL_take hv, List.append_assoc])
          have HE2 : Hid (∀ w', Turn [] W w' → w'.cell? ⟨g, off + j * 4, none⟩ = some (.string v.1) ∧ w'.cell? ⟨g, off + j * 4 + 1, none⟩ = some (.string v.2)) := Lib.hid (fun w' ht => by
            obtain ⟨g', off', _, _, e, _, _, a0, a1, _, _⟩ := HR5.out w' ht j v hv
            injection e with e
            injection e with e1 e2
            subst e1 e2
            exact ⟨a0, a1⟩)
          obtain ⟨t, x⟩ := v
          simp only at e0 e1 hvs
          have hlk : ((varR 0 fieldK c.fs ++ varR 0 staticK (c.ss.take j)).map ln).length ≤ 100 := by rw [List.length_map]; rw [List.length_append, varR_len, HN4.out]; rw [varR_len, List.length_take, HN5.out]; omega
          have HLK := Lib.hid hlk
          have b1 := add_run ⟨#[115, 116, 97, 116, 105, 99, 32]⟩ t (by simp only [sz_lit, List.size_toArray, List.length_cons, List.length_nil]; omega)
          have b2 := add_run (⟨#[115, 116, 97, 116, 105, 99, 32]⟩ ++ t) ⟨#[32]⟩ (by simp only [size_app, sz_lit, List.size_toArray, List.length_cons, List.length_nil]; omega)
          have b3 := add_run (⟨#[115, 116, 97, 116, 105, 99, 32]⟩ ++ t ++ ⟨#[32]⟩) x (by simp only [size_app, sz_lit, List.size_toArray, List.length_cons, List.length_nil]; omega)
          have b4 := add_run (⟨#[115, 116, 97, 116, 105, 99, 32]⟩ ++ t ++ ⟨#[32]⟩ ++ x) ⟨#[59]⟩ (by simp only [size_app, sz_lit, List.size_toArray, List.length_cons, List.length_nil]; omega)
          obtain ⟨X, hX⟩ : ∃ X, ⟨#[115, 116, 97, 116, 105, 99, 32]⟩ ++ t ++ ⟨#[32]⟩ ++ x ++ ⟨#[59]⟩ = X := ⟨_, rfl⟩
          have HXX : Hid (staticK ++ sp ++ t ++ sp ++ x ++ ⟨#[59]⟩ = X) := Lib.hid (by rw [← hX]; rfl)
          rw [hX] at b4
          clear hv hlk hvs hX e2 e3
          go_upto_region 17 with fail
          go_region_held3 (fun w' => w'.cell? ⟨w.heap.size, 5, none⟩ = some (.slice (some ⟨g, off, none⟩) n5 c5) ∧ w'.cell? ⟨g, off + j * 4, none⟩ = some (.string t) ∧ w'.cell? ⟨g, off + j * 4 + 1, none⟩ = some (.string x))
            (first | exact ⟨k5, e0, e1⟩ | exact ⟨q5, f0, f1⟩ | go_keep)
            (first
              | (refine step_bld rfl (.tmp 72) (.tmp 89) rfl W _ u5 ((varR 0 fieldK c.fs ++ varR 0 staticK (c.ss.take j)).map ln) [X] (some ⟨wr.heap.size, 0, none⟩) 1 1 (by simp [Act.eval, Act.put]) (by simp [Act.eval, Act.put]) (HB.out.turn' (by first | exact bx wr _ _ | exact (bx wr _ _).drew)) (by first | exact sts_new wr _ _ rfl | exact (sts_new wr _ _ rfl).turn' ((Turn.refl [] _).drew)) rfl (by have := HLK.out; simp at this ⊢; omega) ?_
                 intro v6 w6 hb6
                 have HB6 := Lib.hid hb6
                 obtain ⟨q0, q1, q2, q3, q4, q5, q6, q7, q8, q9⟩ := HCe.out w6 hb6.2.2
                 obtain ⟨f0, f1⟩ := HE2.out w6 hb6.2.2
                 clear hb6)
              | fail)
          go_wp2_with fail
          go_roundw
          case rel => exact ⟨j + 1, by omega, by go_num, Lib.hid (by rw [HX.out, HXX.out]; exact HB6.out)⟩
          case measure => simp [intOf]; omega
        · have hjn : j = n5 := by omega
          subst hjn
          have hb := HB.out
          rw [List.take_of_length_le (l := c.ss) (by rw [HN5.out]; exact Nat.le_refl _)] at hb
          have HB9 := Lib.hid hb
          have hI := HRI.out wr hb.2.2
          clear hb HB
          obtain ⟨wb, hwb⟩ : ∃ q, q = wr := ⟨_, rfl⟩
          subst hwb
          cases hin : c.init with
          | none =>
            rw [hin] at hI
            have hI' : I = none := hI
            subst hI'
            have HBo : Hid (varR 0 fieldK c.fs ++ varR 0 staticK c.ss = varR 0 fieldK c.fs ++ varR 0 staticK c.ss ++ initR 0 c.init) := Lib.hid (by rw [hin, initR, List.append_nil])
            clear hin hI
            go_wp2_with fail
            go_loopw [5, 8] (fun v i wr => ∃ j : Nat, j ≤ n6 ∧ i = .int .i64 (j : Int) ∧ Hid (Bld W wr v ((varR 0 fieldK c.fs ++ varR 0 staticK c.ss ++ initR 0 c.init ++ metsR 0 (c.ms.take j)).map ln))) (fun _ i _ => n6 - (intOf i).toNat)
            case atStart => exact ⟨0, Nat.zero_le _, rfl, Lib.hid (by rw [← HBo.out]; simpa [metsR] using HB9.out)⟩
            case round =>
              obtain ⟨j, hj, rfl, HB⟩ := hrel
              obtain ⟨k0, k1, k2, k3, k4, k5, k6, k7, k8, k9⟩ := HCe.out wr HB.out.2.2
              by_cases hlt : j < n6
              · obtain ⟨m, hm⟩ := at_lt (l := c.ms) (k := j) (by rw [HN6.out]; exact hlt)
                obtain ⟨g, off, cs, hA6, ⟨_, hgB, hgl, hcell⟩, hRd⟩ := HR6.out wr HB.out.2.2 j m hm
                subst hA6
                have HC := Lib.hid (HMe.out wr HB.out.2.2 m (List.mem_of_getElem? hm) cs hRd)
                have HX : Hid ((varR 0 fieldK c.fs ++ varR 0 staticK c.ss ++ initR 0 c.init ++ metsR 0 (c.ms.take (j + 1))).map ln = (varR 0 fieldK c.fs ++ varR 0 staticK c.ss ++ initR 0 c.init ++ metsR 0 (c.ms.take j)).map ln ++ (metR 0 m).map ln) := Lib.hid (by rw [metsR_take hm, ← List.map_append]; simp only [List.append_assoc])
                have hl0 := HMs.out j
                have hl1 := HMl.out m (List.mem_of_getElem? hm)
                obtain ⟨A1', c1', A2', c2', A3', c3', p', q', rfl, _, _, _⟩ := hRd
                simp only at hcell hgl
                have e0 : wr.cell? ⟨g, off + j * 9, none⟩ = some (.string m.ret) := hcell 0 _ rfl
                have e1 := hcell 1 _ rfl
                have e2 := hcell 2 _ rfl
                have e3 := hcell 3 _ rfl
                have e4 := hcell 4 _ rfl
                have e5 := hcell 5 _ rfl
                have e6 := hcell 6 _ rfl
                have e7 := hcell 7 _ rfl
                have e8 := hcell 8 _ rfl
                obtain ⟨nr, hnr⟩ : ∃ z, (metR 0 m).length = z := ⟨_, rfl⟩
                rw [hnr] at HC hl1
                have HNR := Lib.hid hnr
                have HLm : Hid (((metR 0 m).map ln).length = nr) := Lib.hid (by rw [List.length_map]; exact hnr)
                have HL0 : Hid (((varR 0 fieldK c.fs ++ varR 0 staticK c.ss ++ initR 0 c.init ++ metsR 0 (c.ms.take j)).map ln).length ≤ 20000000) := Lib.hid (by rw [List.length_map]; rw [List.length_append, List.length_append, List.length_append, varR_len, varR_len, HN4.out, HN5.out]; have hi9 : (initR 0 c.init).length ≤ 1700010 := HIL.out; omega)
                clear hcell hm hnr
                go_wp2_with fail
                refine HC.out.mono ?_
                rintro e w7 ⟨A7, c7, rfl, hb7⟩
                have HB7 := Lib.hid hb7
                clear hb7 e0 e1 e2 e3 e4 e5 e6 e7 e8 HC
                go_wp2_with (first
                  | (at_builtin; refine wpList_bld rfl (.tmp 108) (.tmp 114) rfl W w7 u5 ((varR 0 fieldK c.fs ++ varR 0 staticK c.ss ++ initR 0 c.init ++ metsR 0 (c.ms.take j)).map ln) ((metR 0 m).map ln) A7 nr c7 rfl rfl (HB.out.turn' HB7.out.2.2) (OwnS.sts HB7.out.1).2.2 (by rw [List.length_map]; exact HNR.out.symm) (by rw [HLm.out]; have := HL0.out; omega) ?_
                     intro v8 w8 hb8
                     have HB8 := Lib.hid hb8
                     clear hb8)
                  | fail)
                go_roundw
                case rel => exact ⟨j + 1, by omega, by go_num, Lib.hid (by rw [HX.out]; exact HB8.out)⟩
                case measure => simp [intOf]; omega
              · have hjn : j = n6 := by omega
                subst hjn
                have hb : Bld W wr u5 ((bodyR 0 c).map ln) := by
                  have := HB.out
                  rw [List.take_of_length_le (l := c.ms) (by rw [HN6.out]; exact Nat.le_refl _)] at this
                  exact this
                obtain ⟨A8, n8, c8, rfl⟩ := hb.form
                have hn8e := (OwnS.sts hb.1).1
                have HN8 := Lib.hid hn8e
                have tB := bx wr #[.string (claT c)] 9
                have HC := Lib.hid (HFu.out A8 c8 _ ((OwnS.sts hb.1).2.2.turn' tB))
                rw [← hn8e] at HC
                have hn8l : n8 ≤ 10300000 := by rw [HN8.out, List.length_map]; exact HLb.out
                have HTW := Lib.hid hb.2.2
                clear hb hn8e tB HB
                go_wp2_with fail
                refine HC.out.mono ?_
                rintro e w9 ⟨A9, c9, rfl, hb9⟩
                have HI1 : Hid (((bodyR 1 c).map ln).length = n8) := Lib.hid (by have := (OwnS.sts hb9.1).1; exact this.symm)
                have HSt9 := Lib.hid (OwnS.sts hb9.1).2.2
                have HOne : Hid (Bld wr w9 (.slice (some ⟨wr.heap.size, 0, none⟩) 1 1) [claT c]) := Lib.hid ((Bld.one wr _).turn' hb9.2.2)
                clear hb9 HC
                go_wp2_with (first
                  | (at_builtin; refine wpList_bld rfl (.tmp 118) (.tmp 120) rfl wr w9 (.slice (some ⟨wr.heap.size, 0, none⟩) 1 1) [claT c] ((bodyR 1 c).map ln) A9 n8 c9 rfl rfl HOne.out HSt9.out HI1.out.symm (by rw [HI1.out]; simp; omega) ?_
                     intro v10 w10 hb10
                     obtain ⟨A10, n10, c10, rfl⟩ := hb10.form
                     have HB10 := Lib.hid hb10
                     clear hb10)
                  | (at_builtin; refine wpList_bld rfl (.tmp 121) (.tmp 122) rfl wr _ (.slice A10 n10 c10) ([claT c] ++ (bodyR 1 c).map ln) [⟨#[125]⟩] (some ⟨w10.heap.size, 0, none⟩) 1 1 rfl rfl (HB10.out.turn' (bx w10 _ _)) (sts_new w10 _ _ rfl) rfl (by rw [List.length_append, HI1.out]; simp; omega) ?_
                     intro v11 w11 hb11
                     obtain ⟨A11, n11, c11, rfl⟩ := hb11.form
                     have HB11 := Lib.hid hb11
                     clear hb11)
                  | fail)
                go_ret
                have hb := HB11.out
                rw [HSh.out] at hb
                have hn := (OwnS.sts hb.1).1
                rw [List.length_map] at hn
                subst hn
                exact ⟨A11, c11, rfl, hb.before (HT.out.trans' HTW.out)⟩
          | some m =>
            rw [hin] at hI
            obtain ⟨bI, oI, cs, hIe, ⟨_, hbB, hbl, hcI⟩, hRd⟩ := hI
            subst hIe
            simp only at hcI hbl
            have HC := Lib.hid (HBk.out wb HB9.out.2.2 m hin cs hRd)
            have HBo : Hid ((varR 0 fieldK c.fs ++ varR 0 staticK c.ss).map ln ++ (blkR 0 (⟨#[105, 110, 105, 116]⟩ ++ openT) m).map ln = (varR 0 fieldK c.fs ++ varR 0 staticK c.ss ++ initR 0 c.init).map ln) := Lib.hid (by
              rw [hin, initR, ← List.map_append]
              have : (cat [⟨#[105, 110, 105, 116, 32, 123]⟩] : ByteArray) = ⟨#[105, 110, 105, 116]⟩ ++ openT := by apply bs_inj; rw [bs_cat, bs_append]; rfl
              rw [this])
            have hil := HIL.out
            rw [hin] at hil
            have HBL : Hid ((blkR 0 (⟨#[105, 110, 105, 116]⟩ ++ openT) m).length ≤ 1700010) := Lib.hid (by
              have : (cat [⟨#[105, 110, 105, 116, 32, 123]⟩] : ByteArray) = ⟨#[105, 110, 105, 116]⟩ ++ openT := by apply bs_inj; rw [bs_cat, bs_append]; rfl
              rw [initR, this] at hil
              exact hil)
            obtain ⟨A1', c1', A2', c2', A3', c3', p', q', rfl, _, _, _⟩ := hRd
            have e0 : wb.cell? ⟨bI, oI, none⟩ = some (.string m.ret) := hcI 0 _ rfl
            have e1 := hcI 1 _ rfl
            have e2 := hcI 2 _ rfl
            have e3 := hcI 3 _ rfl
            have e4 := hcI 4 _ rfl
            have e5 := hcI 5 _ rfl
            have e6 := hcI 6 _ rfl
            have e7 := hcI 7 _ rfl
            have e8 := hcI 8 _ rfl
            obtain ⟨nr, hnr⟩ : ∃ z, (blkR 0 (⟨#[105, 110, 105, 116]⟩ ++ openT) m).length = z := ⟨_, rfl⟩
            rw [hnr] at HC HBL
            have HNR := Lib.hid hnr
            have HLm : Hid (((blkR 0 (⟨#[105, 110, 105, 116]⟩ ++ openT) m).map ln).length = nr) := Lib.hid (by rw [List.length_map]; exact hnr)
            have HL9 : Hid (((varR 0 fieldK c.fs ++ varR 0 staticK c.ss).map ln).length ≤ 100) := Lib.hid (by rw [List.length_map, List.length_append, varR_len, varR_len, HN4.out, HN5.out]; omega)
            clear hcI hin hnr hil
            go_wp2_with fail
            refine HC.out.mono ?_
            rintro e w7 ⟨A7, c7, rfl, hb7⟩
            have HB7 := Lib.hid hb7
            clear hb7 e0 e1 e2 e3 e4 e5 e6 e7 e8 HC
            go_wp2_with (first
              | (at_builtin; refine wpList_bld rfl (.tmp 94) (.tmp 99) rfl W w7 u5 ((varR 0 fieldK c.fs ++ varR 0 staticK c.ss).map ln) ((blkR 0 (⟨#[105, 110, 105, 116]⟩ ++ openT) m).map ln) A7 nr c7 rfl rfl (HB9.out.turn' HB7.out.2.2) (OwnS.sts HB7.out.1).2.2 (by rw [List.length_map]; exact HNR.out.symm) (by rw [HLm.out]; have := HL9.out; have := HBL.out; omega) ?_
                 intro v8 w8 hb8
                 rw [HBo.out] at hb8
                 have HB8 := Lib.hid hb8
                 clear hb8)
              | fail)
            go_loopw [5, 8] (fun v i wr => ∃ j : Nat, j ≤ n6 ∧ i = .int .i64 (j : Int) ∧ Hid (Bld W wr v ((varR 0 fieldK c.fs ++ varR 0 staticK c.ss ++ initR 0 c.init ++ metsR 0 (c.ms.take j)).map ln))) (fun _ i _ => n6 - (intOf i).toNat)
            case atStart => exact ⟨0, Nat.zero_le _, rfl, Lib.hid (by simpa [metsR] using HB8.out)⟩
            case round =>
              obtain ⟨j, hj, rfl, HB⟩ := hrel
              obtain ⟨k0, k1, k2, k3, k4, k5, k6, k7, k8, k9⟩ := HCe.out wr HB.out.2.2
              by_cases hlt : j < n6
              · obtain ⟨m, hm⟩ := at_lt (l := c.ms) (k := j) (by rw [HN6.out]; exact hlt)
                obtain ⟨g, off, cs, hA6, ⟨_, hgB, hgl, hcell⟩, hRd⟩ := HR6.out wr HB.out.2.2 j m hm
                subst hA6
                have HC := Lib.hid (HMe.out wr HB.out.2.2 m (List.mem_of_getElem? hm) cs hRd)
                have HX : Hid ((varR 0 fieldK c.fs ++ varR 0 staticK c.ss ++ initR 0 c.init ++ metsR 0 (c.ms.take (j + 1))).map ln = (varR 0 fieldK c.fs ++ varR 0 staticK c.ss ++ initR 0 c.init ++ metsR 0 (c.ms.take j)).map ln ++ (metR 0 m).map ln) := Lib.hid (by rw [metsR_take hm, ← List.map_append]; simp only [List.append_assoc])
                have hl0 := HMs.out j
                have hl1 := HMl.out m (List.mem_of_getElem? hm)
                obtain ⟨A1', c1', A2', c2', A3', c3', p', q', rfl, _, _, _⟩ := hRd
                simp only at hcell hgl
                have e0 : wr.cell? ⟨g, off + j * 9, none⟩ = some (.string m.ret) := hcell 0 _ rfl
                have e1 := hcell 1 _ rfl
                have e2 := hcell 2 _ rfl
                have e3 := hcell 3 _ rfl
                have e4 := hcell 4 _ rfl
                have e5 := hcell 5 _ rfl
                have e6 := hcell 6 _ rfl
                have e7 := hcell 7 _ rfl
                have e8 := hcell 8 _ rfl
                obtain ⟨nr, hnr⟩ : ∃ z, (metR 0 m).length = z := ⟨_, rfl⟩
                rw [hnr] at HC hl1
                have HNR := Lib.hid hnr
                have HLm : Hid (((metR 0 m).map ln).length = nr) := Lib.hid (by rw [List.length_map]; exact hnr)
                have HL0 : Hid (((varR 0 fieldK c.fs ++ varR 0 staticK c.ss ++ initR 0 c.init ++ metsR 0 (c.ms.take j)).map ln).length ≤ 20000000) := Lib.hid (by rw [List.length_map]; rw [List.length_append, List.length_append, List.length_append, varR_len, varR_len, HN4.out, HN5.out]; have hi9 : (initR 0 c.init).length ≤ 1700010 := HIL.out; omega)
                clear hcell hm hnr
                go_wp2_with fail
                refine HC.out.mono ?_
                rintro e w7 ⟨A7, c7, rfl, hb7⟩
                have HB7 := Lib.hid hb7
                clear hb7 e0 e1 e2 e3 e4 e5 e6 e7 e8 HC
                go_wp2_with (first
                  | (at_builtin; refine wpList_bld rfl (.tmp 108) (.tmp 114) rfl W w7 u5 ((varR 0 fieldK c.fs ++ varR 0 staticK c.ss ++ initR 0 c.init ++ metsR 0 (c.ms.take j)).map ln) ((metR 0 m).map ln) A7 nr c7 rfl rfl (HB.out.turn' HB7.out.2.2) (OwnS.sts HB7.out.1).2.2 (by rw [List.length_map]; exact HNR.out.symm) (by rw [HLm.out]; have := HL0.out; omega) ?_
                     intro v8 w8 hb8
                     have HB8 := Lib.hid hb8
                     clear hb8)
                  | fail)
                go_roundw
                case rel => exact ⟨j + 1, by omega, by go_num, Lib.hid (by rw [HX.out]; exact HB8.out)⟩
                case measure => simp [intOf]; omega
              · have hjn : j = n6 := by omega
                subst hjn
                have hb : Bld W wr u5 ((bodyR 0 c).map ln) := by
                  have := HB.out
                  rw [List.take_of_length_le (l := c.ms) (by rw [HN6.out]; exact Nat.le_refl _)] at this
                  exact this
                obtain ⟨A8, n8, c8, rfl⟩ := hb.form
                have hn8e := (OwnS.sts hb.1).1
                have HN8 := Lib.hid hn8e
                have tB := bx wr #[.string (claT c)] 9
                have HC := Lib.hid (HFu.out A8 c8 _ ((OwnS.sts hb.1).2.2.turn' tB))
                rw [← hn8e] at HC
                have hn8l : n8 ≤ 10300000 := by rw [HN8.out, List.length_map]; exact HLb.out
                have HTW := Lib.hid hb.2.2
                clear hb hn8e tB HB
                go_wp2_with fail
                refine HC.out.mono ?_
                rintro e w9 ⟨A9, c9, rfl, hb9⟩
                have HI1 : Hid (((bodyR 1 c).map ln).length = n8) := Lib.hid (by have := (OwnS.sts hb9.1).1; exact this.symm)
                have HSt9 := Lib.hid (OwnS.sts hb9.1).2.2
                have HOne : Hid (Bld wr w9 (.slice (some ⟨wr.heap.size, 0, none⟩) 1 1) [claT c]) := Lib.hid ((Bld.one wr _).turn' hb9.2.2)
                clear hb9 HC
                go_wp2_with (first
                  | (at_builtin; refine wpList_bld rfl (.tmp 118) (.tmp 120) rfl wr w9 (.slice (some ⟨wr.heap.size, 0, none⟩) 1 1) [claT c] ((bodyR 1 c).map ln) A9 n8 c9 rfl rfl HOne.out HSt9.out HI1.out.symm (by rw [HI1.out]; simp; omega) ?_
                     intro v10 w10 hb10
                     obtain ⟨A10, n10, c10, rfl⟩ := hb10.form
                     have HB10 := Lib.hid hb10
                     clear hb10)
                  | (at_builtin; refine wpList_bld rfl (.tmp 121) (.tmp 122) rfl wr _ (.slice A10 n10 c10) ([claT c] ++ (bodyR 1 c).map ln) [⟨#[125]⟩] (some ⟨w10.heap.size, 0, none⟩) 1 1 rfl rfl (HB10.out.turn' (bx w10 _ _)) (sts_new w10 _ _ rfl) rfl (by rw [List.length_append, HI1.out]; simp; omega) ?_
                     intro v11 w11 hb11
                     obtain ⟨A11, n11, c11, rfl⟩ := hb11.form
                     have HB11 := Lib.hid hb11
                     clear hb11)
                  | fail)
                go_ret
                have hb := HB11.out
                rw [HSh.out] at hb
                have hn := (OwnS.sts hb.1).1
                rw [List.length_map] at hn
                subst hn
                exact ⟨A11, c11, rfl, hb.before (HT.out.trans' HTW.out)⟩
end Go.Proofs.YtoekaehpcjhhaaaGreatDoor
