/- LexJoins: tokens that are laid one behind the other, with something between, are the same tokens. -/
import Derived.Test.YthdoihemjndmlaaDoorJn
set_option linter.unusedSimpArgs false
set_option linter.unusedVariables false
namespace Go.Proofs.YthdoihemjndmlaaDoor
open Go.RowKit

theorem alike_len {us ts : List Tok} (h : alike us ts) : us.length = ts.length := by
  have := congrArg List.length h
  simpa using this
theorem alike_at {us ts : List Tok} (h : alike us ts) {i : Nat} {t : Tok} (ht : ts[i]? = some t) : ∃ u, us[i]? = some u ∧ u.kind = t.kind ∧ u.text = t.text := by
  have h1 : (us.map (fun t => (t.kind, t.text)))[i]? = (ts.map (fun t => (t.kind, t.text)))[i]? := by rw [h]
  rw [List.getElem?_map, List.getElem?_map, ht] at h1
  cases hu : us[i]? with
  | none => rw [hu] at h1; cases h1
  | some u =>
    rw [hu] at h1
    simp at h1
    exact ⟨u, rfl, h1.1, h1.2⟩
theorem rem4 (y : Int) (h : 0 ≤ y ∧ y ≤ 255) : ∃ j : Nat, j < 4 ∧ y.tmod 4 = (j : Int) := by
  obtain ⟨n, rfl⟩ : ∃ n : Nat, y = (n : Int) := ⟨y.toNat, by omega⟩
  refine ⟨n % 4, Nat.mod_lt _ (by omega), ?_⟩
  simp [Int.tmod]

set_option maxHeartbeats 8000000 in
set_option maxRecDepth 100000 in
theorem joins_law (hr : ReadSaid) (s : ByteArray) (y : Int) (w : World) (hS : Sg w) (hy : 0 ≤ y ∧ y ≤ 255) :
    Calls Tryd.prog 5 #[.string s, .int .u8 y] w fun e w' => e = .returned (.bool true) ∧ Turn [] w w' := by
  have HS := Lib.hid hS
  have HR := Lib.hid hr
  clear hS hr
  by_cases hbig : 400 < s.size
  · have d1 : decide ((400 : Int) < (s.size : Int)) = true := by simp; omega
    have d2 : (400 : Int) < (s.size : Int) := by omega
    go_enter Tryd.func5, Tryd.ntmps5
    go_wp2_with fail
    refine (awake_any HR.out w HS.out).mono ?_
    rintro e w1 ⟨rfl, t1⟩
    have HT1 := Lib.hid t1
    clear t1
    go_wp2_with fail
    refine (awake_any HR.out w1 (HS.out.turn HT1.out (by simp))).mono ?_
    rintro e w2 ⟨rfl, t2⟩
    have HT2 := Lib.hid (HT1.out.trans' t2)
    clear t2
    go_wp2_with fail
    go_ret
    exact ⟨rfl, HT2.out⟩
  · have d1 : decide ((400 : Int) < (s.size : Int)) = false := by simp; omega
    have d2 : ¬ (400 : Int) < (s.size : Int) := by omega
    have hl : s.data.toList.length = s.size := (Lib.size_eq s).symm
    have HL := Lib.hid hl
    clear hl
    go_enter Tryd.func5, Tryd.ntmps5
    go_wp2_with fail
    refine (awake_any HR.out w HS.out).mono ?_
    rintro e w1 ⟨rfl, t1⟩
    have HT1 := Lib.hid t1
    clear t1
    go_wp2_with fail
    refine (tokens_any HR.out s w1 (HS.out.turn HT1.out (by simp))).mono ?_
    rintro e w2 ⟨t2, hcase⟩
    have HT2 := Lib.hid (HT1.out.trans' t2)
    clear t2
    rcases hcase with ⟨x, l, c, _, hx0, rfl⟩ | ⟨ts, p, V, htk, hV, _, rfl⟩
    · have e0 : decide ((x : Int) = 0) = false := by simp; omega
      have e1 : ((x : Int) == 0) = false := by simp; omega
      have e2 : ¬ (x : Int) = 0 := by omega
      simp only [badV]
      go_wp2_with fail
      go_ret
      exact ⟨rfl, ((HT2.out).alloc _).alloc _⟩
    · have ho := offs_tok htk
      have hln := Offs.len ts 0 (by omega) ho
      have hsum := Offs.sum ts 0 (by omega) ho
      rw [HL.out] at hln hsum
      have HON := Lib.hid (ones_tok htk)
      obtain ⟨A, c, rfl, hc, hrow⟩ := hV.form
      have HRow := Lib.hid hrow
      clear hrow hV htk ho
      obtain ⟨N, hN⟩ : ∃ N, ts.length = N := ⟨_, rfl⟩
      rw [hN] at hln hc
      simp only [goodV]
      rw [hN]
      have HN := Lib.hid hN
      clear hN
      go_upto_region 6 with (fail)
      obtain ⟨W, hW⟩ : ∃ W, (w2.alloc (.cells #[.int .i64 (p.1 : Int), .int .i64 (p.2 : Int)] 25)).alloc (.cells #[.int .i64 0, .int .i64 0, .int .i64 0] 28) = W := ⟨_, rfl⟩
      have tW : Turn [] w2 W := by rw [← hW]; exact ((Turn.refl [] w2).alloc _).alloc _
      rw [hW]
      have HTW := Lib.hid (HT2.out.trans' tW)
      have HTW2 := Lib.hid tW
      clear hW tW
      obtain ⟨j, hj, hrem⟩ := rem4 y hy
      obtain ⟨gl, hgl⟩ := at_lt (show j < gapsL.length from hj)
      have hgm : gl ∈ gapsL := List.mem_of_getElem? hgl
      obtain ⟨G, hG⟩ : ∃ G : ByteArray, G = ⟨gl.toArray⟩ := ⟨_, rfl⟩
      have hGd : G.data.toList = gl := by rw [hG]
      have hGs : G.size ≤ 7 := by
        rw [Lib.size_eq, hGd]
        exact gap_len hgm
      have hcells : (#[.string ⟨#[32]⟩, .string ⟨#[10]⟩, .string ⟨#[9, 32, 13]⟩, .string ⟨#[32, 35, 32, 120, 32, 59, 10]⟩] : Array Value)[j]? = some (.string G) := by
        rw [hG]
        iterate 4 (rcases j with _ | j; · (injection hgl with hgl; subst hgl; rfl))
        omega
      have hc1 : (W.alloc (.cells #[.string ⟨#[32]⟩, .string ⟨#[10]⟩, .string ⟨#[9, 32, 13]⟩, .string ⟨#[32, 35, 32, 120, 32, 59, 10]⟩] 9)).cell? ⟨W.heap.size, j, none⟩ = some (.string G) := by
        rw [cell_of_row _ W.heap.size j _ 9 (0, 0) (heap_alloc_new W _)]
        exact hcells
      have hj2 : (j : Int) < 4 := by omega
      have HGM := Lib.hid hgm
      have HGD := Lib.hid hGd
      clear hgl hgm hG hGd
      go_upto_region 7 with (fail)
      obtain ⟨W3, hW3⟩ : ∃ W3, W.alloc (.cells #[.string ⟨#[32]⟩, .string ⟨#[10]⟩, .string ⟨#[9, 32, 13]⟩, .string ⟨#[32, 35, 32, 120, 32, 59, 10]⟩] 9) = W3 := ⟨_, rfl⟩
      have t3 : Turn [] w2 W3 := by rw [← hW3]; exact (HTW2.out).alloc _
      have HT3 := Lib.hid (HT2.out.trans' t3)
      have HT23 := Lib.hid t3
      have HS3 := Lib.hid (HS.out.turn HT3.out (by simp))
      rw [hW3]
      clear hW3 t3 hcells hc1
      have hgl7 := gap_len HGM.out
      have hbound : ∀ k, (lay gl (ts.take k)).length ≤ 4000 := fun k => by
        have h1 := lay_len gl ts k
        rw [lay_eq gl ts, sx_len, HN.out] at h1
        have h2 : gl.length * (N + 1) ≤ 7 * (N + 1) := Nat.mul_le_mul_right _ hgl7
        omega
      have HB := Lib.hid hbound
      clear hbound hgl7
      go_wp2_with fail
      go_loopw [9, 10] (fun tt ti wr => ∃ (i : Nat) (Tb : ByteArray), i ≤ N ∧ tt = .string Tb ∧ ti = .int .i64 (i : Int) ∧ Tb.size ≤ 4000 ∧ Hid (Tb.data.toList = lay gl (ts.take i)) ∧ W3 = wr) (fun _ ti _ => N - (intOf ti).toNat)
      case atStart => exact ⟨0, G, by omega, rfl, rfl, by omega, Lib.hid (by rw [HGD.out]; rfl), rfl⟩
      case round =>
        obtain ⟨i, Tb, hi, rfl, rfl, hTs, HTd, rfl⟩ := hrel
        by_cases hlt : i < N
        · obtain ⟨t, ht⟩ := at_lt (show i < ts.length by have := HN.out; omega)
          obtain ⟨g, rfl, hgl, hcell⟩ := HRow.out i t ht
          have hg3 : g < W3.heap.size := Nat.lt_of_lt_of_le hgl HT23.out.size
          obtain ⟨X, hX⟩ : ∃ X : ByteArray, X = ⟨t.text.toArray⟩ := ⟨_, rfl⟩
          have hXd : X.data.toList = t.text := by rw [hX]
          have x1 : W3.cell? ⟨g, i * 4 + 1, none⟩ = some (.string X) := by
            rw [hX]
            exact (HT23.out.cell (p := ⟨g, i * 4 + 1, none⟩) hgl (by simp)).trans (hcell 1 _ rfl)
          have hnext : (Tb ++ X ++ G).data.toList = lay gl (ts.take (i + 1)) := by
            rw [take_snoc ht, lay_snoc, ← HTd.out, ← hXd, ← HGD.out]
            simp [ByteArray.data_append]
          have hnl : (Tb ++ X ++ G).size ≤ 4000 := by
            rw [Lib.size_eq, hnext]
            exact HB.out (i + 1)
          have hnl2 : Tb.size + X.size + G.size ≤ 4000 := by simpa [ByteArray.size_append] using hnl
          have HNX := Lib.hid hnext
          have HNL := Lib.hid hnl
          have hX4 : X.size ≤ 4000 := by omega
          have d3 : decide ((i : Int) < (N : Int)) = true := by simp; omega
          have d4 : (i : Int) < (N : Int) := by omega
          clear hX hXd hcell ht hnext hnl
          go_wp2_with fail
          go_roundw
          case rel => exact ⟨i + 1, Tb ++ X ++ G, by omega, rfl, by go_num, HNL.out, HNX, by first | rfl | trivial⟩
          case measure => simp [intOf]; omega
        · obtain rfl : i = N := by omega
          have d3 : decide ((i : Int) < (i : Int)) = false := by simp
          have hTd := HTd.out
          rw [List.take_of_length_le (by have := HN.out; omega), lay_eq] at hTd
          obtain ⟨us, q, hlx, hal⟩ := lxs_sx HGM.out ts (1, 1) HON.out
          have hul := alike_len hal
          rw [HN.out] at hul
          have htk : tokR Tb.data.toList = .good us q := by
            unfold tokR
            rw [if_neg (by rw [← Lib.size_eq]; omega), hTd, hlx]
          have HTK := Lib.hid htk
          have HAL := Lib.hid hal
          have HUL := Lib.hid hul
          clear htk hal hul hTd hlx
          go_wp2_with fail
          refine (tokens_good HR.out Tb W3 HS3.out us q HTK.out).mono ?_
          rintro e w4 ⟨V2, rfl, t4, hV2, _⟩
          obtain ⟨A2, c2, rfl, hc2, hrow2⟩ := hV2.form
          rw [HUL.out] at hc2
          have HRow2 := Lib.hid hrow2
          have HT24 := Lib.hid (HT23.out.trans' t4)
          have HT4 := Lib.hid (HT3.out.trans' t4)
          clear hV2 hrow2 t4
          simp only [goodV]
          rw [HUL.out]
          go_upto_region 13 with (fail)
          obtain ⟨W5, hW5⟩ : ∃ W5, (w4.alloc (.cells #[.int .i64 (q.1 : Int), .int .i64 (q.2 : Int)] 25)).alloc (.cells #[.int .i64 0, .int .i64 0, .int .i64 0] 28) = W5 := ⟨_, rfl⟩
          obtain ⟨r, hr⟩ : ∃ r, w4.heap.size = r := ⟨_, rfl⟩
          rw [hW5, hr]
          have t5 : Turn [] w4 W5 := by rw [← hW5]; exact ((Turn.refl [] w4).alloc _).alloc _
          have hb5 : W5.heap[r + 1]? = some (.cells #[.int .i64 0, .int .i64 0, .int .i64 0] 28 (0, 0)) := by
            rw [← hW5, ← hr]
            have := heap_alloc_new (w4.alloc (.cells #[.int .i64 (q.1 : Int), .int .i64 (q.2 : Int)] 25)) (.cells #[.int .i64 0, .int .i64 0, .int .i64 0] 28)
            rwa [World.size_alloc] at this
          have z0 : W5.cell? ⟨r + 1, 0, none⟩ = some (.int .i64 0) := cell_of_row W5 (r + 1) 0 _ 28 (0, 0) hb5
          have HT25 := Lib.hid (HT24.out.trans' t5)
          have HT45 := Lib.hid t5
          have HT5 := Lib.hid (HT4.out.trans' t5)
          clear hW5 hr t5 hb5
          go_wp2_with fail
          go_loopw [14] (fun ti wr => ∃ k : Nat, k ≤ i ∧ ti = .int .i64 (k : Int) ∧ Hid (∃ m, wr = W5.drewN m)) (fun ti _ => i - (intOf ti).toNat)
          case atStart => exact ⟨0, by omega, rfl, Lib.hid ⟨0, rfl⟩⟩
          case round =>
            obtain ⟨k, hk, rfl, HM⟩ := hrel
            by_cases hlt2 : k < i
            · obtain ⟨t, ht⟩ := at_lt (show k < ts.length by have := HN.out; omega)
              obtain ⟨u, hu, hku, htu⟩ := alike_at HAL.out ht
              obtain ⟨g1, rfl, hg1, hcell1⟩ := HRow.out k t ht
              obtain ⟨g2, rfl, hg2, hcell2⟩ := HRow2.out k u hu
              have hcw : ∀ p, wr.cell? p = W5.cell? p := fun p => by
                obtain ⟨m, e⟩ := HM.out
                rw [e]
                rfl
              have hgr1 : g1 < wr.heap.size := by
                obtain ⟨m, e⟩ := HM.out
                rw [e]
                exact Nat.lt_of_lt_of_le hg1 HT25.out.size
              have hgr2 : g2 < wr.heap.size := by
                obtain ⟨m, e⟩ := HM.out
                rw [e]
                exact Nat.lt_of_lt_of_le hg2 HT45.out.size
              have x0 : wr.cell? ⟨g1, k * 4, none⟩ = some (.int .i64 (t.kind : Int)) := (hcw _).trans ((HT25.out.cell (p := ⟨g1, k * 4, none⟩) hg1 (by simp)).trans (hcell1 0 _ rfl))
              have x1 : wr.cell? ⟨g1, k * 4 + 1, none⟩ = some (.string ⟨t.text.toArray⟩) := (hcw _).trans ((HT25.out.cell (p := ⟨g1, k * 4 + 1, none⟩) hg1 (by simp)).trans (hcell1 1 _ rfl))
              have y0 : wr.cell? ⟨g2, k * 4, none⟩ = some (.int .i64 (u.kind : Int)) := (hcw _).trans ((HT45.out.cell (p := ⟨g2, k * 4, none⟩) hg2 (by simp)).trans (hcell2 0 _ rfl))
              have y1 : wr.cell? ⟨g2, k * 4 + 1, none⟩ = some (.string ⟨u.text.toArray⟩) := (hcw _).trans ((HT45.out.cell (p := ⟨g2, k * 4 + 1, none⟩) hg2 (by simp)).trans (hcell2 1 _ rfl))
              rw [hku] at y0
              rw [htu] at y1
              obtain ⟨X, hX⟩ : ∃ X : ByteArray, X = ⟨t.text.toArray⟩ := ⟨_, rfl⟩
              rw [← hX] at x1 y1
              obtain ⟨kd, hkd⟩ : ∃ kd, t.kind = kd := ⟨_, rfl⟩
              rw [hkd] at x0 y0
              have es := bytes_t (rfl : X = X)
              have d5 : decide ((k : Int) < (i : Int)) = true := by simp; omega
              have d6 : (k : Int) < (i : Int) := by omega
              clear hcell1 hcell2 hcw ht hu hku htu hX hkd
              go_wp2_with fail
              go_quiet (fail)
              go_wp2_with fail
              go_roundw
              case rel =>
                refine ⟨k + 1, by omega, by go_num, Lib.hid ?_⟩
                obtain ⟨m, e⟩ := HM.out
                exact ⟨_, by rw [e, World.drewN_drewN]⟩
              case measure => simp [intOf]; omega
            · obtain rfl : k = i := by omega
              have d5 : decide ((k : Int) < (k : Int)) = false := by simp
              go_wp2_with fail
              go_ret
              obtain ⟨m, e⟩ := HM.out
              rw [e]
              exact ⟨rfl, (HT5.out).drewN m⟩
end Go.Proofs.YthdoihemjndmlaaDoor
