/- The reference's Lines. -/
import Derived.Test.YtoekaehpcjhhaaaGreatDoorBld
set_option linter.unusedSimpArgs false
set_option linter.unusedVariables false
namespace Go.Proofs.YtoekaehpcjhhaaaGreatDoor
open Go.RowKit

theorem pl_none_of {d : Int} {x y z t f : ByteArray} {ag : List ByteArray} {n : Int} (h : d = 19 ∨ d = 20 ∨ d = 21) : pl d x y z t f ag n = none := by
  rcases h with rfl | rfl | rfl <;> rfl

theorem cat_one (a : ByteArray) : cat [a] = a := by apply bs_inj; rw [bs_cat]; simp
theorem tryT_eq : tryT = ⟨#[116, 114, 121, 32, 123]⟩ := cat_one _
theorem shutT_eq : shutT = ⟨#[125]⟩ := cat_one _
theorem elseT_eq : elseT = ⟨#[125, 32, 101, 108, 115, 101, 32, 123]⟩ := cat_one _
theorem catchT_eq (t x : ByteArray) : catchT t x = ⟨#[125, 32, 99, 97, 116, 99, 104, 32, 40]⟩ ++ t ++ ⟨#[32]⟩ ++ x ++ ⟨#[41, 32, 123]⟩ := by apply bs_inj; unfold catchT; simp only [bs_append, bs_cat, List.flatMap_cons, List.flatMap_nil, List.append_assoc, List.append_nil]
theorem ifT_eq (y z : ByteArray) : ifT y z = ⟨#[105, 102, 32, 40]⟩ ++ y ++ ⟨#[32, 60, 32]⟩ ++ z ++ ⟨#[41, 32, 123]⟩ := by apply bs_inj; unfold ifT; simp only [bs_append, bs_cat, List.flatMap_cons, List.flatMap_nil, List.append_assoc, List.append_nil]
theorem whileT_eq (y z : ByteArray) : whileT y z = ⟨#[119, 104, 105, 108, 101, 32, 40]⟩ ++ y ++ ⟨#[32, 60, 32]⟩ ++ z ++ ⟨#[41, 32, 123]⟩ := by apply bs_inj; unfold whileT; simp only [bs_append, bs_cat, List.flatMap_cons, List.flatMap_nil, List.append_assoc, List.append_nil]
theorem lines_end {w w5 w9 : World} {v : Value} {L : List ByteArray} {rows : List Row} (hb : Bld w5 w9 v L) (t : Turn [] w w5) (hL : L = rows.map ln) : ∃ A' c', Ending.returned v = .returned (.slice A' rows.length c') ∧ Bld w w9 (.slice A' rows.length c') (rows.map ln) := by
  subst hL
  obtain ⟨A', c', hv, _, _⟩ := owns_form hb.1
  rw [List.length_map] at hv
  subst hv
  exact ⟨A', c', rfl, hb.before t⟩
theorem Bld.form {w0 w : World} {v : Value} {L : List ByteArray} (h : Bld w0 w v L) : ∃ A n c, v = .slice A n c := by
  obtain ⟨A', c', hv, _, _⟩ := owns_form h.1
  exact ⟨_, _, _, hv⟩
theorem Bld.cell {w0 w : World} {v : Value} {L : List ByteArray} (h : Bld w0 w v L) {g o : Nat} {u : Value} (hc : w0.cell? ⟨g, o, none⟩ = some u) : w.cell? ⟨g, o, none⟩ = some u := (h.2.2.cell (p := ⟨g, o, none⟩) (cell_lt hc) (by simp)).trans hc

set_option maxHeartbeats 8000000 in
set_option maxRecDepth 100000 in
theorem lines_of (s : St) (hf : FtS s) (hb : ∀ d x y z t f ag n bd ot ln cl, s = .mk d x y z t f ag n bd ot ln cl → RSaidL bd ∧ RSaidL ot ∧ bd.length ≤ 1000000 ∧ ot.length ≤ 1000000 ∧ (rwL 0 bd).length ≤ 10000000 ∧ (rwL 0 ot).length ≤ 10000000) : RSaidS s := by
  obtain ⟨d, x, y, z, t, f, ag, n, bd, ot, lin, cl⟩ := s
  intro cs B w hr hBw hz
  obtain ⟨hB, hO, hlb, hlo, hnb, hno⟩ := hb _ _ _ _ _ _ _ _ _ _ _ _ rfl
  obtain ⟨hn, hsz, ha, hfb, hfo⟩ := hf.parts
  have hokb := rwL_ok 0 bd hfb
  have hoko := rwL_ok 0 ot hfo
  obtain ⟨A1, c1, A2, c2, A3, c3, rfl, k1, k2, k3, r1, r1B, r2, r3⟩ := hr.cells
  have tA := bx w #[.int .i64 d, .string x, .string y, .string z, .string t, .string f, .slice A1 ag.length c1, .int .i64 n, .slice A2 bd.length c2, .slice A3 ot.length c3, .int .i64 lin, .int .i64 cl] 38
  obtain ⟨W, hW⟩ : ∃ W, w.alloc (.cells #[.int .i64 d, .string x, .string y, .string z, .string t, .string f, .slice A1 ag.length c1, .int .i64 n, .slice A2 bd.length c2, .slice A3 ot.length c3, .int .i64 lin, .int .i64 cl] 38) = W := ⟨_, rfl⟩
  have hg : W.heap[w.heap.size]? = some (.cells #[.int .i64 d, .string x, .string y, .string z, .string t, .string f, .slice A1 ag.length c1, .int .i64 n, .slice A2 bd.length c2, .slice A3 ot.length c3, .int .i64 lin, .int .i64 cl] 38 (0, 0)) := by rw [← hW]; exact heap_alloc_new w _
  rw [hW] at tA
  have hgl : w.heap.size < W.heap.size := (Array.getElem?_eq_some_iff.1 hg).1
  have HW := Lib.hid hW
  have HG := Lib.hid hg
  have HT := Lib.hid tA
  have R2 := Lib.hid (r2.turn tA (by simp) bd)
  have R3 := Lib.hid (r3.turn tA (by simp) ot)
  have hBW : B ≤ W.heap.size := by omega
  have HC1 := Lib.hid (one_any d x y z t f ag n A1 A2 A3 c1 bd.length c2 ot.length c3 lin cl W hsz ha (r1.turn' tA) hn)
  have HPS := Lib.hid (pl_sz d x y z t f ag n hsz ha hn)
  have HSZ := Lib.hid hsz
  cases hp : pl d x y z t f ag n with
  | some p =>
    have hpp := HPS.out p (by rw [hp]; rfl)
    have hd : d ≠ 19 ∧ d ≠ 20 ∧ d ≠ 21 := by
      refine ⟨?_, ?_, ?_⟩ <;> (intro e; rw [pl_none_of (by simp [e])] at hp; cases hp)
    have hrow : rw1 0 (.mk d x y z t f ag n bd ot lin cl) = [(0, p)] := by rw [rw1_plain hd.1 hd.2.1 hd.2.2, hp]; rfl
    rw [hrow]
    rw [hp, show (some p).getD (⟨#[]⟩ : ByteArray) = p from rfl] at HC1
    have hbn := bytes_ne (fun e : p = ⟨#[]⟩ => by rw [e] at hpp; exact absurd hpp.1 (by decide))
    clear hpp hrow hp hd HPS hr r1 r2 r3 r1B hz tA hg hW hf hb hB hO hokb hoko hn hsz ha hfb hfo HSZ
    go_enter Tryz.func33, Tryz.ntmps33
    go_wp2_with fail
    rw [HW.out]
    refine HC1.out.mono ?_
    rintro e w1 ⟨rfl, t1⟩
    have HT1 := Lib.hid t1
    clear t1
    go_wp2_with fail
    go_ret
    refine ⟨_, _, rfl, ?_⟩
    have := (Bld.one w1 p).before (HT.out.trans' HT1.out)
    simpa [ln_zero] using this
  | none =>
    rw [hp, show (none : Option ByteArray).getD (⟨#[]⟩ : ByteArray) = ⟨#[]⟩ from rfl] at HC1
    have HPN := Lib.hid hp
    have HA : Hid (∀ W', Turn [] W W' → Calls Tryz.prog 23 #[.slice A2 bd.length c2] W' fun e w' => ∃ A' c', e = .returned (.slice A' (rwL 0 bd).length c') ∧ Bld W' w' (.slice A' (rwL 0 bd).length c') ((rwL 0 bd).map ln)) := Lib.hid (fun W' hT => hB A2 c2 B W' (R2.out.turn hT (by simp) bd) (Nat.le_trans hBW hT.size) (by omega) (by omega))
    have HA2 : Hid (∀ W', Turn [] W W' → Calls Tryz.prog 23 #[.slice A3 ot.length c3] W' fun e w' => ∃ A' c', e = .returned (.slice A' (rwL 0 ot).length c') ∧ Bld W' w' (.slice A' (rwL 0 ot).length c') ((rwL 0 ot).map ln)) := Lib.hid (fun W' hT => hO A3 c3 B W' (R3.out.turn hT (by simp) ot) (Nat.le_trans hBW hT.size) (by omega) (by omega))
    have HFu : Hid (∀ (l : List St) (A : Option Addr) (c : Nat) (W' : World), (∀ r ∈ rwL 0 l, r.2.size ≤ 1200000 ∧ r.1 ≤ 0 + (rwL 0 l).length) → (rwL 0 l).length ≤ 10000000 → Sts W' A ((rwL 0 l).map ln) → Calls Tryz.prog 22 #[.slice A (rwL 0 l).length c] W' fun e w' => ∃ A' c', e = .returned (.slice A' (rwL 0 l).length c') ∧ Bld W' w' (.slice A' (rwL 0 l).length c') ((rwL 1 l).map ln)) := Lib.hid (fun l A c W' hok hle hst => by
      have := further_any A c ((rwL 0 l).map ln) W' hst (by rw [List.length_map]; omega) (by
        intro q hq
        obtain ⟨r, hr, rfl⟩ := List.mem_map.1 hq
        have := hok r hr
        have := ln_sz (k := (rwL 0 l).length) this.1 (by omega)
        omega)
      rw [List.length_map, fur_rows] at this
      exact this)
    have HOB := Lib.hid hokb
    have HOO := Lib.hid hoko
    have HNB := Lib.hid hnb
    have HNO := Lib.hid hno
    have HZ := Lib.hid hz
    obtain ⟨nb, hnb'⟩ : ∃ q, (rwL 0 bd).length = q := ⟨_, rfl⟩
    obtain ⟨no, hno'⟩ : ∃ q, (rwL 0 ot).length = q := ⟨_, rfl⟩
    have HF1 := Lib.hid (fun A c W' h => HFu.out bd A c W' HOB.out HNB.out h)
    have HF2 := Lib.hid (fun A c W' h => HFu.out ot A c W' HOO.out HNO.out h)
    rw [hnb'] at HA HF1 hnb
    rw [hno'] at HA2 HF2 hno
    have HNL := Lib.hid (And.intro hnb' hno')
    clear hp HPS hr r1 r2 r3 r1B hz tA hg hW hf hb hB hO hokb hoko hn hsz ha hfb hfo HFu hnb' hno'
    go_enter Tryz.func33, Tryz.ntmps33
    go_wp2_with fail
    rw [HW.out]
    refine HC1.out.mono ?_
    rintro e w1 ⟨rfl, t1⟩
    have e8 : w1.cell? ⟨w.heap.size, 8, none⟩ = some (.slice A2 bd.length c2) := (t1.cell (p := ⟨w.heap.size, 8, none⟩) hgl (by simp)).trans (cell_of_row W _ 8 _ _ _ HG.out)
    have e9 : w1.cell? ⟨w.heap.size, 9, none⟩ = some (.slice A3 ot.length c3) := (t1.cell (p := ⟨w.heap.size, 9, none⟩) hgl (by simp)).trans (cell_of_row W _ 9 _ _ _ HG.out)
    have hgl1 : w.heap.size < w1.heap.size := Nat.lt_of_lt_of_le hgl t1.size
    have HT1 := Lib.hid t1
    clear t1
    go_wp2_with fail
    go_region_held3 (fun w' => w'.cell? ⟨w.heap.size, 8, none⟩ = some (.slice A2 bd.length c2) ∧ w'.cell? ⟨w.heap.size, 9, none⟩ = some (.slice A3 ot.length c3))
      (first | exact ⟨e8, e9⟩ | exact ⟨i8, i9⟩ | exact ⟨j8, j9⟩ | exact ⟨k8, k9⟩ | exact ⟨l8, l9⟩ | go_keep)
      (first
        | (go_at_call 23; (with_reducible refine (HA.out w1.drew (by exact HT1.out.drew)).mono ?_); rintro e w2 ⟨Aa, ca, rfl, hba⟩
           have i8 : w2.cell? ⟨w.heap.size, 8, none⟩ = some (.slice A2 bd.length c2) := (hba.2.2.cell (p := ⟨w.heap.size, 8, none⟩) hgl1 (by simp)).trans e8
           have i9 : w2.cell? ⟨w.heap.size, 9, none⟩ = some (.slice A3 ot.length c3) := (hba.2.2.cell (p := ⟨w.heap.size, 9, none⟩) hgl1 (by simp)).trans e9
           have hgl2 : w.heap.size < w2.heap.size := Nat.lt_of_lt_of_le hgl1 hba.2.2.size
           have HBa := Lib.hid hba
           have HSa := Lib.hid (OwnS.sts hba.1).2.2
           have HTa := Lib.hid (HT1.out.drew.trans' hba.2.2)
           clear hba)
        | (go_at_call 22; (with_reducible refine (HF1.out Aa ca w2 (by exact HSa.out)).mono ?_); rintro e w3 ⟨Ab, cb, rfl, hbb⟩
           have j8 : w3.cell? ⟨w.heap.size, 8, none⟩ = some (.slice A2 bd.length c2) := (hbb.2.2.cell (p := ⟨w.heap.size, 8, none⟩) hgl2 (by simp)).trans i8
           have j9 : w3.cell? ⟨w.heap.size, 9, none⟩ = some (.slice A3 ot.length c3) := (hbb.2.2.cell (p := ⟨w.heap.size, 9, none⟩) hgl2 (by simp)).trans i9
           have hgl3 : w.heap.size < w3.heap.size := Nat.lt_of_lt_of_le hgl2 hbb.2.2.size
           have HBb := Lib.hid hbb
           have HTb := Lib.hid (HTa.out.trans' hbb.2.2)
           clear hbb)
        | (go_at_call 23; (with_reducible refine (HA2.out w3 (by exact HTb.out)).mono ?_); rintro e w4 ⟨Ac, cc, rfl, hbc⟩
           have k8 : w4.cell? ⟨w.heap.size, 8, none⟩ = some (.slice A2 bd.length c2) := (hbc.2.2.cell (p := ⟨w.heap.size, 8, none⟩) hgl3 (by simp)).trans j8
           have k9 : w4.cell? ⟨w.heap.size, 9, none⟩ = some (.slice A3 ot.length c3) := (hbc.2.2.cell (p := ⟨w.heap.size, 9, none⟩) hgl3 (by simp)).trans j9
           have hgl4 : w.heap.size < w4.heap.size := Nat.lt_of_lt_of_le hgl3 hbc.2.2.size
           have HBc := Lib.hid hbc
           have HSc := Lib.hid (OwnS.sts hbc.1).2.2
           clear hbc)
        | (go_at_call 22; (with_reducible refine (HF2.out Ac cc w4 (by exact HSc.out)).mono ?_); rintro e w5 ⟨Ad, cd, rfl, hbd⟩
           have l8 : w5.cell? ⟨w.heap.size, 8, none⟩ = some (.slice A2 bd.length c2) := (hbd.2.2.cell (p := ⟨w.heap.size, 8, none⟩) hgl4 (by simp)).trans k8
           have l9 : w5.cell? ⟨w.heap.size, 9, none⟩ = some (.slice A3 ot.length c3) := (hbd.2.2.cell (p := ⟨w.heap.size, 9, none⟩) hgl4 (by simp)).trans k9
           have HBd := Lib.hid hbd
           clear hbd)
        | fail)
    have hT5 : Turn [] W w5 := (HTb.out.trans' HBc.out.2.2).trans' HBd.out.2.2
    have HT5 := Lib.hid hT5
    have HSB : Hid (Sts w5 Ab ((rwL 1 bd).map ln) ∧ nb = ((rwL 1 bd).map ln).length) := Lib.hid ⟨((OwnS.sts HBb.out.1).2.2.turn' HBc.out.2.2).turn' HBd.out.2.2, (OwnS.sts HBb.out.1).1⟩
    have HSO : Hid (Sts w5 Ad ((rwL 1 ot).map ln) ∧ no = ((rwL 1 ot).map ln).length) := Lib.hid ⟨(OwnS.sts HBd.out.1).2.2, (OwnS.sts HBd.out.1).1⟩
    have hc5 : ∀ j v, (#[.int .i64 d, .string x, .string y, .string z, .string t, .string f, .slice A1 ag.length c1, .int .i64 n, .slice A2 bd.length c2, .slice A3 ot.length c3, .int .i64 lin, .int .i64 cl] : Array Value)[j]? = some v → w5.cell? ⟨w.heap.size, j, none⟩ = some v := fun j v hv => (hT5.cell (p := ⟨w.heap.size, j, none⟩) hgl (by simp)).trans ((cell_of_row W _ j _ _ _ HG.out).trans hv)
    have m0 := hc5 0 _ rfl
    have m1 := hc5 1 _ rfl
    have m2 := hc5 2 _ rfl
    have m3 := hc5 3 _ rfl
    have m4 := hc5 4 _ rfl
    have m9 := hc5 9 _ rfl
    clear hc5 hT5 e8 e9 i8 i9 j8 j9 k8 k9 l8 l9 HBa HBb HBc HBd HSa HTa HTb HSc HA HA2 HF1 HF2 HC1 hgl2 hgl3 hgl4 hgl1
    obtain ⟨Lb, hLb⟩ : ∃ L, (rwL 1 bd).map ln = L := ⟨_, rfl⟩
    obtain ⟨Lo, hLo⟩ : ∃ L, (rwL 1 ot).map ln = L := ⟨_, rfl⟩
    rw [hLb] at HSB
    rw [hLo] at HSO
    have hlb : Lb.length ≤ 10000000 := by have := HSB.out.2; omega
    have hlo : Lo.length ≤ 10000000 := by have := HSO.out.2; omega
    have HLB := Lib.hid (And.intro hLb hLo)
    obtain ⟨hx, hy, hz, ht, hf⟩ := HSZ.out
    clear hLb hLo
    by_cases h19 : d = 19
    · subst h19
      have d0 := add_run (⟨#[125, 32, 99, 97, 116, 99, 104, 32, 40]⟩) t (by simp only [size_app, sz_lit, List.size_toArray, List.length_cons, List.length_nil]; omega)
      have d1 := add_run (⟨#[125, 32, 99, 97, 116, 99, 104, 32, 40]⟩ ++ t) ⟨#[32]⟩ (by simp only [size_app, sz_lit, List.size_toArray, List.length_cons, List.length_nil]; omega)
      have d2 := add_run (⟨#[125, 32, 99, 97, 116, 99, 104, 32, 40]⟩ ++ t ++ ⟨#[32]⟩) x (by simp only [size_app, sz_lit, List.size_toArray, List.length_cons, List.length_nil]; omega)
      have d3 := add_run (⟨#[125, 32, 99, 97, 116, 99, 104, 32, 40]⟩ ++ t ++ ⟨#[32]⟩ ++ x) ⟨#[41, 32, 123]⟩ (by simp only [size_app, sz_lit, List.size_toArray, List.length_cons, List.length_nil]; omega)
      obtain ⟨C, hC⟩ : ∃ C, (⟨#[125, 32, 99, 97, 116, 99, 104, 32, 40]⟩ ++ t ++ ⟨#[32]⟩ ++ x ++ ⟨#[41, 32, 123]⟩ : ByteArray) = C := ⟨_, rfl⟩
      rw [hC] at d3
      have HC := Lib.hid hC
      clear hC
      clear hx hy hz ht hf
      go_upto_region 10 with (first
        | (at_builtin; refine wpList_bld rfl (.tmp 25) (.tmp 26) rfl w5 _ (.slice (some ⟨w5.heap.size, 0, none⟩) 1 1) [⟨#[116, 114, 121, 32, 123]⟩] Lb Ab nb cb rfl rfl (Bld.one w5 _) (HSB.out.1.turn' (bx w5 _ _)) HSB.out.2 (by simp; omega) ?_
           intro v6 w6 hb6
           obtain ⟨A6, n6, c6, rfl⟩ := hb6.form
           have n1 := hb6.cell m1
           have n4 := hb6.cell m4
           have n9 := hb6.cell m9
           have HB6 := Lib.hid hb6
           clear hb6)
        | fail)
      go_upto_region 17 with (first
        | (at_builtin; refine wpList_bld rfl (.tmp 28) (.tmp 37) rfl w5 _ (.slice A6 n6 c6) ([⟨#[116, 114, 121, 32, 123]⟩] ++ Lb) [C] (some ⟨w6.heap.size, 0, none⟩) 1 1 rfl rfl (HB6.out.turn' (bx w6 _ _)) (sts_new w6 _ _ rfl) rfl (by simp; omega) ?_
           intro v7 w7 hb7
           obtain ⟨A7, n7, c7, rfl⟩ := hb7.form
           have HB7 := Lib.hid hb7
           clear hb7)
        | (at_builtin; refine wpList_bld rfl (.tmp 38) (.tmp 39) rfl w5 w7 (.slice A7 n7 c7) ([⟨#[116, 114, 121, 32, 123]⟩] ++ Lb ++ [C]) Lo Ad no cd rfl rfl HB7.out (HSO.out.1.turn' HB7.out.2.2) HSO.out.2 (by simp; omega) ?_
           intro v8 w8 hb8
           obtain ⟨A8, n8, c8, rfl⟩ := hb8.form
           have HB8 := Lib.hid hb8
           clear hb8)
        | fail)
      go_wp2_with (first
        | (at_builtin; refine wpList_bld rfl (.tmp 76) (.tmp 77) rfl w5 _ (.slice A8 n8 c8) ([⟨#[116, 114, 121, 32, 123]⟩] ++ Lb ++ [C] ++ Lo) [⟨#[125]⟩] (some ⟨w8.heap.size, 0, none⟩) 1 1 rfl rfl (HB8.out.turn' (bx w8 _ _)) (sts_new w8 _ _ rfl) rfl (by simp; omega) ?_
           intro v9 w9 hb9
           obtain ⟨A9, n9, c9, rfl⟩ := hb9.form
           have HB9 := Lib.hid hb9
           clear hb9)
        | fail)
      go_ret
      exact lines_end HB9.out (HT.out.trans' HT5.out) (by
        rw [rw1_try]
        simp only [List.map_append, List.map_cons, List.map_nil, HLB.out.1, HLB.out.2, ln_zero, tryT_eq, shutT_eq, elseT_eq, catchT_eq, ifT_eq, whileT_eq, HC.out])
    by_cases h20 : d = 20
    · subst h20
      have d0 := add_run (⟨#[105, 102, 32, 40]⟩) y (by simp only [size_app, sz_lit, List.size_toArray, List.length_cons, List.length_nil]; omega)
      have d1 := add_run (⟨#[105, 102, 32, 40]⟩ ++ y) ⟨#[32, 60, 32]⟩ (by simp only [size_app, sz_lit, List.size_toArray, List.length_cons, List.length_nil]; omega)
      have d2 := add_run (⟨#[105, 102, 32, 40]⟩ ++ y ++ ⟨#[32, 60, 32]⟩) z (by simp only [size_app, sz_lit, List.size_toArray, List.length_cons, List.length_nil]; omega)
      have d3 := add_run (⟨#[105, 102, 32, 40]⟩ ++ y ++ ⟨#[32, 60, 32]⟩ ++ z) ⟨#[41, 32, 123]⟩ (by simp only [size_app, sz_lit, List.size_toArray, List.length_cons, List.length_nil]; omega)
      obtain ⟨C, hC⟩ : ∃ C, (⟨#[105, 102, 32, 40]⟩ ++ y ++ ⟨#[32, 60, 32]⟩ ++ z ++ ⟨#[41, 32, 123]⟩ : ByteArray) = C := ⟨_, rfl⟩
      rw [hC] at d3
      have HC := Lib.hid hC
      clear hC
      clear hx hy hz ht hf h19
      by_cases hot : ot.length = 0
      · rw [hot] at m9
        go_upto_region 13 with (first
        | (at_builtin; refine wpList_bld rfl (.tmp 51) (.tmp 52) rfl w5 _ (.slice (some ⟨w5.heap.size, 0, none⟩) 1 1) [C] Lb Ab nb cb rfl rfl (Bld.one w5 _) (HSB.out.1.turn' (bx w5 _ _)) HSB.out.2 (by simp; omega) ?_
           intro v6 w6 hb6
           obtain ⟨A6, n6, c6, rfl⟩ := hb6.form
           have n1 := hb6.cell m1
           have n4 := hb6.cell m4
           have n9 := hb6.cell m9
           have HB6 := Lib.hid hb6
           clear hb6)
        | fail)
        go_wp2_with (first
        | (at_builtin; refine wpList_bld rfl (.tmp 76) (.tmp 77) rfl w5 _ (.slice A6 n6 c6) ([C] ++ Lb) [⟨#[125]⟩] (some ⟨w6.heap.size, 0, none⟩) 1 1 rfl rfl (HB6.out.turn' (bx w6 _ _)) (sts_new w6 _ _ rfl) rfl (by simp; omega) ?_
           intro v7 w7 hb7
           obtain ⟨A7, n7, c7, rfl⟩ := hb7.form
           have HB7 := Lib.hid hb7
           clear hb7)
        | fail)
        go_ret
        exact lines_end HB7.out (HT.out.trans' HT5.out) (by
          rw [rw1_if, if_pos hot]
          simp only [List.map_append, List.map_cons, List.map_nil, HLB.out.1, HLB.out.2, ln_zero, tryT_eq, shutT_eq, elseT_eq, catchT_eq, ifT_eq, whileT_eq, HC.out, List.append_nil])
      · have hpos : 0 < ot.length := by omega
        have hposI : (0 : Int) < (ot.length : Int) := by omega
        have HOT := Lib.hid hot
        clear hot
        go_upto_region 13 with (first
        | (at_builtin; refine wpList_bld rfl (.tmp 51) (.tmp 52) rfl w5 _ (.slice (some ⟨w5.heap.size, 0, none⟩) 1 1) [C] Lb Ab nb cb rfl rfl (Bld.one w5 _) (HSB.out.1.turn' (bx w5 _ _)) HSB.out.2 (by simp; omega) ?_
           intro v6 w6 hb6
           obtain ⟨A6, n6, c6, rfl⟩ := hb6.form
           have n1 := hb6.cell m1
           have n4 := hb6.cell m4
           have n9 := hb6.cell m9
           have HB6 := Lib.hid hb6
           clear hb6)
        | fail)
        go_upto_region 17 with (first
        | (at_builtin; refine wpList_bld rfl (.tmp 58) (.tmp 59) rfl w5 _ (.slice A6 n6 c6) ([C] ++ Lb) [⟨#[125, 32, 101, 108, 115, 101, 32, 123]⟩] (some ⟨w6.heap.size, 0, none⟩) 1 1 rfl rfl (HB6.out.turn' (bx w6 _ _)) (sts_new w6 _ _ rfl) rfl (by simp; omega) ?_
           intro v7 w7 hb7
           obtain ⟨A7, n7, c7, rfl⟩ := hb7.form
           have HB7 := Lib.hid hb7
           clear hb7)
        | (at_builtin; refine wpList_bld rfl (.tmp 60) (.tmp 61) rfl w5 w7 (.slice A7 n7 c7) ([C] ++ Lb ++ [⟨#[125, 32, 101, 108, 115, 101, 32, 123]⟩]) Lo Ad no cd rfl rfl HB7.out (HSO.out.1.turn' HB7.out.2.2) HSO.out.2 (by simp; omega) ?_
           intro v8 w8 hb8
           obtain ⟨A8, n8, c8, rfl⟩ := hb8.form
           have HB8 := Lib.hid hb8
           clear hb8)
        | fail)
        go_wp2_with (first
        | (at_builtin; refine wpList_bld rfl (.tmp 76) (.tmp 77) rfl w5 _ (.slice A8 n8 c8) ([C] ++ Lb ++ [⟨#[125, 32, 101, 108, 115, 101, 32, 123]⟩] ++ Lo) [⟨#[125]⟩] (some ⟨w8.heap.size, 0, none⟩) 1 1 rfl rfl (HB8.out.turn' (bx w8 _ _)) (sts_new w8 _ _ rfl) rfl (by simp; omega) ?_
           intro v9 w9 hb9
           obtain ⟨A9, n9, c9, rfl⟩ := hb9.form
           have HB9 := Lib.hid hb9
           clear hb9)
        | fail)
        go_ret
        exact lines_end HB9.out (HT.out.trans' HT5.out) (by
          rw [rw1_if, if_neg HOT.out]
          simp only [List.map_append, List.map_cons, List.map_nil, HLB.out.1, HLB.out.2, ln_zero, tryT_eq, shutT_eq, elseT_eq, catchT_eq, ifT_eq, whileT_eq, HC.out, List.append_assoc])
    by_cases h21 : d = 21
    · subst h21
      have d0 := add_run (⟨#[119, 104, 105, 108, 101, 32, 40]⟩) y (by simp only [size_app, sz_lit, List.size_toArray, List.length_cons, List.length_nil]; omega)
      have d1 := add_run (⟨#[119, 104, 105, 108, 101, 32, 40]⟩ ++ y) ⟨#[32, 60, 32]⟩ (by simp only [size_app, sz_lit, List.size_toArray, List.length_cons, List.length_nil]; omega)
      have d2 := add_run (⟨#[119, 104, 105, 108, 101, 32, 40]⟩ ++ y ++ ⟨#[32, 60, 32]⟩) z (by simp only [size_app, sz_lit, List.size_toArray, List.length_cons, List.length_nil]; omega)
      have d3 := add_run (⟨#[119, 104, 105, 108, 101, 32, 40]⟩ ++ y ++ ⟨#[32, 60, 32]⟩ ++ z) ⟨#[41, 32, 123]⟩ (by simp only [size_app, sz_lit, List.size_toArray, List.length_cons, List.length_nil]; omega)
      obtain ⟨C, hC⟩ : ∃ C, (⟨#[119, 104, 105, 108, 101, 32, 40]⟩ ++ y ++ ⟨#[32, 60, 32]⟩ ++ z ++ ⟨#[41, 32, 123]⟩ : ByteArray) = C := ⟨_, rfl⟩
      rw [hC] at d3
      have HC := Lib.hid hC
      clear hC
      clear hx hy hz ht hf h19 h20
      go_upto_region 17 with (first
        | (at_builtin; refine wpList_bld rfl (.tmp 73) (.tmp 74) rfl w5 _ (.slice (some ⟨w5.heap.size, 0, none⟩) 1 1) [C] Lb Ab nb cb rfl rfl (Bld.one w5 _) (HSB.out.1.turn' (bx w5 _ _)) HSB.out.2 (by simp; omega) ?_
           intro v6 w6 hb6
           obtain ⟨A6, n6, c6, rfl⟩ := hb6.form
           have n1 := hb6.cell m1
           have n4 := hb6.cell m4
           have n9 := hb6.cell m9
           have HB6 := Lib.hid hb6
           clear hb6)
        | fail)
      go_wp2_with (first
        | (at_builtin; refine wpList_bld rfl (.tmp 76) (.tmp 77) rfl w5 _ (.slice A6 n6 c6) ([C] ++ Lb) [⟨#[125]⟩] (some ⟨w6.heap.size, 0, none⟩) 1 1 rfl rfl (HB6.out.turn' (bx w6 _ _)) (sts_new w6 _ _ rfl) rfl (by simp; omega) ?_
           intro v7 w7 hb7
           obtain ⟨A7, n7, c7, rfl⟩ := hb7.form
           have HB7 := Lib.hid hb7
           clear hb7)
        | fail)
      go_ret
      exact lines_end HB7.out (HT.out.trans' HT5.out) (by
        rw [rw1_while]
        simp only [List.map_append, List.map_cons, List.map_nil, HLB.out.1, HLB.out.2, ln_zero, tryT_eq, shutT_eq, elseT_eq, catchT_eq, ifT_eq, whileT_eq, HC.out])
    have q19 : ¬ d = 19 := h19
    have q20 : ¬ d = 20 := h20
    have q21 : ¬ d = 21 := h21
    clear h19 h20 h21 hx hy hz ht hf
    go_wp2_with fail
    go_ret
    exact lines_end (Bld.nil w5) (HT.out.trans' HT5.out) (by rw [rw1_plain q19 q20 q21, HPN.out]; rfl)
end Go.Proofs.YtoekaehpcjhhaaaGreatDoor
