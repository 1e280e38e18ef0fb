/- vars, block. -/
import Derived.Test.YtoekaehpcjhhaaaGreatDoorPdt
set_option linter.unusedSimpArgs false
set_option linter.unusedVariables false
namespace Go.Proofs.YtoekaehpcjhhaaaGreatDoor
open Go.RowKit

theorem varR_take {D : Nat} {k : ByteArray} {l : List Vr} {j : Nat} {v : Vr} (h : l[j]? = some v) : varR D k (l.take (j + 1)) = varR D k (l.take j) ++ [(D, cat [k, sp, v.1, sp, v.2, ⟨#[59]⟩])] := by
  unfold varR
  rw [take_snoc h, List.map_append]
  rfl

set_option maxHeartbeats 4000000 in
set_option maxRecDepth 100000 in
theorem vars_any (T b : Nat) (F : List Nat) (R : List Row) (D : Nat) (k : ByteArray) (A : Option Addr) (c B : Nat) (l : List Vr) (w : World) (h : Sh T w b F R D) (hr : RdV B w A l) (hF : ∀ g ∈ F, B ≤ g) (hB : B ≤ w.heap.size) (hf : FtV l) (hk : k.size ≤ 100) (hz : R.length ≤ 900000000) :
    Calls Tryz.prog 38 #[.pointer (some ⟨b, 0, none⟩), .string k, .slice A l.length c] w fun e w' => e = .returned (.tuple #[]) ∧ Wr T w b F (R ++ varR D k l) D w' := by
  have H0 : Hid (Wr T w b F (R ++ varR D k (l.take 0)) D w) := Lib.hid ⟨F, by simpa [varR] using h, Foot.refl _ _, Turn.refl _ _⟩
  have HR := Lib.hid hr
  have HF := Lib.hid hF
  have HV := Lib.hid hf.2
  obtain ⟨n, hn⟩ : ∃ n, l.length = n := ⟨_, rfl⟩
  have HN := Lib.hid hn
  have hn8 : n ≤ 8 := by rw [← hn]; exact hf.1
  rw [hn]
  clear h hr hF hf hn
  go_enter Tryz.func38, Tryz.ntmps38
  go_wp2_with fail
  go_loopw [10] (fun i wr => ∃ j : Nat, j ≤ n ∧ i = .int .i64 (j : Int) ∧ Hid (Wr T w b F (R ++ varR D k (l.take j)) D wr)) (fun i _ => n - (intOf i).toNat)
  case atStart => exact ⟨0, Nat.zero_le _, rfl, H0⟩
  case round =>
    obtain ⟨j, hj, rfl, HW⟩ := hrel
    by_cases hlt : j < n
    · obtain ⟨F1, hS1, hF1, hT1⟩ := HW.out
      obtain ⟨v, hv⟩ := at_lt (l := l) (k := j) (by rw [HN.out]; exact hlt)
      obtain ⟨g, off, p, q, rfl, hgB, hgl, e0, e1, e2, e3⟩ := (HR.out.turn hT1 HF.out) j v hv
      have hvs := HV.out v (List.mem_of_getElem? hv)
      have HX := Lib.hid (varR_take (D := D) (k := k) hv)
      obtain ⟨t, x⟩ := v
      simp only at e0 e1 hvs
      have tA := bx wr #[.string t, .string x, .int .i64 p, .int .i64 q] 58
      obtain ⟨W, hW⟩ : ∃ W, wr.alloc (.cells #[.string t, .string x, .int .i64 p, .int .i64 q] 58) = W := ⟨_, rfl⟩
      have hg' : W.heap[wr.heap.size]? = some (.cells #[.string t, .string x, .int .i64 p, .int .i64 q] 58 (0, 0)) := by rw [← hW]; exact heap_alloc_new wr _
      rw [hW] at tA
      have m0 : W.cell? ⟨wr.heap.size, 0, none⟩ = some (.string t) := cell_of_row W _ 0 _ _ _ hg'
      have m1 : W.cell? ⟨wr.heap.size, 1, none⟩ = some (.string x) := cell_of_row W _ 1 _ _ _ hg'
      have hWl : wr.heap.size < W.heap.size := (Array.getElem?_eq_some_iff.1 hg').1
      have hlen : (R ++ varR D k (l.take j)).length ≤ 1000000000 := by rw [List.length_append, varR_len, List.length_take, HN.out]; omega
      have HP : Hid (∀ W2, Turn [] (W.alloc (.cells #[.string k, .string ⟨#[32]⟩, .string t, .string ⟨#[32]⟩, .string x, .string ⟨#[59]⟩] 9)) W2 → Calls Tryz.prog 56 #[.pointer (some ⟨b, 0, none⟩), .slice (some ⟨W.heap.size, 0, none⟩) 6 6] W2 fun e w' => e = .returned (.tuple #[]) ∧ Wr T W2 b F1 (R ++ varR D k (l.take j) ++ [(D, cat [k, sp, t, sp, x, ⟨#[59]⟩])]) D w') := Lib.hid (fun W2 ht => by
        have ht2 := (tA.trans' (bx W _ _)).trans' ht
        exact put_any T b F1 _ D (some ⟨W.heap.size, 0, none⟩) 6 [k, sp, t, sp, x, ⟨#[59]⟩] W2 (hS1.turn' ht2) ((sts_new W [k, sp, t, sp, x, ⟨#[59]⟩] _ rfl).turn' ht) (by simp) (by simp) (by rw [size_cat]; simp [sz_lit, sp]; omega) hlen)
      have HT1 := Lib.hid (And.intro hF1 hT1)
      have HFl := Lib.hid hS1.lt.2.2
      have HTA := Lib.hid tA
      have HWW := Lib.hid hW
      have hbl := hS1.lt.1
      clear hS1 hF1 hT1 tA hW hg' hvs hv hlen HW
      go_upto_region 3 with fail
      rw [HWW.out]
      go_region_held3 (fun w' => w'.cell? ⟨wr.heap.size, 0, none⟩ = some (.string t) ∧ w'.cell? ⟨wr.heap.size, 1, none⟩ = some (.string x))
        (first | exact ⟨m0, m1⟩ | exact ⟨p0, p1⟩ | go_keep)
        (first
          | (go_at_call 56; (with_reducible refine (HP.out _ (by exact (Turn.refl [] _).drew)).mono ?_); rintro e w2 ⟨rfl, hw2⟩
             have hnF : wr.heap.size ∉ F1 := fun hg => by have := HFl.out _ hg; omega
             have HS2 := Lib.hid hw2
             have hsz2 : wr.heap.size < (W.alloc (.cells #[.string k, .string ⟨#[32]⟩, .string t, .string ⟨#[32]⟩, .string x, .string ⟨#[59]⟩] 9)).drew.heap.size := Nat.lt_of_lt_of_le hWl (bx W _ _).drew.size
             have p0 : w2.cell? ⟨wr.heap.size, 0, none⟩ = some (.string t) := (hw2.cell hsz2 hnF).trans (((bx W _ _).drew.cell (p := ⟨wr.heap.size, 0, none⟩) hWl (by simp)).trans m0)
             have p1 : w2.cell? ⟨wr.heap.size, 1, none⟩ = some (.string x) := (hw2.cell hsz2 hnF).trans (((bx W _ _).drew.cell (p := ⟨wr.heap.size, 1, none⟩) hWl (by simp)).trans m1)
             clear hw2)
          | fail)
      go_wp2_with fail
      go_roundw
      case rel =>
        refine ⟨j + 1, by omega, by go_num, Lib.hid ?_⟩
        rw [HX.out, ← List.append_assoc]
        exact Wr.trans HT1.out.1 HT1.out.2 (Wr.after ((HTA.out.trans' (bx W _ _)).drew) HS2.out)
      case measure => simp [intOf]; omega
    · go_wp2_with fail
      go_end0
      obtain rfl : j = n := by omega
      have := HW.out
      rw [List.take_of_length_le (by rw [HN.out]; exact Nat.le_refl _)] at this
      exact ⟨rfl, this⟩

/-- Parts of a method's cells. -/
theorem RdM.parts {B : Nat} {w : World} {cs : List Value} {m : Mt} (h : RdM B w cs m) : ∃ A1 c1 A2 c2 A3 c3 p q, cs = [.string m.ret, .string m.name, .bool m.stat, .bool m.bare, .slice A1 m.ps.length c1, .slice A2 m.ls.length c2, .slice A3 m.bd.length c3, .int .i64 p, .int .i64 q] ∧ RdV B w A1 m.ps ∧ RdV B w A2 m.ls ∧ RdL B w A3 0 m.bd := h

theorem enters_block1 : ∀ (args : Array Value) (W : World), (callFunc 37 args).run Tryz.prog W = .ok (.enter 37 args) W := enters_of Tryz.func37 (by kernel_rfl) rfl

set_option maxHeartbeats 4000000 in
set_option maxRecDepth 100000 in
theorem block1_any (T b : Nat) (F : List Nat) (R : List Row) (D : Nat) (g1 g2 B : Nat) (A2 A3 : Option Addr) (c2 c3 : Nat) (m : Mt) (w : World) (h : Sh T w b F R D) (hF : ∀ g ∈ F, B ≤ g) (hE : Env B w) (hm : FtM m) (h2 : RdV B w A2 m.ls) (h3 : RdL B w A3 0 m.bd) (hz : D + R.length ≤ 100000000)
    (hg1 : w.cell? ⟨g1, 0, none⟩ = some (.pointer (some ⟨b, 0, none⟩))) (hg2 : w.cell? ⟨g2, 5, none⟩ = some (.slice A2 m.ls.length c2)) (hg3 : w.cell? ⟨g2, 6, none⟩ = some (.slice A3 m.bd.length c3)) (n1 : g1 ∉ F) (n2 : g2 ∉ F) :
    Calls Tryz.prog 37 #[.pointer (some ⟨g1, 0, none⟩), .pointer (some ⟨g2, 0, none⟩)] w fun e w' => e = .returned (.tuple #[]) ∧ Wr T w b F (R ++ inR D m) D w' := by
  have HV := Lib.hid (vars_any T b F R D varK A2 c2 B m.ls w h h2 hF hE.lt hm.2.2.2.1 (by decide) (by omega))
  have HSt : Hid (∀ w1 F1, Sh T w1 b F1 (R ++ varR D varK m.ls) D → Foot w.heap.size F F1 → Turn F w w1 → Calls Tryz.prog 31 #[.pointer (some ⟨b, 0, none⟩), .slice A3 m.bd.length c3] w1 fun e w' => e = .returned (.tuple #[]) ∧ Wr T w1 b F1 (R ++ varR D varK m.ls ++ rwL D m.bd) D w') := Lib.hid (fun w1 F1 hs hf ht => by
    have hb := hm.2.2.2.2.2.2.2 D
    have hl := hm.2.2.2.1.1
    exact stmts_any m.bd hm.2.2.2.2.1 hm.2.2.2.2.2.1 T b F1 _ D A3 c3 B w1 hs (h3.turn ht hF _) (Foot.above hf hF hE.lt) (hE.turn ht hF) (by rw [List.length_append, varR_len]; omega) (by have := hm.2.2.2.2.2.2.1; omega))
  have l1 := cell_lt hg1
  have l2 := cell_lt hg2
  obtain ⟨nl, hnl⟩ : ∃ n, m.ls.length = n := ⟨_, rfl⟩
  obtain ⟨nb, hnb⟩ : ∃ n, m.bd.length = n := ⟨_, rfl⟩
  rw [hnl] at HV hg2
  rw [hnb] at HSt hg3
  have HIn : Hid (R ++ varR D varK m.ls ++ rwL D m.bd = R ++ inR D m) := Lib.hid (by rw [List.append_assoc]; rfl)
  clear h hF hE hm h2 h3 hz hnl hnb
  unfold varK at HV
  go_enter Tryz.func37, Tryz.ntmps37
  go_wp2_with fail
  refine HV.out.mono ?_
  rintro e w1 ⟨rfl, hW1⟩
  have k1 : w1.cell? ⟨g1, 0, none⟩ = some (.pointer (some ⟨b, 0, none⟩)) := (hW1.cell l1 n1).trans hg1
  have k3 : w1.cell? ⟨g2, 6, none⟩ = some (.slice A3 nb c3) := (hW1.cell l2 n2).trans hg3
  obtain ⟨F1, hs1, hf1, ht1⟩ := hW1
  have HC := Lib.hid (HSt.out w1.drew F1 (hs1.turn' (Turn.refl [] w1).drew) hf1 ht1.drew)
  have HF1 := Lib.hid (And.intro hf1 ht1)
  clear hs1 hf1 ht1 hg1 hg2 hg3 HSt
  go_wp2_with fail
  have n1' : g1 ∉ F1 := fun hg => by rcases HF1.out.1 g1 hg with h | h; exact n1 h; omega
  have n2' : g2 ∉ F1 := fun hg => by rcases HF1.out.1 g2 hg with h | h; exact n2 h; omega
  have l1' : g1 < w1.heap.size := Nat.lt_of_lt_of_le l1 HF1.out.2.size
  have l2' : g2 < w1.heap.size := Nat.lt_of_lt_of_le l2 HF1.out.2.size
  go_region_held3 (fun w' => w'.cell? ⟨g1, 0, none⟩ = some (.pointer (some ⟨b, 0, none⟩)) ∧ w'.cell? ⟨g2, 6, none⟩ = some (.slice A3 nb c3))
    (first | exact ⟨k1, k3⟩ | exact ⟨q1, q3⟩ | go_keep)
    (first
      | (go_at_call 31; (with_reducible refine HC.out.mono ?_); rintro e w2 ⟨rfl, hw2⟩
         have q1 : w2.cell? ⟨g1, 0, none⟩ = some (.pointer (some ⟨b, 0, none⟩)) := (hw2.cell (by exact l1') n1').trans k1
         have q3 : w2.cell? ⟨g2, 6, none⟩ = some (.slice A3 nb c3) := (hw2.cell (by exact l2') n2').trans k3
         have HW2 := Lib.hid hw2
         clear hw2)
      | fail)
  go_wp2_with fail
  go_end0
  refine ⟨rfl, ?_⟩
  rw [← HIn.out]
  exact Wr.trans HF1.out.1 HF1.out.2 (Wr.after ((Turn.refl [] w1).drew) HW2.out)

set_option maxHeartbeats 4000000 in
set_option maxRecDepth 100000 in
theorem block_any (T b : Nat) (F : List Nat) (R : List Row) (D : Nat) (B : Nat) (cs : List Value) (m : Mt) (A : Option Addr) (c : Nat) (xs : List ByteArray) (w : World) (h : Sh T w b F R D) (hF : ∀ g ∈ F, B ≤ g) (hE : Env B w) (hm : FtM m) (hr : RdM B w cs m) (hx : Sts w A xs) (hc : xs.length ≤ c) (hn : xs.length ≤ 1000) (hxl : (cat xs).size ≤ 1000000000) (hz : D + R.length ≤ 90000000) :
    Calls Tryz.prog 25 #[.pointer (some ⟨b, 0, none⟩), .agg cs.toArray, .slice A xs.length c] w fun e w' => e = .returned (.tuple #[]) ∧ Wr T w b F (R ++ blkR D (cat xs) m) D w' := by
  obtain ⟨A1, c1, A2, c2, A3, c3, p, q, rfl, r1, r2, r3⟩ := hr
  have tA : Turn [] w ((w.alloc (.cells #[.pointer (some ⟨b, 0, none⟩)] 62)).alloc (.cells #[.string m.ret, .string m.name, .bool m.stat, .bool m.bare, .slice A1 m.ps.length c1, .slice A2 m.ls.length c2, .slice A3 m.bd.length c3, .int .i64 p, .int .i64 q] 28)) := ((Turn.refl [] w).alloc _).alloc _
  obtain ⟨W, hW⟩ : ∃ W, (w.alloc (.cells #[.pointer (some ⟨b, 0, none⟩)] 62)).alloc (.cells #[.string m.ret, .string m.name, .bool m.stat, .bool m.bare, .slice A1 m.ps.length c1, .slice A2 m.ls.length c2, .slice A3 m.bd.length c3, .int .i64 p, .int .i64 q] 28) = W := ⟨_, rfl⟩
  have hg1 : W.heap[w.heap.size]? = some (.cells #[.pointer (some ⟨b, 0, none⟩)] 62 (0, 0)) := by
    rw [← hW]
    exact ((Turn.refl [] _).alloc _).heap (heap_alloc_new w _) (by simp)
  have hg2 : W.heap[w.heap.size + 1]? = some (.cells #[.string m.ret, .string m.name, .bool m.stat, .bool m.bare, .slice A1 m.ps.length c1, .slice A2 m.ls.length c2, .slice A3 m.bd.length c3, .int .i64 p, .int .i64 q] 28 (0, 0)) := by
    rw [← hW]
    have := heap_alloc_new (w.alloc (.cells #[.pointer (some ⟨b, 0, none⟩)] 62)) (.cells #[.string m.ret, .string m.name, .bool m.stat, .bool m.bare, .slice A1 m.ps.length c1, .slice A2 m.ls.length c2, .slice A3 m.bd.length c3, .int .i64 p, .int .i64 q] 28)
    rwa [World.size_alloc] at this
  have hsz : W.heap.size = w.heap.size + 2 := by rw [← hW]; simp
  rw [hW] at tA
  have hlt := h.lt
  have hn1 : ∀ g, w.heap.size ≤ g → g < w.heap.size + 2 → g ∉ F := fun g h1 h2 hg => by have := hlt.2.2 g hg; omega
  have hb0 : W.cell? ⟨w.heap.size, 0, none⟩ = some (.pointer (some ⟨b, 0, none⟩)) := cell_of_row W _ 0 _ _ _ hg1
  have HO := Lib.hid (open_any T b F R D 37 [.pointer (some ⟨w.heap.size, 0, none⟩), .pointer (some ⟨w.heap.size + 1, 0, none⟩)] A c xs (inR (D + 1) m) W (h.turn' tA) (hx.turn' tA) hc (by omega) (by omega) (by omega) (by omega) enters_block1 (by
    intro w1 F1 hS hFo hT
    have hF1 : ∀ g ∈ F1, B ≤ g := Foot.above hFo hF (by have := hE.lt; have := tA.size; omega)
    have hTB : Turn F w w1 := (tA.more (by simp)).trans hT (fun g hg => .inl hg)
    have hnF1 : ∀ g, w.heap.size ≤ g → g < w.heap.size + 2 → g ∉ F1 := fun g h1 h2 hg => by
      rcases hFo g hg with h3 | h3
      · exact hn1 g h1 h2 h3
      · omega
    exact block1_any T b F1 _ (D + 1) w.heap.size (w.heap.size + 1) B A2 A3 c2 c3 m w1 hS hF1 (hE.turn hTB hF) hm (r2.turn hTB hF) (r3.turn hTB hF _) (by simp; omega)
      (cell_of_row w1 _ 0 _ _ _ (hT.heap hg1 (hn1 _ (Nat.le_refl _) (by omega)))) (cell_of_row w1 _ 5 _ _ _ (hT.heap hg2 (hn1 _ (by omega) (by omega)))) (cell_of_row w1 _ 6 _ _ _ (hT.heap hg2 (hn1 _ (by omega) (by omega)))) (hnF1 _ (Nat.le_refl _) (by omega)) (hnF1 _ (by omega) (by omega))))
  have hlin := inR_len (D + 1) hm
  have HZ : Hid ((R ++ [(D, cat xs)] ++ inR (D + 1) m).length ≤ 1000000000) := Lib.hid (by simp; omega)
  have HT := Lib.hid tA
  have HW := Lib.hid hW
  have hmf := mf
  have hbl := hlt.1
  have HB : Hid (R ++ [(D, cat xs)] ++ inR (D + 1) m ++ [(D, shutT)] = R ++ blkR D (cat xs) m) := Lib.hid (by unfold blkR; simp only [List.append_assoc])
  have hgF : w.heap.size ∉ F := hn1 _ (Nat.le_refl _) (by omega)
  have hgl : w.heap.size < W.heap.size := by omega
  obtain ⟨n, hnn⟩ : ∃ n, xs.length = n := ⟨_, rfl⟩
  rw [hnn] at HO ⊢
  clear h hF hE hm hx hc hn hxl hz hg1 hg2 tA hW hnn hsz hlt r1 r2 r3 hn1 hlin
  go_enter Tryz.func25, Tryz.ntmps25
  go_wp2_with fail
  rw [HW.out]
  refine HO.out.mono ?_
  rintro e w1 ⟨rfl, hW1⟩
  have k1 : w1.cell? ⟨w.heap.size, 0, none⟩ = some (.pointer (some ⟨b, 0, none⟩)) := (hW1.cell hgl hgF).trans hb0
  obtain ⟨F1, hs1, hf1, ht1⟩ := hW1
  have HC := Lib.hid (shut_any T b F1 _ D w1 hs1 HZ.out)
  have HF1 := Lib.hid (And.intro hf1 ht1)
  clear hs1 hf1 ht1 hb0
  go_wp2_with fail
  refine HC.out.mono ?_
  rintro e w2 ⟨rfl, hW2⟩
  have HW2 := Lib.hid hW2
  clear hW2
  go_wp2_with fail
  go_end0
  refine ⟨rfl, ?_⟩
  rw [← HB.out]
  exact Wr.after HT.out (Wr.trans HF1.out.1 HF1.out.2 HW2.out)
end Go.Proofs.YtoekaehpcjhhaaaGreatDoor
