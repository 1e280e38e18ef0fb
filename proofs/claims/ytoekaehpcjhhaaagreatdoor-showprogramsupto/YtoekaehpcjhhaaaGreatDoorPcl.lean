/- What stands in a class's braces. -/
import Derived.Test.YtoekaehpcjhhaaaGreatDoorPms
set_option linter.unusedSimpArgs false
set_option linter.unusedVariables false
namespace Go.Proofs.YtoekaehpcjhhaaaGreatDoor
open Go.RowKit

theorem enters_face1 : ∀ (args : Array Value) (W : World), (callFunc 52 args).run Tryz.prog W = .ok (.enter 52 args) W := enters_of Tryz.func52 (by kernel_rfl) rfl
theorem enters_class1 : ∀ (args : Array Value) (W : World), (callFunc 55 args).run Tryz.prog W = .ok (.enter 55 args) W := enters_of Tryz.func55 (by kernel_rfl) rfl
theorem Foot.notin {n g : Nat} {F F1 : List Nat} (h : Foot n F F1) (hg : g < n) (hF : g ∉ F) : g ∉ F1 := fun hm => by
  rcases h g hm with h1 | h1
  · exact hF h1
  · omega

set_option maxHeartbeats 2000000 in
theorem face1_any (T b : Nat) (F : List Nat) (R : List Row) (D : Nat) (g1 g2 B : Nat) (A6 : Option Addr) (c6 : Nat) (l : List Mt) (w : World) (h : Sh T w b F R D) (hF : ∀ g ∈ F, B ≤ g) (hE : Env B w) (hl : l.length ≤ 5 ∧ ∀ m ∈ l, FtM m) (r6 : RdMs B w A6 l) (hz : D + R.length ≤ 80000000)
    (hg1 : w.cell? ⟨g1, 0, none⟩ = some (.pointer (some ⟨b, 0, none⟩))) (hg6 : w.cell? ⟨g2, 6, none⟩ = some (.slice A6 l.length c6)) :
    Calls Tryz.prog 52 #[.pointer (some ⟨g1, 0, none⟩), .pointer (some ⟨g2, 0, none⟩)] w fun e w' => e = .returned (.tuple #[]) ∧ Wr T w b F (R ++ metsR D l) D w' := by
  have HC := Lib.hid (methods_any T b F R D A6 c6 B l w h r6 hF hE hl hz)
  obtain ⟨n, hn⟩ : ∃ n, l.length = n := ⟨_, rfl⟩
  rw [hn] at HC hg6
  clear h hF hE hl r6 hz hn
  go_enter Tryz.func52, Tryz.ntmps52
  go_wp2_with fail
  refine HC.out.mono ?_
  rintro e w1 ⟨rfl, hW⟩
  have HW := Lib.hid hW
  clear hW
  go_wp2_with fail
  go_end0
  exact ⟨rfl, HW.out⟩

set_option maxHeartbeats 8000000 in
set_option maxRecDepth 100000 in
theorem class1_any (T b : Nat) (F : List Nat) (R : List Row) (D : Nat) (g1 g2 B : Nat) (A4 A5 A6 : Option Addr) (c4 c5 c6 : Nat) (I : Option Addr) (c : Cl) (w : World) (h : Sh T w b F R D) (hF : ∀ g ∈ F, B ≤ g) (hE : Env B w) (hc : FtC c) (r4 : RdV B w A4 c.fs) (r5 : RdV B w A5 c.ss) (r6 : RdMs B w A6 c.ms) (r7 : RdI B w I c.init) (hz : D + R.length ≤ 70000000)
    (hg1 : w.cell? ⟨g1, 0, none⟩ = some (.pointer (some ⟨b, 0, none⟩))) (hg4 : w.cell? ⟨g2, 4, none⟩ = some (.slice A4 c.fs.length c4)) (hg5 : w.cell? ⟨g2, 5, none⟩ = some (.slice A5 c.ss.length c5)) (hg6 : w.cell? ⟨g2, 6, none⟩ = some (.slice A6 c.ms.length c6)) (hg7 : w.cell? ⟨g2, 7, none⟩ = some (.pointer I)) (n1 : g1 ∉ F) (n2 : g2 ∉ F) :
    Calls Tryz.prog 55 #[.pointer (some ⟨g1, 0, none⟩), .pointer (some ⟨g2, 0, none⟩)] w fun e w' => e = .returned (.tuple #[]) ∧ Wr T w b F (R ++ bodyR D c) D w' := by
  have HV := Lib.hid (vars_any T b F R D fieldK A4 c4 B c.fs w h r4 hF hE.lt hc.fs (by decide) (by omega))
  have hl4 := hc.fs.1
  have hl5 := hc.ss.1
  have HV2 : Hid (∀ w1 F1, Sh T w1 b F1 (R ++ varR D fieldK c.fs) D → Foot w.heap.size F F1 → Turn F w w1 → Calls Tryz.prog 38 #[.pointer (some ⟨b, 0, none⟩), .string staticK, .slice A5 c.ss.length c5] w1 fun e w' => e = .returned (.tuple #[]) ∧ Wr T w1 b F1 (R ++ varR D fieldK c.fs ++ varR D staticK c.ss) D w') := Lib.hid (fun w1 F1 hs hf ht =>
    vars_any T b F1 _ D staticK A5 c5 B c.ss w1 hs (r5.turn ht hF) (Foot.above hf hF hE.lt) (Nat.le_trans hE.lt ht.size) hc.ss (by decide) (by rw [List.length_append, varR_len]; omega))
  have HM : Hid (∀ w1 F1 (Q : List Row), Sh T w1 b F1 Q D → Q.length ≤ R.length + 2000000 → Foot w.heap.size F F1 → Turn F w w1 → Calls Tryz.prog 53 #[.pointer (some ⟨b, 0, none⟩), .slice A6 c.ms.length c6] w1 fun e w' => e = .returned (.tuple #[]) ∧ Wr T w1 b F1 (Q ++ metsR D c.ms) D w') := Lib.hid (fun w1 F1 Q hs hq hf ht =>
    methods_any T b F1 Q D A6 c6 B c.ms w1 hs (r6.turn ht hF) (Foot.above hf hF hE.lt) (hE.turn ht hF) hc.ms (by omega))
  have l1 := cell_lt hg1
  have l2 := cell_lt hg4
  obtain ⟨n4, hn4⟩ : ∃ n, c.fs.length = n := ⟨_, rfl⟩
  obtain ⟨n5, hn5⟩ : ∃ n, c.ss.length = n := ⟨_, rfl⟩
  obtain ⟨n6, hn6⟩ : ∃ n, c.ms.length = n := ⟨_, rfl⟩
  rw [hn4] at HV hg4 hl4
  rw [hn5] at HV2 hg5 hl5
  rw [hn6] at HM hg6
  have HL : Hid ((R ++ varR D fieldK c.fs ++ varR D staticK c.ss).length ≤ R.length + 16) := Lib.hid (by rw [List.length_append, List.length_append, varR_len, varR_len, hn4, hn5]; omega)
  have HBo : Hid (R ++ varR D fieldK c.fs ++ varR D staticK c.ss ++ initR D c.init ++ metsR D c.ms = R ++ bodyR D c) := Lib.hid (by unfold bodyR; simp only [List.append_assoc])
  cases hin : c.init with
  | none =>
    rw [hin] at r7 HBo
    have hI : I = none := r7
    subst hI
    clear h hF hE hc r4 r5 r6 r7 hz hn4 hn5 hn6 hin
    unfold fieldK at HV
    unfold staticK at HV2
    go_enter Tryz.func55, Tryz.ntmps55
    go_wp2_with fail
    refine HV.out.mono ?_
    rintro e w1 ⟨rfl, hW1⟩
    have i1 : w1.cell? ⟨g1, 0, none⟩ = some (.pointer (some ⟨b, 0, none⟩)) := (hW1.cell l1 n1).trans hg1
    have i5 : w1.cell? ⟨g2, 5, none⟩ = some (.slice A5 n5 c5) := (hW1.cell l2 n2).trans hg5
    have i6 : w1.cell? ⟨g2, 6, none⟩ = some (.slice A6 n6 c6) := (hW1.cell l2 n2).trans hg6
    have i7 : w1.cell? ⟨g2, 7, none⟩ = some (.pointer none) := (hW1.cell l2 n2).trans hg7
    obtain ⟨F1, hs1, hf1, ht1⟩ := hW1
    have HC := Lib.hid (HV2.out w1 F1 hs1 hf1 ht1)
    have HF1 := Lib.hid (And.intro hf1 ht1)
    have m1 := Foot.notin hf1 l1 n1
    have m2 := Foot.notin hf1 l2 n2
    have l1' := Nat.lt_of_lt_of_le l1 ht1.size
    have l2' := Nat.lt_of_lt_of_le l2 ht1.size
    clear hs1 hf1 ht1 hg1 hg4 hg5 hg6 hg7
    go_wp2_with fail
    refine HC.out.mono ?_
    rintro e w2 ⟨rfl, hW2⟩
    have j1 : w2.cell? ⟨g1, 0, none⟩ = some (.pointer (some ⟨b, 0, none⟩)) := (hW2.cell l1' m1).trans i1
    have j6 : w2.cell? ⟨g2, 6, none⟩ = some (.slice A6 n6 c6) := (hW2.cell l2' m2).trans i6
    have j7 : w2.cell? ⟨g2, 7, none⟩ = some (.pointer none) := (hW2.cell l2' m2).trans i7
    obtain ⟨F2, hs2, hf2, ht2⟩ := Wr.trans HF1.out.1 HF1.out.2 hW2
    have HC2 := Lib.hid (HM.out w2 F2 _ hs2 (Nat.le_trans HL.out (by omega)) hf2 ht2)
    have HF2 := Lib.hid (And.intro hf2 ht2)
    clear hs2 hf2 ht2 hW2 i1 i5 i6 i7 HC
    go_wp2_with fail
    refine HC2.out.mono ?_
    rintro e w3 ⟨rfl, hW3⟩
    have HW3 := Lib.hid hW3
    clear hW3
    go_wp2_with fail
    go_end0
    refine ⟨rfl, ?_⟩
    rw [← HBo.out, initR, List.append_nil]
    exact Wr.trans HF2.out.1 HF2.out.2 HW3.out
  | some m =>
    rw [hin] at r7 HBo
    have hfm := hc.init m hin
    obtain ⟨bI, oI, cs, rfl, ⟨_, hbB, hbl, hcI⟩, hRd⟩ := r7
    simp only at hbB hbl hcI
    have hRd0 := hRd
    obtain ⟨A1, d1, A2, d2, A3, d3, p, q, rfl, _, _, _⟩ := hRd
    have nI : bI ∉ F := fun hg => by have := hF bI hg; omega
    have e0 : w.cell? ⟨bI, oI, none⟩ = some (.string m.ret) := hcI 0 _ rfl
    have e1 := hcI 1 _ rfl
    have e2 := hcI 2 _ rfl
    have e3 := hcI 3 _ rfl
    have e4 := hcI 4 _ rfl
    have e5 := hcI 5 _ rfl
    have e6 := hcI 6 _ rfl
    have e7 := hcI 7 _ rfl
    have e8 := hcI 8 _ rfl
    have HBl : Hid (∀ w1 F1, Sh T w1 b F1 (R ++ varR D fieldK c.fs ++ varR D staticK c.ss) D → Foot w.heap.size F F1 → Turn F w w1 → ∀ w2, Turn [] (w1.alloc (.cells #[.string ⟨#[105, 110, 105, 116, 32, 123]⟩] 9)) w2 → Calls Tryz.prog 25 #[.pointer (some ⟨b, 0, none⟩), .agg #[.string m.ret, .string m.name, .bool m.stat, .bool m.bare, .slice A1 m.ps.length d1, .slice A2 m.ls.length d2, .slice A3 m.bd.length d3, .int .i64 p, .int .i64 q], .slice (some ⟨w1.heap.size, 0, none⟩) 1 1] w2 fun e w' => e = .returned (.tuple #[]) ∧ Wr T w2 b F1 (R ++ varR D fieldK c.fs ++ varR D staticK c.ss ++ initR D (some m)) D w') := Lib.hid (fun w1 F1 hs hf ht w2 ht2 => by
      have tt := (bx w1 #[.string ⟨#[105, 110, 105, 116, 32, 123]⟩] 9).trans' ht2
      exact block_any T b F1 _ D B _ m (some ⟨w1.heap.size, 0, none⟩) 1 [⟨#[105, 110, 105, 116, 32, 123]⟩] w2 (hs.turn' tt) (Foot.above hf hF hE.lt) ((hE.turn ht hF).turn tt (by simp)) hfm ((hRd0.turn ht hF).turn tt (by simp)) ((sts_new w1 [⟨#[105, 110, 105, 116, 32, 123]⟩] _ rfl).turn' ht2) (by simp) (by simp) (by rw [size_cat]; decide) (by have := HL.out; omega))
    have HIl := Lib.hid (initR_len D (o := some m) (fun m' e => by injection e with e; rw [← e]; exact hfm))
    obtain ⟨mr, hmr⟩ : ∃ q, m.ret = q := ⟨_, rfl⟩
    obtain ⟨mn, hmn⟩ : ∃ q, m.name = q := ⟨_, rfl⟩
    obtain ⟨ms, hms⟩ : ∃ q, m.stat = q := ⟨_, rfl⟩
    obtain ⟨mb, hmb⟩ : ∃ q, m.bare = q := ⟨_, rfl⟩
    obtain ⟨np, hnp⟩ : ∃ q, m.ps.length = q := ⟨_, rfl⟩
    obtain ⟨nl, hnl⟩ : ∃ q, m.ls.length = q := ⟨_, rfl⟩
    obtain ⟨nb, hnb⟩ : ∃ q, m.bd.length = q := ⟨_, rfl⟩
    rw [hmr] at e0 HBl
    rw [hmn] at e1 HBl
    rw [hms] at e2 HBl
    rw [hmb] at e3 HBl
    rw [hnp] at e4 HBl
    rw [hnl] at e5 HBl
    rw [hnb] at e6 HBl
    have ha : ∀ w' : World, (∀ o : Nat, w'.cell? ⟨bI, o, none⟩ = w.cell? ⟨bI, o, none⟩) → w'.cell? ⟨bI, oI, none⟩ = some (.string mr) ∧ w'.cell? ⟨bI, oI + 1, none⟩ = some (.string mn) ∧ w'.cell? ⟨bI, oI + 2, none⟩ = some (.bool ms) ∧ w'.cell? ⟨bI, oI + 3, none⟩ = some (.bool mb) ∧ w'.cell? ⟨bI, oI + 4, none⟩ = some (.slice A1 np d1) ∧ w'.cell? ⟨bI, oI + 5, none⟩ = some (.slice A2 nl d2) ∧ w'.cell? ⟨bI, oI + 6, none⟩ = some (.slice A3 nb d3) ∧ w'.cell? ⟨bI, oI + 7, none⟩ = some (.int .i64 p) ∧ w'.cell? ⟨bI, oI + 8, none⟩ = some (.int .i64 q) := fun w' hw' =>
      ⟨(hw' _).trans e0, (hw' _).trans e1, (hw' _).trans e2, (hw' _).trans e3, (hw' _).trans e4, (hw' _).trans e5, (hw' _).trans e6, (hw' _).trans e7, (hw' _).trans e8⟩
    have HAI := Lib.hid ha
    clear h hF hE hc r4 r5 r6 hz hn4 hn5 hn6 hin ha e0 e1 e2 e3 e4 e5 e6 e7 e8 hcI hRd0 hfm hmr hmn hms hmb hnp hnl hnb
    unfold fieldK at HV
    unfold staticK at HV2
    go_enter Tryz.func55, Tryz.ntmps55
    go_wp2_with fail
    refine HV.out.mono ?_
    rintro e w1 ⟨rfl, hW1⟩
    have i1 : w1.cell? ⟨g1, 0, none⟩ = some (.pointer (some ⟨b, 0, none⟩)) := (hW1.cell l1 n1).trans hg1
    have i5 : w1.cell? ⟨g2, 5, none⟩ = some (.slice A5 n5 c5) := (hW1.cell l2 n2).trans hg5
    have i6 : w1.cell? ⟨g2, 6, none⟩ = some (.slice A6 n6 c6) := (hW1.cell l2 n2).trans hg6
    have i7 : w1.cell? ⟨g2, 7, none⟩ = some (.pointer (some ⟨bI, oI, none⟩)) := (hW1.cell l2 n2).trans hg7
    obtain ⟨F1, hs1, hf1, ht1⟩ := hW1
    have HC := Lib.hid (HV2.out w1 F1 hs1 hf1 ht1)
    have HF1 := Lib.hid (And.intro hf1 ht1)
    have m1 := Foot.notin hf1 l1 n1
    have m2 := Foot.notin hf1 l2 n2
    have l1' := Nat.lt_of_lt_of_le l1 ht1.size
    have l2' := Nat.lt_of_lt_of_le l2 ht1.size
    clear hs1 hf1 ht1 hg1 hg4 hg5 hg6 hg7
    go_wp2_with fail
    refine HC.out.mono ?_
    rintro e w2 ⟨rfl, hW2⟩
    have j1 : w2.cell? ⟨g1, 0, none⟩ = some (.pointer (some ⟨b, 0, none⟩)) := (hW2.cell l1' m1).trans i1
    have j6 : w2.cell? ⟨g2, 6, none⟩ = some (.slice A6 n6 c6) := (hW2.cell l2' m2).trans i6
    have j7 : w2.cell? ⟨g2, 7, none⟩ = some (.pointer (some ⟨bI, oI, none⟩)) := (hW2.cell l2' m2).trans i7
    obtain ⟨F2, hs2, hf2, ht2⟩ := Wr.trans HF1.out.1 HF1.out.2 hW2
    have HC2 := Lib.hid (HBl.out w2 F2 hs2 hf2 ht2)
    have HF2 := Lib.hid (And.intro hf2 ht2)
    have nI2 := Foot.notin hf2 hbl nI
    have n12 := Foot.notin hf2 l1 n1
    have n22 := Foot.notin hf2 l2 n2
    have lI2 := Nat.lt_of_lt_of_le hbl ht2.size
    have l12 := Nat.lt_of_lt_of_le l1 ht2.size
    have l22 := Nat.lt_of_lt_of_le l2 ht2.size
    obtain ⟨a0, a1, a2, a3, a4, a5, a6, a7, a8⟩ := HAI.out w2 (fun o => ht2.cell (p := ⟨bI, o, none⟩) hbl nI)
    clear hs2 hf2 ht2 hW2 i1 i5 i6 i7 HC
    go_wp2_with fail
    go_region_held3 (fun w' => w'.cell? ⟨g1, 0, none⟩ = some (.pointer (some ⟨b, 0, none⟩)) ∧ w'.cell? ⟨g2, 7, none⟩ = some (.pointer (some ⟨bI, oI, none⟩)) ∧ w'.cell? ⟨bI, oI, none⟩ = some (.string mr) ∧ w'.cell? ⟨bI, oI + 1, none⟩ = some (.string mn) ∧ w'.cell? ⟨bI, oI + 2, none⟩ = some (.bool ms) ∧ w'.cell? ⟨bI, oI + 3, none⟩ = some (.bool mb) ∧ w'.cell? ⟨bI, oI + 4, none⟩ = some (.slice A1 np d1) ∧ w'.cell? ⟨bI, oI + 5, none⟩ = some (.slice A2 nl d2) ∧ w'.cell? ⟨bI, oI + 6, none⟩ = some (.slice A3 nb d3) ∧ w'.cell? ⟨bI, oI + 7, none⟩ = some (.int .i64 p) ∧ w'.cell? ⟨bI, oI + 8, none⟩ = some (.int .i64 q))
      (first | exact ⟨j1, j7, a0, a1, a2, a3, a4, a5, a6, a7, a8⟩ | exact ⟨q1, q7, s0, s1, s2, s3, s4, s5, s6, s7, s8⟩ | go_keep)
      (first
        | (go_at_call 25; (with_reducible refine (HC2.out _ (by exact (Turn.refl [] _).drew)).mono ?_); rintro e w3 ⟨rfl, hw3⟩
           have tw : Turn [] w2 (w2.alloc (.cells #[.string ⟨#[105, 110, 105, 116, 32, 123]⟩] 9)).drew := (bx w2 _ _).drew
           have q1 : w3.cell? ⟨g1, 0, none⟩ = some (.pointer (some ⟨b, 0, none⟩)) := (hw3.cell (Nat.lt_of_lt_of_le l12 tw.size) n12).trans ((tw.cell (p := ⟨g1, 0, none⟩) l12 (by simp)).trans j1)
           have q6 : w3.cell? ⟨g2, 6, none⟩ = some (.slice A6 n6 c6) := (hw3.cell (Nat.lt_of_lt_of_le l22 tw.size) n22).trans ((tw.cell (p := ⟨g2, 6, none⟩) l22 (by simp)).trans j6)
           have q7 : w3.cell? ⟨g2, 7, none⟩ = some (.pointer (some ⟨bI, oI, none⟩)) := (hw3.cell (Nat.lt_of_lt_of_le l22 tw.size) n22).trans ((tw.cell (p := ⟨g2, 7, none⟩) l22 (by simp)).trans j7)
           obtain ⟨s0, s1, s2, s3, s4, s5, s6, s7, s8⟩ := HAI.out w3 (fun o => (hw3.cell (Nat.lt_of_lt_of_le lI2 tw.size) nI2).trans ((tw.cell (p := ⟨bI, o, none⟩) lI2 (by simp)).trans (HF2.out.2.cell (p := ⟨bI, o, none⟩) hbl nI)))
           have HW3 := Lib.hid (Wr.trans HF2.out.1 HF2.out.2 (Wr.after tw hw3))
           clear hw3 tw)
        | fail)
    obtain ⟨F3, hs3, hf3, ht3⟩ := HW3.out
    have HC3 := Lib.hid (HM.out w3 F3 _ hs3 (by have := HL.out; have := HIl.out; rw [List.length_append]; omega) hf3 ht3)
    have HF3 := Lib.hid (And.intro hf3 ht3)
    clear hs3 hf3 ht3
    go_wp2_with fail
    refine HC3.out.mono ?_
    rintro e w4 ⟨rfl, hW4⟩
    have HW4 := Lib.hid hW4
    clear hW4
    go_wp2_with fail
    go_end0
    refine ⟨rfl, ?_⟩
    rw [← HBo.out]
    exact Wr.trans HF3.out.1 HF3.out.2 HW4.out
end Go.Proofs.YtoekaehpcjhhaaaGreatDoor
