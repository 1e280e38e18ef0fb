import Derived.Test.YtnmhcgkccchacaaGreatDoorQ04Stg
import Derived.Test.YtnmhcgkccchacaaGreatDoorQ03Stb
import Derived.Test.YtnmhcgkccchacaaGreatDoorQ00Kit

/- signature. Printed by gen8.py. -/
set_option linter.unusedSimpArgs false
set_option linter.unusedVariables false
set_option maxRecDepth 100000
namespace Go.Proofs.YtnmhcgkccchacaaGreatDoor
open Go.RowKit

set_option maxHeartbeats 12800000 in
theorem signature_any (en : Nat × Nat) (b : Nat) (s : RS) (w : World) (hP : Pr en w b s) :
    Calls Tryz.prog 109 #[.pointer (some ⟨b, 0, none⟩)] w fun e w' => ∃ cs : List Value, e = .returned (.agg cs.toArray) ∧ RdM (fun g => w.heap.size ≤ g) w' cs (signature en s).1 ∧ Pr en w' b (signature en s).2 ∧ Turn [b] w w' := by
  have hbl := hP.lt
  obtain ⟨W1, hW1⟩ : ∃ W1, w.alloc (.cells #[.string ⟨#[]⟩, .string ⟨#[]⟩, .bool false, .bool false, .slice none 0 0, .slice none 0 0, .slice none 0 0, .int .i64 0, .int .i64 0] 29) = W1 := ⟨_, rfl⟩
  obtain ⟨r, hr⟩ : ∃ r, w.heap.size = r := ⟨_, rfl⟩
  have tW1 : Turn [] w W1 := by rw [← hW1]; exact (Turn.refl [] w).alloc _
  have rW1 : W1.heap[r]? = some (.cells #[.string ⟨#[]⟩, .string ⟨#[]⟩, .bool false, .bool false, .slice none 0 0, .slice none 0 0, .slice none 0 0, .int .i64 0, .int .i64 0] 29 (0, 0)) := by rw [← hW1, ← hr]; exact heap_alloc_new w _
  have sW1 : W1.heap.size = r + 1 := by rw [← hW1, ← hr]; simp
  have HW1 := Lib.hid hW1
  have HR := Lib.hid hr
  have hPl := place_any en b s W1 (hP.up tW1)
  obtain ⟨pl, hpl⟩ : ∃ p, (atP en s).1 = p := ⟨_, rfl⟩
  obtain ⟨pc, hpc⟩ : ∃ p, (atP en s).2 = p := ⟨_, rfl⟩
  rw [hpl, hpc] at hPl
  have HPL := Lib.hid hPl
  have HAT : Hid (atP en s = (pl, pc)) := Lib.hid (by rw [← hpl, ← hpc])
  have HP1 := Lib.hid (hP.up tW1)
  have HTW1 := Lib.hid tW1
  have HRW1 := Lib.hid rW1
  clear hW1 hr tW1 rW1 hPl hpl hpc hP
  go_enter Tryz.func109, Tryz.ntmps109
  go_wp2_with fail
  rw [HW1.out, HR.out]
  refine HPL.out.mono ?_
  rintro e0 w2 ⟨rfl, t2⟩
  obtain ⟨W2, hW2⟩ : ∃ W2, w2.alloc (.cells #[.string ⟨#[]⟩, .string ⟨#[]⟩, .bool false, .bool true, .slice none 0 0, .slice none 0 0, .slice none 0 0, .int .i64 (pl : Int), .int .i64 (pc : Int)] 29) = W2 := ⟨_, rfl⟩
  obtain ⟨sb, hsb⟩ : ∃ sb, w2.heap.size = sb := ⟨_, rfl⟩
  have tW2 : Turn [] W1 W2 := by rw [← hW2]; exact t2.alloc _
  have hsbk : W2.heap[sb]? = some (.cells #[.string ⟨#[]⟩, .string ⟨#[]⟩, .bool false, .bool true, .slice none 0 0, .slice none 0 0, .slice none 0 0, .int .i64 (pl : Int), .int .i64 (pc : Int)] 29 (0, 0)) := by rw [← hW2, ← hsb]; exact heap_alloc_new w2 _
  have hrsb : r < sb := by have := t2.size; omega
  have hbr : b < r := by have := HR.out; omega
  have hSb : Mb W2 b sb ⟨e0, e0, false, true, [], [], [], pl, pc⟩ := ⟨_, _, _, by omega, hsbk, RdV.nil _ _ _, RdV.nil _ _ _, RdV.nil _ _ _⟩
  have H0 := Lib.hid (StM.mk0 (HP1.out.up tW2) hSb)
  have HRW : Hid (∀ W', Turn [b, sb] W2 W' → W'.heap[r]? = some (.cells #[.string ⟨#[]⟩, .string ⟨#[]⟩, .bool false, .bool false, .slice none 0 0, .slice none 0 0, .slice none 0 0, .int .i64 0, .int .i64 0] 29 (0, 0))) := Lib.hid fun W' t => t.heap (tW2.heap HRW1.out (by simp)) (by simp; omega)
  have HT2 : Hid (Turn [] w W2) := Lib.hid (HTW1.out.trans' tW2)
  have HSZ : Hid (W2.heap.size = sb + 1) := Lib.hid (by rw [← hW2, ← hsb]; simp)
  have HW2 := Lib.hid hW2
  have HSB := Lib.hid hsb
  clear hW2 hsb tW2 hsbk t2 hSb
  go_upto_region 2 with (fail)
  rw [HW2.out, HSB.out]
  go_wp2_with fail
  refine (head_any en b sb s ⟨e0, e0, false, true, [], [], [], pl, pc⟩ _ H0.out.pr H0.out.ss).mono ?_
  rintro e1 w1 ⟨rfl, h1⟩
  have H1 := Lib.hid (H0.out.callS h1)
  clear h1
  obtain ⟨p1, eb1⟩ : ∃ q, (head en ⟨e0, e0, false, true, [], [], [], pl, pc⟩ s).1 = q := ⟨_, rfl⟩
  rw [eb1] at H1
  obtain ⟨s1, ec1⟩ : ∃ q, (head en ⟨e0, e0, false, true, [], [], [], pl, pc⟩ s).2 = q := ⟨_, rfl⟩
  rw [ec1] at H1
  have Heb1 := Lib.hid eb1
  clear eb1
  have Hec1 := Lib.hid ec1
  clear ec1
  obtain ⟨ret1, nm1, stat1, bare1, ps1, ls1, bd1, ln1, cl1⟩ := p1
  go_wp2_with fail
  refine (takeN_any en b s1 [59] _ w1.heap.size rfl _ rfl H1.out.pr).mono ?_
  rintro e2 w2 ⟨rfl, h2, t2⟩
  have H2 := Lib.hid (H1.out.call h2 t2)
  clear h2 t2
  obtain ⟨s2, es2⟩ : ∃ q, take en [59] s1 = q := ⟨_, rfl⟩
  rw [es2] at H2
  have Hes2 := Lib.hid es2
  clear es2
  obtain ⟨V1, V2, V3, hSB⟩ := id H2.out.ss
  obtain ⟨P1, q1, rfl, _, _⟩ := id hSB.ps
  obtain ⟨P2, q2, rfl, _, _⟩ := id hSB.ls
  obtain ⟨P3, q3, rfl, _, _⟩ := id hSB.bd
  have m0 : w2.cell? ⟨sb, 0, none⟩ = some (.string ret1) := cell_of_row w2 sb 0 _ _ _ hSB.blk
  have m1 : w2.cell? ⟨sb, 1, none⟩ = some (.string nm1) := cell_of_row w2 sb 1 _ _ _ hSB.blk
  have m2 : w2.cell? ⟨sb, 2, none⟩ = some (.bool stat1) := cell_of_row w2 sb 2 _ _ _ hSB.blk
  have m3 : w2.cell? ⟨sb, 3, none⟩ = some (.bool bare1) := cell_of_row w2 sb 3 _ _ _ hSB.blk
  have m4 : w2.cell? ⟨sb, 4, none⟩ = some (.slice P1 ps1.length q1) := cell_of_row w2 sb 4 _ _ _ hSB.blk
  have m5 : w2.cell? ⟨sb, 5, none⟩ = some (.slice P2 ls1.length q2) := cell_of_row w2 sb 5 _ _ _ hSB.blk
  have m6 : w2.cell? ⟨sb, 6, none⟩ = some (.slice P3 bd1.length q3) := cell_of_row w2 sb 6 _ _ _ hSB.blk
  have m7 : w2.cell? ⟨sb, 7, none⟩ = some (.int .i64 ln1) := cell_of_row w2 sb 7 _ _ _ hSB.blk
  have m8 : w2.cell? ⟨sb, 8, none⟩ = some (.int .i64 cl1) := cell_of_row w2 sb 8 _ _ _ hSB.blk
  have hrw := HRW.out w2 H2.out.tt
  have zz0 : w2.cell? ⟨r, 0, none⟩ = some (.string ⟨#[]⟩) := cell_of_row w2 r 0 _ _ _ hrw
  have zf0 : w2.frozen? ⟨r, 0, none⟩ = false := frozen_of_row w2 r 0 _ _ hrw
  have zz1 : w2.cell? ⟨r, 1, none⟩ = some (.string ⟨#[]⟩) := cell_of_row w2 r 1 _ _ _ hrw
  have zf1 : w2.frozen? ⟨r, 1, none⟩ = false := frozen_of_row w2 r 1 _ _ hrw
  have zz2 : w2.cell? ⟨r, 2, none⟩ = some (.bool false) := cell_of_row w2 r 2 _ _ _ hrw
  have zf2 : w2.frozen? ⟨r, 2, none⟩ = false := frozen_of_row w2 r 2 _ _ hrw
  have zz3 : w2.cell? ⟨r, 3, none⟩ = some (.bool false) := cell_of_row w2 r 3 _ _ _ hrw
  have zf3 : w2.frozen? ⟨r, 3, none⟩ = false := frozen_of_row w2 r 3 _ _ hrw
  have zz4 : w2.cell? ⟨r, 4, none⟩ = some (.slice none 0 0) := cell_of_row w2 r 4 _ _ _ hrw
  have zf4 : w2.frozen? ⟨r, 4, none⟩ = false := frozen_of_row w2 r 4 _ _ hrw
  have zz5 : w2.cell? ⟨r, 5, none⟩ = some (.slice none 0 0) := cell_of_row w2 r 5 _ _ _ hrw
  have zf5 : w2.frozen? ⟨r, 5, none⟩ = false := frozen_of_row w2 r 5 _ _ hrw
  have zz6 : w2.cell? ⟨r, 6, none⟩ = some (.slice none 0 0) := cell_of_row w2 r 6 _ _ _ hrw
  have zf6 : w2.frozen? ⟨r, 6, none⟩ = false := frozen_of_row w2 r 6 _ _ hrw
  have zz7 : w2.cell? ⟨r, 7, none⟩ = some (.int .i64 0) := cell_of_row w2 r 7 _ _ _ hrw
  have zf7 : w2.frozen? ⟨r, 7, none⟩ = false := frozen_of_row w2 r 7 _ _ hrw
  have zz8 : w2.cell? ⟨r, 8, none⟩ = some (.int .i64 0) := cell_of_row w2 r 8 _ _ _ hrw
  have zf8 : w2.frozen? ⟨r, 8, none⟩ = false := frozen_of_row w2 r 8 _ _ hrw
  have HSBF := Lib.hid hSB
  clear hSB hrw
  go_wp2_with fail
  refine bodyPost_ret (v := .agg #[.string ret1, .string nm1, .bool stat1, .bool bare1, .slice P1 ps1.length q1, .slice P2 ls1.length q2, .slice P3 bd1.length q3, .int .i64 ln1, .int .i64 cl1]) (by simp [results, Tryz.results109, go_sem, zz0, zz1, zz2, zz3, zz4, zz5, zz6, zz7, zz8]) rfl ?_
  have EF : signature en s = (⟨ret1, nm1, stat1, bare1, ps1, ls1, bd1, ln1, cl1⟩, s2) := by
    refine Prod.ext ?_ ?_ <;> (unfold signature; simp only [HAT.out, mf0_mk, Heb1.out, Hec1.out, Hes2.out, if_true, if_false, Bool.false_eq_true, reduceIte]; try first | rfl | exact Heb2.out | exact Hec2.out)
  rw [EF]
  have hE : ∀ W', Turn [r] w2 W' → Turn [b] w W' := fun W' t => ((HT2.out.more (by simp)).trans H2.out.tt (fun g hg => by have := HT2.out.size; have := HSZ.out; have := HR.out; simp at hg; rcases hg with rfl | rfl <;> simp <;> omega)).trans t (fun g hg => by have := HR.out; simp at hg; omega)
  have hF : ∀ W', Turn [r] w2 W' → RdM (fun g => w.heap.size ≤ g) W' [.string ret1, .string nm1, .bool stat1, .bool bare1, .slice P1 ps1.length q1, .slice P2 ls1.length q2, .slice P3 bd1.length q3, .int .i64 ln1, .int .i64 cl1] ⟨ret1, nm1, stat1, bare1, ps1, ls1, bd1, ln1, cl1⟩ := fun W' t => goodM.mono (goodM.turn (show RdM (fun g => sb < g) w2 [.string ret1, .string nm1, .bool stat1, .bool bare1, .slice P1 ps1.length q1, .slice P2 ls1.length q2, .slice P3 bd1.length q3, .int .i64 ln1, .int .i64 cl1] ⟨ret1, nm1, stat1, bare1, ps1, ls1, bd1, ln1, cl1⟩ from ⟨_, _, _, rfl, HSBF.out.ps, HSBF.out.ls, HSBF.out.bd⟩) t (fun g hg h => by simp at hg; omega)) (fun g hg _ => by have := HR.out; omega)
  have key : ∀ W', Turn [r] w2 W' → ∃ cs : List Value, Ending.returned (.agg #[.string ret1, .string nm1, .bool stat1, .bool bare1, .slice P1 ps1.length q1, .slice P2 ls1.length q2, .slice P3 bd1.length q3, .int .i64 ln1, .int .i64 cl1]) = Ending.returned (.agg cs.toArray) ∧ RdM (fun g => w.heap.size ≤ g) W' cs ⟨ret1, nm1, stat1, bare1, ps1, ls1, bd1, ln1, cl1⟩ ∧ Pr en W' b s2 ∧ Turn [b] w W' := fun W' tE => ⟨[.string ret1, .string nm1, .bool stat1, .bool bare1, .slice P1 ps1.length q1, .slice P2 ls1.length q2, .slice P3 bd1.length q3, .int .i64 ln1, .int .i64 cl1], rfl, hF _ tE, H2.out.pr.turn tE (by simp; omega), hE _ tE⟩
  exact key _ ((((((((((Turn.refl [r] w2).setCell (.inl (by simp)) _).setCell (.inl (by simp)) _).setCell (.inl (by simp)) _).setCell (.inl (by simp)) _).setCell (.inl (by simp)) _).setCell (.inl (by simp)) _).setCell (.inl (by simp)) _).setCell (.inl (by simp)) _).setCell (.inl (by simp)) _)

end Go.Proofs.YtnmhcgkccchacaaGreatDoor

/- declared, local. Printed by gen8.py. -/
set_option linter.unusedSimpArgs false
set_option linter.unusedVariables false
set_option maxRecDepth 100000
namespace Go.Proofs.YtnmhcgkccchacaaGreatDoor
open Go.RowKit


set_option maxHeartbeats 6400000 in
theorem declared_any (en : Nat × Nat) (b : Nat) (s : RS) (wd : List UInt8) (T : ByteArray) (hT : T = mk wd) (w : World) (hP : Pr en w b s) :
    Calls Tryz.prog 136 #[.pointer (some ⟨b, 0, none⟩), .string T] w fun e w' => ∃ cs : List Value, e = .returned (.agg cs.toArray) ∧ RdW (fun g => w.heap.size ≤ g) w' cs (declared en wd s).1 ∧ Pr en w' b (declared en wd s).2 ∧ Turn [b] w w' := by
  have hbl := hP.lt
  obtain ⟨W1, hW1⟩ : ∃ W1, w.alloc (.cells #[.string ⟨#[]⟩, .string ⟨#[]⟩, .int .i64 0, .int .i64 0] 107) = W1 := ⟨_, rfl⟩
  obtain ⟨r, hr⟩ : ∃ r, w.heap.size = r := ⟨_, rfl⟩
  have tW1 : Turn [] w W1 := by rw [← hW1]; exact (Turn.refl [] w).alloc _
  have rW1 : W1.heap[r]? = some (.cells #[.string ⟨#[]⟩, .string ⟨#[]⟩, .int .i64 0, .int .i64 0] 107 (0, 0)) := by rw [← hW1, ← hr]; exact heap_alloc_new w _
  have sW1 : W1.heap.size = r + 1 := by rw [← hW1, ← hr]; simp
  have HW1 := Lib.hid hW1
  have HR := Lib.hid hr
  have HTK := Lib.hid (takeN_any en b s wd W1 (r + 1) sW1 #[.string T] (by rw [hT]) (hP.up tW1))
  have HTW1 := Lib.hid tW1
  have HRW1 := Lib.hid rW1
  have hbr : b < r := by omega
  obtain ⟨s1, hs1⟩ : ∃ q, take en wd s = q := ⟨_, rfl⟩
  rw [hs1] at HTK
  obtain ⟨x, hx⟩ : ∃ q, (variable' en s1).1 = q := ⟨_, rfl⟩
  obtain ⟨s2, hs2⟩ : ∃ q, (variable' en s1).2 = q := ⟨_, rfl⟩
  have hEF : declared en wd s = (x, take en [59] s2) := by
    unfold declared
    simp only [hs1, hx, hs2]
  rw [hEF]
  have HX := Lib.hid (And.intro hx hs2)
  clear hW1 hr tW1 rW1 hP hs1 hx hs2 hEF hT
  obtain ⟨xt, xn, xl, xc⟩ := x
  go_enter Tryz.func136, Tryz.ntmps136
  go_upto_region 1 with (fail)
  rw [HW1.out, HR.out]
  go_wp2_with fail
  refine HTK.out.mono ?_
  rintro e1 w1 ⟨rfl, h1, t1⟩
  have HT1 : Hid (Turn [b] W1 w1) := Lib.hid t1
  have hv := variable_any en b s1 w1 h1
  rw [HX.out.1, HX.out.2] at hv
  simp only at hv
  have HV := Lib.hid hv
  clear h1 t1 hv
  go_wp2_with fail
  refine HV.out.mono ?_
  rintro e2 w2 ⟨rfl, h2, t2⟩
  have HT2 := Lib.hid (HT1.out.trans t2 (fun g hg => .inl hg))
  obtain ⟨W2, hW2⟩ : ∃ W2, w2.alloc (.cells #[.string xt, .string xn, .int .i64 xl, .int .i64 xc] 107) = W2 := ⟨_, rfl⟩
  obtain ⟨vb, hvb⟩ : ∃ vb, w2.heap.size = vb := ⟨_, rfl⟩
  have tW2 : Turn [] w2 W2 := by rw [← hW2]; exact (Turn.refl [] w2).alloc _
  have hvk : W2.heap[vb]? = some (.cells #[.string xt, .string xn, .int .i64 xl, .int .i64 xc] 107 (0, 0)) := by rw [← hW2, ← hvb]; exact heap_alloc_new w2 _
  have hrv : r < vb := by have := HT2.out.size; omega
  have HTK2 := Lib.hid (takeN_any en b s2 [59] W2 W2.heap.size rfl #[.string ⟨#[59]⟩] rfl (h2.up tW2))
  have HVK := Lib.hid hvk
  have HW2 := Lib.hid hW2
  have HVB := Lib.hid hvb
  have HT3 : Hid (Turn [b] W1 W2) := Lib.hid (HT2.out.trans' tW2)
  clear hW2 hvb tW2 hvk h2 t2
  go_upto_region 3 with (fail)
  rw [HW2.out, HVB.out]
  go_wp2_with fail
  refine HTK2.out.mono ?_
  rintro e3 w3 ⟨rfl, h3, t3⟩
  have hv3 := t3.heap HVK.out (by simp; omega)
  have hr3 := (HT3.out.trans t3 (fun g hg => .inl hg)).heap HRW1.out (by simp; omega)
  have m0 : w3.cell? ⟨vb, 0, none⟩ = some (.string xt) := cell_of_row w3 vb 0 _ _ _ hv3
  have m1 : w3.cell? ⟨vb, 1, none⟩ = some (.string xn) := cell_of_row w3 vb 1 _ _ _ hv3
  have m2 : w3.cell? ⟨vb, 2, none⟩ = some (.int .i64 xl) := cell_of_row w3 vb 2 _ _ _ hv3
  have m3 : w3.cell? ⟨vb, 3, none⟩ = some (.int .i64 xc) := cell_of_row w3 vb 3 _ _ _ hv3
  have zz0 : w3.cell? ⟨r, 0, none⟩ = some (.string ⟨#[]⟩) := cell_of_row w3 r 0 _ _ _ hr3
  have zf0 : w3.frozen? ⟨r, 0, none⟩ = false := frozen_of_row w3 r 0 _ _ hr3
  have zz1 : w3.cell? ⟨r, 1, none⟩ = some (.string ⟨#[]⟩) := cell_of_row w3 r 1 _ _ _ hr3
  have zf1 : w3.frozen? ⟨r, 1, none⟩ = false := frozen_of_row w3 r 1 _ _ hr3
  have zz2 : w3.cell? ⟨r, 2, none⟩ = some (.int .i64 0) := cell_of_row w3 r 2 _ _ _ hr3
  have zf2 : w3.frozen? ⟨r, 2, none⟩ = false := frozen_of_row w3 r 2 _ _ hr3
  have zz3 : w3.cell? ⟨r, 3, none⟩ = some (.int .i64 0) := cell_of_row w3 r 3 _ _ _ hr3
  have zf3 : w3.frozen? ⟨r, 3, none⟩ = false := frozen_of_row w3 r 3 _ _ hr3
  have HP3 := Lib.hid h3
  have HT4 := Lib.hid (HT3.out.trans t3 (fun g hg => .inl hg))
  clear hv3 hr3 h3 t3
  go_wp2_with fail
  refine bodyPost_ret (v := .agg #[.string xt, .string xn, .int .i64 xl, .int .i64 xc]) (by simp [results, Tryz.results136, go_sem, zz0, zz1, zz2, zz3]) rfl ?_
  have key : ∀ W', Turn [r] w3 W' → ∃ cs : List Value, Ending.returned (.agg #[.string xt, .string xn, .int .i64 xl, .int .i64 xc]) = Ending.returned (.agg cs.toArray) ∧ RdW (fun g => w.heap.size ≤ g) W' cs ⟨xt, xn, xl, xc⟩ ∧ Pr en W' b (take en [59] s2) ∧ Turn [b] w W' := fun W' tE =>
    ⟨[.string xt, .string xn, .int .i64 xl, .int .i64 xc], rfl, rfl, HP3.out.turn tE (by simp; omega), ((HTW1.out.more (by simp)).trans HT4.out (fun g hg => .inl hg)).trans tE (fun g hg => by have := HR.out; simp at hg; omega)⟩
  exact key _ (((((Turn.refl [r] w3).setCell (.inl (by simp)) _).setCell (.inl (by simp)) _).setCell (.inl (by simp)) _).setCell (.inl (by simp)) _)

set_option maxHeartbeats 3200000 in
theorem local_any (en : Nat × Nat) (b : Nat) (s : RS) (w : World) (hP : Pr en w b s) :
    Calls Tryz.prog 114 #[.pointer (some ⟨b, 0, none⟩)] w fun e w' => ∃ cs : List Value, e = .returned (.agg cs.toArray) ∧ RdW (fun g => w.heap.size ≤ g) w' cs (declared en kVar s).1 ∧ Pr en w' b (declared en kVar s).2 ∧ Turn [b] w w' := by
  have hbl := hP.lt
  obtain ⟨W1, hW1⟩ : ∃ W1, w.alloc (.cells #[.string ⟨#[]⟩, .string ⟨#[]⟩, .int .i64 0, .int .i64 0] 107) = W1 := ⟨_, rfl⟩
  obtain ⟨r, hr⟩ : ∃ r, w.heap.size = r := ⟨_, rfl⟩
  have tW1 : Turn [] w W1 := by rw [← hW1]; exact (Turn.refl [] w).alloc _
  have rW1 : W1.heap[r]? = some (.cells #[.string ⟨#[]⟩, .string ⟨#[]⟩, .int .i64 0, .int .i64 0] 107 (0, 0)) := by rw [← hW1, ← hr]; exact heap_alloc_new w _
  have HD := Lib.hid (declared_any en b s kVar _ rfl W1 (hP.up tW1))
  have HW1 := Lib.hid hW1
  have HR := Lib.hid hr
  have HTW1 := Lib.hid tW1
  have HRW1 := Lib.hid rW1
  have hbr : b < r := by omega
  clear hW1 hr tW1 rW1 hP
  go_enter Tryz.func114, Tryz.ntmps114
  go_upto_region 1 with (fail)
  rw [HW1.out, HR.out]
  go_wp2_with fail
  refine HD.out.mono ?_
  rintro e2 w3 ⟨cs, rfl, hr2, h2, t2⟩
  obtain ⟨x, hx⟩ : ∃ q, (declared en kVar s).1 = q := ⟨_, rfl⟩
  rw [hx] at hr2
  have HX := Lib.hid hx
  obtain ⟨xt, xn, xl, xc⟩ := x
  have e1 : cs = [.string xt, .string xn, .int .i64 xl, .int .i64 xc] := hr2
  subst e1
  have hr3 := t2.heap HRW1.out (by simp; omega)
  have zz0 : w3.cell? ⟨r, 0, none⟩ = some (.string ⟨#[]⟩) := cell_of_row w3 r 0 _ _ _ hr3
  have zf0 : w3.frozen? ⟨r, 0, none⟩ = false := frozen_of_row w3 r 0 _ _ hr3
  have zz1 : w3.cell? ⟨r, 1, none⟩ = some (.string ⟨#[]⟩) := cell_of_row w3 r 1 _ _ _ hr3
  have zf1 : w3.frozen? ⟨r, 1, none⟩ = false := frozen_of_row w3 r 1 _ _ hr3
  have zz2 : w3.cell? ⟨r, 2, none⟩ = some (.int .i64 0) := cell_of_row w3 r 2 _ _ _ hr3
  have zf2 : w3.frozen? ⟨r, 2, none⟩ = false := frozen_of_row w3 r 2 _ _ hr3
  have zz3 : w3.cell? ⟨r, 3, none⟩ = some (.int .i64 0) := cell_of_row w3 r 3 _ _ _ hr3
  have zf3 : w3.frozen? ⟨r, 3, none⟩ = false := frozen_of_row w3 r 3 _ _ hr3
  have HP3 := Lib.hid h2
  have HT4 := Lib.hid t2
  clear hr3 h2 t2 hx hr2
  go_wp2_with fail
  refine bodyPost_ret (v := .agg #[.string xt, .string xn, .int .i64 xl, .int .i64 xc]) (by simp [results, Tryz.results114, go_sem, zz0, zz1, zz2, zz3]) rfl ?_
  rw [HX.out]
  have key : ∀ W', Turn [r] w3 W' → ∃ cs : List Value, Ending.returned (.agg #[.string xt, .string xn, .int .i64 xl, .int .i64 xc]) = Ending.returned (.agg cs.toArray) ∧ RdW (fun g => w.heap.size ≤ g) W' cs ⟨xt, xn, xl, xc⟩ ∧ Pr en W' b (declared en kVar s).2 ∧ Turn [b] w W' := fun W' tE =>
    ⟨[.string xt, .string xn, .int .i64 xl, .int .i64 xc], rfl, rfl, HP3.out.turn tE (by simp; omega), ((HTW1.out.more (by simp)).trans HT4.out (fun g hg => .inl hg)).trans tE (fun g hg => by have := HR.out; simp at hg; omega)⟩
  exact key _ (((((Turn.refl [r] w3).setCell (.inl (by simp)) _).setCell (.inl (by simp)) _).setCell (.inl (by simp)) _).setCell (.inl (by simp)) _)

end Go.Proofs.YtnmhcgkccchacaaGreatDoor

/- many, of locals. -/
set_option linter.unusedSimpArgs false
set_option linter.unusedVariables false
set_option maxRecDepth 100000
namespace Go.Proofs.YtnmhcgkccchacaaGreatDoor
open Go.RowKit
theorem seesAny_one (t : List UInt8) (s : RS) : seesAny [t] s = sees t s := by simp [seesAny]

set_option maxHeartbeats 6400000 in
theorem manyV_any (en : Nat × Nat) (b : Nat) (s : RS) (g1 g2 : Nat) (w : World) (hP : Pr en w b s) (hB : Bgn w b g1 g2 [kVar]) :
    Calls Tryz.prog 113 #[.pointer (some ⟨b, 0, none⟩), .int .i64 40, .func (.func 81) #[] #[.pointer (some ⟨g1, 0, none⟩), .pointer (some ⟨g2, 0, none⟩)], .func (.func 114) #[.pointer (some ⟨b, 0, none⟩)] #[]] w fun e w' =>
      ∃ V, e = .returned V ∧ RdV 4 RdW (fun g => w.heap.size ≤ g) w' V (many (sees kVar) (declared en kVar) 40 (s.l.length + 1) [] s).1 ∧ Pr en w' b (many (sees kVar) (declared en kVar) 40 (s.l.length + 1) [] s).2 ∧ Turn [b] w w' := by
  have HP0 := Lib.hid hP
  have hl := hP.len
  have hbl := hP.lt
  have hgt := hP.gt
  obtain ⟨R, hR⟩ : ∃ R, many (sees kVar) (declared en kVar) 40 (s.l.length + 1) [] s = R := ⟨_, rfl⟩
  rw [hR]
  have HR0 := Lib.hid hR
  have HB := Lib.hid hB
  clear hB
  clear hP hR
  go_enter Tryz.func113, Tryz.ntmps113
  go_wp2_with fail
  go_loopw [9] (fun v wr => ∃ (acc : List Vf) (s1 : RS), Hid (OwnL 107 4 RdW (fun g => w.heap.size ≤ g) wr v acc) ∧ Hid (Pr en wr b s1) ∧ Hid (Turn [b] w wr) ∧ Hid (s1.deep = s.deep) ∧ MRel (many (sees kVar) (declared en kVar) 40) acc s1 R) (fun v wr => lenAt wr b)
  case atStart => exact ⟨[], s, Lib.hid (OwnL.nil _ _ _), Lib.hid HP0.out, Lib.hid (Turn.refl _ _), Lib.hid rfl, ⟨by simpa using hl, s.l.length + 1, by omega, HR0.out⟩⟩
  case round =>
    obtain ⟨acc, s1, HO, HP, HT, HD, HR⟩ := hrel
    obtain ⟨A0, c0, rfl, hc0⟩ := HO.out.form
    obtain ⟨hle, n, hn, hmany⟩ := HR
    obtain ⟨m, rfl⟩ : ∃ m, n = m + 1 := ⟨n - 1, by omega⟩
    unfold many at hmany
    have HM := Lib.hid hmany
    clear hmany
    have HBG := Lib.hid ((begins1_any en b g1 g2 [kVar] s1 wr HP.out (HB.out.turn HT.out (by simp)) (by simp)).mono (fun e w' h => And.intro (h.1.trans (ret_bool (seesAny_one _ _))) h.2))
    go_wp2_with fail
    refine HBG.out.mono ?_
    rintro e1 w1 ⟨rfl, t1⟩
    have HP1 := Lib.hid (HP.out.up t1)
    have HO1 := Lib.hid (HO.out.turn goodW t1 (by simp))
    have HT1 := Lib.hid (HT.out.trans' t1)
    clear t1 HBG
    cases hq : (sees kVar) s1 with
    | false =>
      have HQ := Lib.hid hq
      clear hq
      go_wp2_with fail
      go_ret
      have e1 := HM.out
      rw [HQ.out] at e1
      simp only [Bool.false_eq_true, if_false] at e1
      subst e1
      exact ⟨.slice A0 acc.length c0, rfl, HO1.out.rdv goodW, HP1.out, HT1.out⟩
    | true =>
      have HQ := Lib.hid hq
      have hne : s1.l ≠ [] := sees_ne hq
      clear hq
      have hm := HM.out
      rw [HQ.out] at hm
      simp only [if_true] at hm
      have HMM := Lib.hid hm
      clear hm
      go_wp2_with fail
      refine (room_any en b acc.length 40 s1 w1 HP1.out).mono ?_
      rintro e2 w2 ⟨rfl, h2, t2⟩
      have HP2 := Lib.hid h2
      have HO2 := Lib.hid (HO1.out.turn goodW t2 (by simp; omega))
      have HT2 := Lib.hid (HT1.out.trans t2 (fun g hg => .inl hg))
      obtain ⟨s2, es2⟩ : ∃ q, room (decide (40 ≤ acc.length)) s1 = q := ⟨_, rfl⟩
      rw [es2] at HP2
      have hl2 : s2.l = s1.l := by rw [← es2]; rfl
      have hd2 : s2.deep = s1.deep := by rw [← es2]; rfl
      have hne2 : s2.l ≠ [] := by rw [hl2]; exact hne
      have hlt2 : Lt s2 ((declared en kVar) s2).2 := declared_lt kVar hne2
      have HES2 := Lib.hid es2
      have HD2 := Lib.hid hd2
      have HL2 := Lib.hid (congrArg List.length hl2)
      clear h2 t2 es2 hl2 hd2 hne
      go_wp2_with fail
      refine (local_any en b s2 w2 HP2.out).mono ?_
      rintro e3 w3 ⟨cs, rfl, hr3, h3, t3⟩
      have HP3 := Lib.hid h3
      have HO3 := Lib.hid (HO2.out.turn goodW t3 (by simp; omega))
      have HT3 := Lib.hid (HT2.out.trans t3 (fun g hg => .inl hg))
      obtain ⟨x3, ex3⟩ : ∃ q, ((declared en kVar) s2).1 = q := ⟨_, rfl⟩
      obtain ⟨s3, es3⟩ : ∃ q, ((declared en kVar) s2).2 = q := ⟨_, rfl⟩
      rw [es3] at HP3 hlt2
      rw [ex3] at hr3
      have HLT := Lib.hid hlt2
      have HEX3 := Lib.hid ex3
      have HES3 := Lib.hid es3
      have hsz3 : w.heap.size ≤ w3.heap.size := HT3.out.size
      have hsz2 : w.heap.size ≤ w2.heap.size := HT2.out.size
      clear h3 t3 ex3 es3 hlt2 hne2
      obtain ⟨xt, xn, xl, xc⟩ := x3
      have e9 : cs = [.string xt, .string xn, .int .i64 xl, .int .i64 xc] := hr3
      subst e9
      have HR3 := Lib.hid (goodW.mono hr3 (B := fun g => w.heap.size ≤ g ∧ (Value.slice A0 acc.length c0).ownBlock ≠ some g) (fun g hg _ => ⟨Nat.le_trans hsz2 hg, fun e => by have := (HO2.out.lt e).1; omega⟩))
      clear hr3
      go_wp2_with (refine wpList_appL rfl (.tmp 17) (.tmp 20) 24 rfl w3 107 4 48 _ RdW goodW (fun g => w.heap.size ≤ g) Tryz.underlying24 var_info rfl (by omega) (by omega) (.slice A0 acc.length c0) acc rfl HO3.out _ [.string xt, .string xn, .int .i64 xl, .int .i64 xc] ⟨xt, xn, xl, xc⟩ _ rfl HR3.out rfl (by omega) (by show w.heap.size ≤ w3.heap.size + 1; omega) ?_)
      intro v4 w4 ho4 t4 hb4
      have hvb : ∀ g, (Value.slice A0 acc.length c0).ownBlock = some g → w.heap.size ≤ g := fun g hg => (HO3.out.lt hg).2
      have HP4 := Lib.hid (HP3.out.turn t4 (fun g hg => by have := hvb g (by simpa using hg); omega))
      have HO4 := Lib.hid ho4
      have HT4 := Lib.hid (HT3.out.trans t4 (fun g hg => .inr (hvb g (by simpa using hg))))
      clear ho4 t4 hb4 hvb
      go_wp2_with fail
      go_roundw
      case rel =>
        have h1 := HLT.out
        have h1b := h1.2
        have h2 := HL2.out
        refine ⟨acc ++ [⟨xt, xn, xl, xc⟩], s3, HO4, HP4, HT4, Lib.hid (by rw [h1.1, HD2.out, HD.out]), ⟨by simp; omega, m, by omega, ?_⟩⟩
        have := HMM.out
        rw [HES2.out, HES3.out, HEX3.out] at this
        exact this
      case measure =>
        rw [HP4.out.lenAt, HP.out.lenAt]
        have h1 := HLT.out.2
        have h2 := HL2.out
        omega
end Go.Proofs.YtnmhcgkccchacaaGreatDoor

/- many, of signatures. -/
set_option linter.unusedSimpArgs false
set_option linter.unusedVariables false
set_option maxRecDepth 100000
namespace Go.Proofs.YtnmhcgkccchacaaGreatDoor
open Go.RowKit
theorem method_info : (Tryz.prog.info? 29).map (fun i => (i.zero, i.size, i.bytes)) = some (some (.agg #[.string ⟨#[]⟩, .string ⟨#[]⟩, .bool false, .bool false, .slice none 0 0, .slice none 0 0, .slice none 0 0, .int .i64 0, .int .i64 0]), 9, 128) := by kernel_rfl

set_option maxHeartbeats 6400000 in
theorem manyM_any (en : Nat × Nat) (b : Nat) (s : RS) (g1 g2 : Nat) (w : World) (hP : Pr en w b s) (hB : Bgn w b g1 g2 [kMethod]) :
    Calls Tryz.prog 108 #[.pointer (some ⟨b, 0, none⟩), .int .i64 40, .func (.func 81) #[] #[.pointer (some ⟨g1, 0, none⟩), .pointer (some ⟨g2, 0, none⟩)], .func (.func 109) #[.pointer (some ⟨b, 0, none⟩)] #[]] w fun e w' =>
      ∃ V, e = .returned V ∧ RdV 9 RdM (fun g => w.heap.size ≤ g) w' V (many (sees kMethod) (signature en) 40 (s.l.length + 1) [] s).1 ∧ Pr en w' b (many (sees kMethod) (signature en) 40 (s.l.length + 1) [] s).2 ∧ Turn [b] w w' := by
  have HP0 := Lib.hid hP
  have hl := hP.len
  have hbl := hP.lt
  have hgt := hP.gt
  obtain ⟨R, hR⟩ : ∃ R, many (sees kMethod) (signature en) 40 (s.l.length + 1) [] s = R := ⟨_, rfl⟩
  rw [hR]
  have HR0 := Lib.hid hR
  have HB := Lib.hid hB
  clear hB
  clear hP hR
  go_enter Tryz.func108, Tryz.ntmps108
  go_wp2_with fail
  go_loopw [9] (fun v wr => ∃ (acc : List Mf) (s1 : RS), Hid (OwnL 29 9 RdM (fun g => w.heap.size ≤ g) wr v acc) ∧ Hid (Pr en wr b s1) ∧ Hid (Turn [b] w wr) ∧ Hid (s1.deep = s.deep) ∧ MRel (many (sees kMethod) (signature en) 40) acc s1 R) (fun v wr => lenAt wr b)
  case atStart => exact ⟨[], s, Lib.hid (OwnL.nil _ _ _), Lib.hid HP0.out, Lib.hid (Turn.refl _ _), Lib.hid rfl, ⟨by simpa using hl, s.l.length + 1, by omega, HR0.out⟩⟩
  case round =>
    obtain ⟨acc, s1, HO, HP, HT, HD, HR⟩ := hrel
    obtain ⟨A0, c0, rfl, hc0⟩ := HO.out.form
    obtain ⟨hle, n, hn, hmany⟩ := HR
    obtain ⟨m, rfl⟩ : ∃ m, n = m + 1 := ⟨n - 1, by omega⟩
    unfold many at hmany
    have HM := Lib.hid hmany
    clear hmany
    have HBG := Lib.hid ((begins1_any en b g1 g2 [kMethod] s1 wr HP.out (HB.out.turn HT.out (by simp)) (by simp)).mono (fun e w' h => And.intro (h.1.trans (ret_bool (seesAny_one _ _))) h.2))
    go_wp2_with fail
    refine HBG.out.mono ?_
    rintro e1 w1 ⟨rfl, t1⟩
    have HP1 := Lib.hid (HP.out.up t1)
    have HO1 := Lib.hid (HO.out.turn goodM t1 (by simp))
    have HT1 := Lib.hid (HT.out.trans' t1)
    clear t1 HBG
    cases hq : (sees kMethod) s1 with
    | false =>
      have HQ := Lib.hid hq
      clear hq
      go_wp2_with fail
      go_ret
      have e1 := HM.out
      rw [HQ.out] at e1
      simp only [Bool.false_eq_true, if_false] at e1
      subst e1
      exact ⟨.slice A0 acc.length c0, rfl, HO1.out.rdv goodM, HP1.out, HT1.out⟩
    | true =>
      have HQ := Lib.hid hq
      have hne : s1.l ≠ [] := sees_ne hq
      clear hq
      have hm := HM.out
      rw [HQ.out] at hm
      simp only [if_true] at hm
      have HMM := Lib.hid hm
      clear hm
      go_wp2_with fail
      refine (room_any en b acc.length 40 s1 w1 HP1.out).mono ?_
      rintro e2 w2 ⟨rfl, h2, t2⟩
      have HP2 := Lib.hid h2
      have HO2 := Lib.hid (HO1.out.turn goodM t2 (by simp; omega))
      have HT2 := Lib.hid (HT1.out.trans t2 (fun g hg => .inl hg))
      obtain ⟨s2, es2⟩ : ∃ q, room (decide (40 ≤ acc.length)) s1 = q := ⟨_, rfl⟩
      rw [es2] at HP2
      have hl2 : s2.l = s1.l := by rw [← es2]; rfl
      have hd2 : s2.deep = s1.deep := by rw [← es2]; rfl
      have hne2 : s2.l ≠ [] := by rw [hl2]; exact hne
      have hlt2 : Lt s2 ((signature en) s2).2 := signature_lt hne2
      have HES2 := Lib.hid es2
      have HD2 := Lib.hid hd2
      have HL2 := Lib.hid (congrArg List.length hl2)
      clear h2 t2 es2 hl2 hd2 hne
      go_wp2_with fail
      refine (signature_any en b s2 w2 HP2.out).mono ?_
      rintro e3 w3 ⟨cs, rfl, hr3, h3, t3⟩
      have HP3 := Lib.hid h3
      have HO3 := Lib.hid (HO2.out.turn goodM t3 (by simp; omega))
      have HT3 := Lib.hid (HT2.out.trans t3 (fun g hg => .inl hg))
      obtain ⟨x3, ex3⟩ : ∃ q, ((signature en) s2).1 = q := ⟨_, rfl⟩
      obtain ⟨s3, es3⟩ : ∃ q, ((signature en) s2).2 = q := ⟨_, rfl⟩
      rw [es3] at HP3 hlt2
      rw [ex3] at hr3
      have HLT := Lib.hid hlt2
      have HEX3 := Lib.hid ex3
      have HES3 := Lib.hid es3
      have hsz3 : w.heap.size ≤ w3.heap.size := HT3.out.size
      have hsz2 : w.heap.size ≤ w2.heap.size := HT2.out.size
      clear h3 t3 ex3 es3 hlt2 hne2
      obtain ⟨mr, mn, mst, mb, mps, mls, mbd, mln, mcl⟩ := x3
      obtain ⟨V1, V2, V3, ecs, k1, k2, k3⟩ := id hr3
      simp only at ecs
      subst ecs
      obtain ⟨P1, q1, rfl, _, _⟩ := k1
      obtain ⟨P2, q2, rfl, _, _⟩ := k2
      obtain ⟨P3, q3, rfl, _, _⟩ := k3
      have HR3 := Lib.hid (goodM.mono hr3 (B := fun g => w.heap.size ≤ g ∧ (Value.slice A0 acc.length c0).ownBlock ≠ some g) (fun g hg _ => ⟨Nat.le_trans hsz2 hg, fun e => by have := (HO2.out.lt e).1; omega⟩))
      clear hr3
      go_wp2_with (refine wpList_appL rfl (.tmp 17) (.tmp 20) 66 rfl w3 29 9 128 _ RdM goodM (fun g => w.heap.size ≤ g) Tryz.underlying66 method_info rfl (by omega) (by omega) (.slice A0 acc.length c0) acc rfl HO3.out _ [.string mr, .string mn, .bool mst, .bool mb, .slice P1 mps.length q1, .slice P2 mls.length q2, .slice P3 mbd.length q3, .int .i64 mln, .int .i64 mcl] ⟨mr, mn, mst, mb, mps, mls, mbd, mln, mcl⟩ _ rfl HR3.out rfl (by omega) (by show w.heap.size ≤ w3.heap.size + 1; omega) ?_)
      intro v4 w4 ho4 t4 hb4
      have hvb : ∀ g, (Value.slice A0 acc.length c0).ownBlock = some g → w.heap.size ≤ g := fun g hg => (HO3.out.lt hg).2
      have HP4 := Lib.hid (HP3.out.turn t4 (fun g hg => by have := hvb g (by simpa using hg); omega))
      have HO4 := Lib.hid ho4
      have HT4 := Lib.hid (HT3.out.trans t4 (fun g hg => .inr (hvb g (by simpa using hg))))
      clear ho4 t4 hb4 hvb
      go_wp2_with fail
      go_roundw
      case rel =>
        have h1 := HLT.out
        have h1b := h1.2
        have h2 := HL2.out
        refine ⟨acc ++ [⟨mr, mn, mst, mb, mps, mls, mbd, mln, mcl⟩], s3, HO4, HP4, HT4, Lib.hid (by rw [h1.1, HD2.out, HD.out]), ⟨by simp; omega, m, by omega, ?_⟩⟩
        have := HMM.out
        rw [HES2.out, HES3.out, HEX3.out] at this
        exact this
      case measure =>
        rw [HP4.out.lenAt, HP.out.lenAt]
        have h1 := HLT.out.2
        have h2 := HL2.out
        omega
end Go.Proofs.YtnmhcgkccchacaaGreatDoor

/- A class that is being read: its block. -/
set_option linter.unusedSimpArgs false
set_option linter.unusedVariables false
set_option maxRecDepth 100000
namespace Go.Proofs.YtnmhcgkccchacaaGreatDoor
open Go.RowKit

def cbC (p : Cf) (V1 V2 V3 V4 V5 : Value) : Array Value := #[.string p.nm, .string p.sup, .bool p.face, V1, V2, V3, V4, V5, .int .i64 p.ln, .int .i64 p.cl]
/-- The block sb holds the class p; the lists that grow lie apart. -/
structure CB (w : World) (b sb : Nat) (p : Cf) (V1 V2 V3 V4 V5 : Value) (A1 A2 A3 : Nat → Prop) : Prop where
  gt : b < sb
  blk : w.heap[sb]? = some (.cells (cbC p V1 V2 V3 V4 V5) 69 (0, 0))
  a1 : ∀ g, A1 g → sb < g ∧ g < w.heap.size
  a2 : ∀ g, A2 g → sb < g ∧ g < w.heap.size
  a3 : ∀ g, A3 g → sb < g ∧ g < w.heap.size
  d12 : ∀ g, A1 g → ¬ A2 g
  d13 : ∀ g, A1 g → ¬ A3 g
  d23 : ∀ g, A2 g → ¬ A3 g
  fs : RdV 1 RdT (fun g => sb < g ∧ ¬ A1 g ∧ ¬ A2 g ∧ ¬ A3 g) w V1 p.fs
  fd : OwnL 107 4 RdW A1 w V2 p.fd
  sc : OwnL 107 4 RdW A2 w V3 p.sc
  ms : OwnL 29 9 RdM A3 w V4 p.ms
  ini : RdI (fun g => sb < g ∧ ¬ A1 g ∧ ¬ A2 g ∧ ¬ A3 g) w V5 p.ini
def Cb (w : World) (b sb : Nat) (p : Cf) : Prop := ∃ V1 V2 V3 V4 V5 A1 A2 A3, CB w b sb p V1 V2 V3 V4 V5 A1 A2 A3
/-- Of the blocks below sb none but b has turned. -/
def Tq (b sb : Nat) (w w' : World) : Prop := ∃ F, Turn F w w' ∧ ∀ g ∈ F, g = b ∨ sb ≤ g
theorem Tq.refl (b sb : Nat) (w : World) : Tq b sb w w := ⟨[], Turn.refl _ _, by simp⟩
theorem Tq.trans {b sb : Nat} {w w' w'' : World} (h : Tq b sb w w') (k : Tq b sb w' w'') : Tq b sb w w'' := by
  obtain ⟨F, t, hF⟩ := h
  obtain ⟨G, u, hG⟩ := k
  refine ⟨F ++ G, (t.more (fun g hg => .inl (List.mem_append_left _ hg))).trans (G := F ++ G) (u.more (fun g hg => .inl (List.mem_append_right _ hg))) (fun g hg => .inl hg), fun g hg => ?_⟩
  rcases List.mem_append.1 hg with h | h
  · exact hF g h
  · exact hG g h
theorem Tq.of {b sb : Nat} {F : List Nat} {w w' : World} (t : Turn F w w') (h : ∀ g ∈ F, g = b ∨ sb ≤ g) : Tq b sb w w' := ⟨F, t, h⟩
theorem Tq.set {b sb i : Nat} {u : Value} (w : World) : Tq b sb w (w.setCell ⟨sb, i, none⟩ u) := ⟨[sb], (Turn.refl [sb] w).setCell (.inl (by simp)) _, by simp⟩
structure StC (en : Nat × Nat) (w0 w : World) (b sb : Nat) (s : RS) (p : Cf) : Prop where
  pr : Pr en w b s
  ss : Cb w b sb p
  tt : Tq b sb w0 w
section
variable {en : Nat × Nat} {w0 w w' : World} {b sb : Nat} {s s' : RS} {p p' : Cf}
theorem CB.turn {V1 V2 V3 V4 V5 : Value} {A1 A2 A3 : Nat → Prop} {F : List Nat} (h : CB w b sb p V1 V2 V3 V4 V5 A1 A2 A3) (t : Turn F w w') (hF : ∀ g ∈ F, g < sb) : CB w' b sb p V1 V2 V3 V4 V5 A1 A2 A3 :=
  ⟨h.gt, t.heap h.blk (fun hg => Nat.lt_irrefl _ (hF _ hg)), fun g hg => ⟨(h.a1 g hg).1, Nat.lt_of_lt_of_le (h.a1 g hg).2 t.size⟩, fun g hg => ⟨(h.a2 g hg).1, Nat.lt_of_lt_of_le (h.a2 g hg).2 t.size⟩, fun g hg => ⟨(h.a3 g hg).1, Nat.lt_of_lt_of_le (h.a3 g hg).2 t.size⟩, h.d12, h.d13, h.d23,
    h.fs.turn goodT t (fun g hg h1 => by have := hF g hg; omega), h.fd.turn goodW t (fun g hg h1 => by have := hF g hg; have := (h.a1 g h1).1; omega), h.sc.turn goodW t (fun g hg h1 => by have := hF g hg; have := (h.a2 g h1).1; omega),
    h.ms.turn goodM t (fun g hg h1 => by have := hF g hg; have := (h.a3 g h1).1; omega), h.ini.turn t (fun g hg h1 => by have := hF g hg; omega)⟩
theorem Cb.turn {F : List Nat} (h : Cb w b sb p) (t : Turn F w w') (hF : ∀ g ∈ F, g < sb) : Cb w' b sb p := by
  obtain ⟨V1, V2, V3, V4, V5, A1, A2, A3, h⟩ := h
  exact ⟨V1, V2, V3, V4, V5, A1, A2, A3, h.turn t hF⟩
theorem Cb.gt (h : Cb w b sb p) : b < sb := by
  obtain ⟨V1, V2, V3, V4, V5, A1, A2, A3, h⟩ := h
  exact h.gt
theorem Cb.lt (h : Cb w b sb p) : sb < w.heap.size := by
  obtain ⟨V1, V2, V3, V4, V5, A1, A2, A3, h⟩ := h
  exact (Array.getElem?_eq_some_iff.1 h.blk).1
theorem Cb.cells (h : Cb w b sb p) : ∃ V1 V2 V3 V4 V5, (∀ i, w.cell? ⟨sb, i, none⟩ = (cbC p V1 V2 V3 V4 V5)[i]?) ∧ ∀ i, w.frozen? ⟨sb, i, none⟩ = false := by
  obtain ⟨V1, V2, V3, V4, V5, A1, A2, A3, h⟩ := h
  exact ⟨V1, V2, V3, V4, V5, fun i => cell_of_row w sb i _ _ _ h.blk, fun i => frozen_of_row w sb i _ _ h.blk⟩
theorem CB.set0 {V1 V2 V3 V4 V5 : Value} {A1 A2 A3 : Nat → Prop} {i : Nat} {u : Value} (h : CB w b sb p V1 V2 V3 V4 V5 A1 A2 A3) (e : (cbC p V1 V2 V3 V4 V5).setIfInBounds i u = cbC p' V1 V2 V3 V4 V5) (e1 : p'.fs = p.fs) (e2 : p'.fd = p.fd) (e3 : p'.sc = p.sc) (e4 : p'.ms = p.ms) (e5 : p'.ini = p.ini) : CB (w.setCell ⟨sb, i, none⟩ u) b sb p' V1 V2 V3 V4 V5 A1 A2 A3 := by
  have t : Turn [sb] w (w.setCell ⟨sb, i, none⟩ u) := (Turn.refl [sb] w).setCell (.inl (by simp)) _
  have hs : (w.setCell ⟨sb, i, none⟩ u).heap.size = w.heap.size := by simp
  refine ⟨h.gt, rset h.blk e, by rw [hs]; exact h.a1, by rw [hs]; exact h.a2, by rw [hs]; exact h.a3, h.d12, h.d13, h.d23, ?_, ?_, ?_, ?_, ?_⟩
  · rw [e1]; exact h.fs.turn goodT t (by simp)
  · rw [e2]; exact h.fd.turn goodW t (by simp; intro h1; have := (h.a1 _ h1).1; omega)
  · rw [e3]; exact h.sc.turn goodW t (by simp; intro h1; have := (h.a2 _ h1).1; omega)
  · rw [e4]; exact h.ms.turn goodM t (by simp; intro h1; have := (h.a3 _ h1).1; omega)
  · rw [e5]; exact h.ini.turn t (by simp)
theorem StC.mk0 (h : Pr en w b s) (k : Cb w b sb p) : StC en w w b sb s p := ⟨h, k, Tq.refl _ _ _⟩
theorem StC.call (h : StC en w0 w b sb s p) (k : Pr en w' b s') (t : Turn [b] w w') : StC en w0 w' b sb s' p := ⟨k, h.ss.turn t (by simp; exact h.ss.gt), h.tt.trans (Tq.of t (by simp))⟩
theorem StC.up (h : StC en w0 w b sb s p) (t : Turn [] w w') : StC en w0 w' b sb s p := ⟨h.pr.up t, h.ss.turn t (by simp), h.tt.trans (Tq.of t (by simp))⟩
theorem StC.callS (h : StC en w0 w b sb s p) (k : StC en w w' b sb s' p') : StC en w0 w' b sb s' p' := ⟨k.pr, k.ss, h.tt.trans k.tt⟩
theorem StC.set (h : StC en w0 w b sb s p) {i : Nat} {u : Value} (k : Cb (w.setCell ⟨sb, i, none⟩ u) b sb p') : StC en w0 (w.setCell ⟨sb, i, none⟩ u) b sb s p' :=
  ⟨h.pr.turn (F := [sb]) ((Turn.refl [sb] w).setCell (.inl (by simp)) _) (by simp; exact h.ss.gt), k, h.tt.trans (Tq.set w)⟩
theorem StC.set_nm (h : StC en w0 w b sb s p) (u : ByteArray) : StC en w0 (w.setCell ⟨sb, 0, none⟩ (.string u)) b sb s { p with nm := u } := by
  refine h.set ?_
  obtain ⟨V1, V2, V3, V4, V5, A1, A2, A3, h⟩ := h.ss
  exact ⟨V1, V2, V3, V4, V5, A1, A2, A3, h.set0 rfl rfl rfl rfl rfl rfl⟩
theorem StC.set_sup (h : StC en w0 w b sb s p) (u : ByteArray) : StC en w0 (w.setCell ⟨sb, 1, none⟩ (.string u)) b sb s { p with sup := u } := by
  refine h.set ?_
  obtain ⟨V1, V2, V3, V4, V5, A1, A2, A3, h⟩ := h.ss
  exact ⟨V1, V2, V3, V4, V5, A1, A2, A3, h.set0 rfl rfl rfl rfl rfl rfl⟩
theorem StC.call_fs (h : StC en w0 w b sb s p) (k : Pr en w' b s') (t : Turn [b] w w') {V : Value} {l : List ByteArray} (hv : RdV 1 RdT (fun g => w.heap.size ≤ g) w' V l) : StC en w0 (w'.setCell ⟨sb, 3, none⟩ V) b sb s' { p with fs := l } := by
  refine (h.call k t).set ?_
  obtain ⟨V1, V2, V3, V4, V5, A1, A2, A3, h0⟩ := h.ss
  have h1 := h0.turn t (by simp; exact h0.gt)
  have t2 : Turn [sb] w' (w'.setCell ⟨sb, 3, none⟩ V) := (Turn.refl [sb] w').setCell (.inl (by simp)) _
  have hs : (w'.setCell ⟨sb, 3, none⟩ V).heap.size = w'.heap.size := by simp
  have hsb := (Array.getElem?_eq_some_iff.1 h0.blk).1
  refine ⟨V, V2, V3, V4, V5, A1, A2, A3, h1.gt, rset h1.blk rfl, by rw [hs]; exact h1.a1, by rw [hs]; exact h1.a2, by rw [hs]; exact h1.a3, h1.d12, h1.d13, h1.d23, ?_, ?_, ?_, ?_, ?_⟩
  · refine (hv.mono (B := fun g => sb < g ∧ ¬ A1 g ∧ ¬ A2 g ∧ ¬ A3 g) goodT (fun g hg _ => ⟨by omega, fun h => ?_, fun h => ?_, fun h => ?_⟩)).turn goodT t2 (by simp)
    · have := (h0.a1 g h).2; omega
    · have := (h0.a2 g h).2; omega
    · have := (h0.a3 g h).2; omega
  · exact h1.fd.turn goodW t2 (by simp; intro h; have := (h1.a1 _ h).1; omega)
  · exact h1.sc.turn goodW t2 (by simp; intro h; have := (h1.a2 _ h).1; omega)
  · exact h1.ms.turn goodM t2 (by simp; intro h; have := (h1.a3 _ h).1; omega)
  · exact h1.ini.turn t2 (by simp)
/-- The class's lists, one grown by one. -/
theorem CB.app_fd {w1 w2 : World} {V1 V2 V3 V4 V5 v' : Value} {A1 A2 A3 : Nat → Prop} {l : List Vf} (h : CB w b sb p V1 V2 V3 V4 V5 A1 A2 A3) (t : Turn [b] w w1) (t2 : Turn V2.ownBlock.toList w1 w2) (ho : OwnL 107 4 RdW (fun g => A1 g ∨ w.heap.size ≤ g) w2 v' l) : Cb (w2.setCell ⟨sb, 4, none⟩ v') b sb { p with fd := l } := by
  have h1 := h.turn t (by simp; exact h.gt)
  have hsb := (Array.getElem?_eq_some_iff.1 h.blk).1
  have hF : ∀ g ∈ V2.ownBlock.toList, A1 g := fun g hg => (h1.fd.lt (by simpa using hg)).2
  have t3 : Turn [sb] w2 (w2.setCell ⟨sb, 4, none⟩ v') := (Turn.refl [sb] w2).setCell (.inl (by simp)) _
  have hs : (w2.setCell ⟨sb, 4, none⟩ v').heap.size = w2.heap.size := by simp
  have hsz := t.size
  have hsz2 := t2.size
  refine ⟨V1, v', V3, V4, V5, fun g => (A1 g ∨ w.heap.size ≤ g) ∧ g < w2.heap.size, A2, A3, h.gt, rset (t2.heap h1.blk (fun hg => by have := (h.a1 _ (hF _ hg)).1; omega)) rfl, ?_, ?_, ?_, ?_, ?_, h.d23, ?_, ?_, ?_, ?_, ?_⟩
  · rw [hs]; rintro g ⟨hg | hg, hl⟩
    · exact ⟨(h.a1 g hg).1, hl⟩
    · exact ⟨by omega, hl⟩
  · rw [hs]; exact fun g hg => ⟨(h.a2 g hg).1, by have := (h1.a2 g hg).2; omega⟩
  · rw [hs]; exact fun g hg => ⟨(h.a3 g hg).1, by have := (h1.a3 g hg).2; omega⟩
  · rintro g ⟨hg | hg, _⟩ h2
    · exact h.d12 g hg h2
    · have := (h.a2 g h2).2; omega
  · rintro g ⟨hg | hg, _⟩ h2
    · exact h.d13 g hg h2
    · have := (h.a3 g h2).2; omega
  · have k := h.fs.mono (B := fun g => (sb < g ∧ ¬ A1 g ∧ ¬ A2 g ∧ ¬ A3 g) ∧ g < w.heap.size) goodT (fun g hg hl => ⟨hg, hl⟩)
    have k1 := (k.turn goodT t (by simp; intro h1; have := h.gt; omega)).turn goodT t2 (fun g hg hh => hh.1.2.1 (hF g hg))
    refine (k1.mono (B := fun g => sb < g ∧ ¬ ((A1 g ∨ w.heap.size ≤ g) ∧ g < w2.heap.size) ∧ ¬ A2 g ∧ ¬ A3 g) goodT (fun g hg _ => ⟨hg.1.1, fun hh => ?_, hg.1.2.2⟩)).turn goodT t3 (by simp)
    rcases hh.1 with hh | hh
    · exact hg.1.2.1 hh
    · omega
  · refine (ho.mono goodW (fun g hg hl => ⟨hg, hl⟩)).turn goodW t3 ?_
    simp
    rintro (h2 | h2)
    · have := (h.a1 _ h2).1; omega
    · omega
  · exact (h1.sc.turn goodW t2 (fun g hg hh => h.d12 g (hF g hg) hh)).turn goodW t3 (by simp; intro h2; have := (h.a2 _ h2).1; omega)
  · exact (h1.ms.turn goodM t2 (fun g hg hh => h.d13 g (hF g hg) hh)).turn goodM t3 (by simp; intro h2; have := (h.a3 _ h2).1; omega)
  · have k := h.ini.mono (B := fun g => (sb < g ∧ ¬ A1 g ∧ ¬ A2 g ∧ ¬ A3 g) ∧ g < w.heap.size) (fun g hg hl => ⟨hg, hl⟩)
    have k1 := (k.turn t (by simp; intro h1; have := h.gt; omega)).turn t2 (fun g hg hh => hh.1.2.1 (hF g hg))
    refine (k1.mono (B := fun g => sb < g ∧ ¬ ((A1 g ∨ w.heap.size ≤ g) ∧ g < w2.heap.size) ∧ ¬ A2 g ∧ ¬ A3 g) (fun g hg _ => ⟨hg.1.1, fun hh => ?_, hg.1.2.2⟩)).turn t3 (by simp)
    rcases hh.1 with hh | hh
    · exact hg.1.2.1 hh
    · omega
end
end Go.Proofs.YtnmhcgkccchacaaGreatDoor

/- append of one thing onto a list of the program's own, at a step of a region that draws its order. -/
set_option linter.unusedSimpArgs false
set_option linter.unusedVariables false
set_option maxRecDepth 100000
namespace Go.Proofs.YtnmhcgkccchacaaGreatDoor
open Go.RowKit

section
variable {P : Program} {α : Type}
theorem step_appL {ops : Array Oper} {o : Oper} {a : Act} {K : Act → World → Prop} {Q : Exit → Act → World → Prop} {E : Prop} (hgd : o.guard = none) (s x : Operand) (t : TypeId)
    (ho : o.op = .call { callee := .builtin .append, args := #[s, x], argTypes := #[t, t] })
    (W : World) (e sz bytes : Nat) (z : Value) (R : Rdg α) (hR : GoodR sz R) (A : Nat → Prop) (ht : P.underlying t = some (.slice e)) (hi : (P.info? e).map (fun i => (i.zero, i.size, i.bytes)) = some (some z, sz, bytes))
    (hzs : z.cells.size = sz) (hsz : 0 < sz) (hby : bytes ≤ 1000)
    (v : Value) (l : List α) (hs : a.eval s = v) (hown : OwnL e sz R A W v l) (vb c : Nat) (cs : List Value) (y : α) (hb : W.heap[vb]? = some (.cells cs.toArray e (0, 0))) (hr : R (fun g => A g ∧ v.ownBlock ≠ some g) W cs y)
    (hx : a.eval x = .slice (some ⟨vb, 0, none⟩) 1 c) (hl : l.length ≤ 1000000) (hA : A W.heap.size)
    (h : ∀ v' w', OwnL e sz R A w' v' (l ++ [y]) → Turn v.ownBlock.toList W w' → K (a.put o.dst v') w') :
    if Region.wanted o (yielded ops a.tmps) = true then Oper.wp P o a W K Q else E := by
  obtain ⟨css, h1, h2, h3, h4⟩ := hown
  have hlen := hR.len hr
  refine step_appR hgd s x t ho W e z sz bytes ht hi hzs hsz v l.length css.flatten hs h2 _ 1 c cs hx ?_ (hR.one hr) (by simp only [maxLen]; omega) ?_ ?_
  · refine ⟨by rw [hlen]; omega, .inr ⟨vb, 0, rfl, (Array.getElem?_eq_some_iff.1 hb).1, fun j u hj => ?_⟩⟩
    rw [Nat.zero_add, cell_of_row _ vb _ _ _ _ hb]
    simpa using hj
  · have : (l.length + 1) * bytes ≤ 1000001 * 1000 := Nat.mul_le_mul (by omega) hby
    omega
  · intro v' w' k1 k2 hne
    refine h v' w' ⟨css ++ [cs], by simp [h1], ?_, ?_, ?_⟩ k2
    · rw [List.length_append, List.flatten_append]
      simpa using k1
    · intro g hg
      rcases hne with k | k
      · exact h3 g (by rw [← k]; exact hg)
      · rw [k] at hg; injection hg with hg; rw [← hg]; exact hA
    · have hold : ∀ cs' x', R (fun g => A g ∧ v.ownBlock ≠ some g) W cs' x' → R (fun g => A g ∧ v'.ownBlock ≠ some g) w' cs' x' := fun cs' x' hr' => by
        have hm : R (fun g => (A g ∧ v.ownBlock ≠ some g) ∧ g < W.heap.size) W cs' x' := hR.mono hr' (fun g ha hg => ⟨ha, hg⟩)
        refine hR.mono (hR.turn hm k2 (fun g hg ha => ha.1.2 (by simpa using hg))) (fun g ha _ => ⟨ha.1.1, fun e => ?_⟩)
        rcases hne with k | k
        · exact ha.1.2 (by rw [← k]; exact e)
        · rw [k] at e; injection e with e; have := ha.2; omega
      intro i cs' x' hc hx'
      by_cases hi' : i < l.length
      · rw [List.getElem?_append_left (by omega)] at hc
        rw [List.getElem?_append_left hi'] at hx'
        exact hold _ _ (h4 i cs' x' hc hx')
      · have hil : i = l.length := by
          have := (List.getElem?_eq_some_iff.1 hx').1
          rw [List.length_append] at this
          simp at this
          omega
        subst hil
        rw [List.getElem?_append_right (by omega), h1] at hc
        rw [List.getElem?_append_right (Nat.le_refl _)] at hx'
        simp at hc hx'
        subst hc hx'
        exact hold _ _ hr
end
end Go.Proofs.YtnmhcgkccchacaaGreatDoor

/- A class's lists grown by one, its init set. Printed by mkcbl.py. -/
set_option linter.unusedSimpArgs false
set_option linter.unusedVariables false
set_option maxRecDepth 100000
namespace Go.Proofs.YtnmhcgkccchacaaGreatDoor
open Go.RowKit

section
variable {en : Nat × Nat} {w0 w w' : World} {b sb : Nat} {s s' : RS} {p p' : Cf}
theorem CB.app_sc {w1 w2 : World} {V1 V2 V3 V4 V5 v' : Value} {A1 A2 A3 : Nat → Prop} {l : List Vf} (h : CB w b sb p V1 V2 V3 V4 V5 A1 A2 A3) (t : Turn [b] w w1) (t2 : Turn V3.ownBlock.toList w1 w2) (ho : OwnL 107 4 RdW (fun g => A2 g ∨ w.heap.size ≤ g) w2 v' l) : Cb (w2.setCell ⟨sb, 5, none⟩ v') b sb { p with sc := l } := by
  have h1 := h.turn t (by simp; exact h.gt)
  have hsb := (Array.getElem?_eq_some_iff.1 h.blk).1
  have hF : ∀ g ∈ V3.ownBlock.toList, A2 g := fun g hg => (h1.sc.lt (by simpa using hg)).2
  have t3 : Turn [sb] w2 (w2.setCell ⟨sb, 5, none⟩ v') := (Turn.refl [sb] w2).setCell (.inl (by simp)) _
  have hs : (w2.setCell ⟨sb, 5, none⟩ v').heap.size = w2.heap.size := by simp
  have hsz := t.size
  have hsz2 := t2.size
  refine ⟨V1, V2, v', V4, V5, A1, (fun g => (A2 g ∨ w.heap.size ≤ g) ∧ g < w2.heap.size), A3, h.gt, rset (t2.heap h1.blk (fun hg => by have := (h.a2 _ (hF _ hg)).1; omega)) rfl, ?_, ?_, ?_, ?_, ?_, ?_, ?_, ?_, ?_, ?_, ?_⟩
  · rw [hs]; exact fun g hg => ⟨(h.a1 g hg).1, by have := (h1.a1 g hg).2; omega⟩
  · rw [hs]; rintro g ⟨hg | hg, hl⟩
    · exact ⟨(h.a2 g hg).1, hl⟩
    · exact ⟨by omega, hl⟩
  · rw [hs]; exact fun g hg => ⟨(h.a3 g hg).1, by have := (h1.a3 g hg).2; omega⟩
  · rintro g h2 ⟨hg | hg, _⟩
    · exact h.d12 g h2 hg
    · have := (h.a1 g h2).2; omega
  · exact h.d13
  · rintro g ⟨hg | hg, _⟩ h2
    · exact h.d23 g hg h2
    · have := (h.a3 g h2).2; omega
  · have k := h.fs.mono (B := fun g => (sb < g ∧ ¬ A1 g ∧ ¬ A2 g ∧ ¬ A3 g) ∧ g < w.heap.size) goodT (fun g hg hl => ⟨hg, hl⟩)
    have k1 := (k.turn goodT t (by simp; intro h1; have := h.gt; omega)).turn goodT t2 (fun g hg hh => hh.1.2.2.1 (hF g hg))
    refine (k1.mono (B := (fun g => sb < g ∧ ¬ A1 g ∧ ¬ ((A2 g ∨ w.heap.size ≤ g) ∧ g < w2.heap.size) ∧ ¬ A3 g)) goodT (fun g hg _ => ⟨hg.1.1, hg.1.2.1, fun hh => ?_, hg.1.2.2.2⟩)).turn goodT t3 (by simp)
    rcases hh.1 with hh | hh
    · exact hg.1.2.2.1 hh
    · omega
  · exact (h1.fd.turn goodW t2 (fun g hg hh => h.d12 g hh (hF g hg))).turn goodW t3 (by simp; intro h2; have := (h.a1 _ h2).1; omega)
  · refine (ho.mono goodW (fun g hg hl => ⟨hg, hl⟩)).turn goodW t3 ?_
    simp
    rintro (h2 | h2)
    · have := (h.a2 _ h2).1; omega
    · omega
  · exact (h1.ms.turn goodM t2 (fun g hg hh => h.d23 g (hF g hg) hh)).turn goodM t3 (by simp; intro h2; have := (h.a3 _ h2).1; omega)
  · have k := h.ini.mono (B := fun g => (sb < g ∧ ¬ A1 g ∧ ¬ A2 g ∧ ¬ A3 g) ∧ g < w.heap.size) (fun g hg hl => ⟨hg, hl⟩)
    have k1 := (k.turn t (by simp; intro h1; have := h.gt; omega)).turn t2 (fun g hg hh => hh.1.2.2.1 (hF g hg))
    refine (k1.mono (B := (fun g => sb < g ∧ ¬ A1 g ∧ ¬ ((A2 g ∨ w.heap.size ≤ g) ∧ g < w2.heap.size) ∧ ¬ A3 g)) (fun g hg _ => ⟨hg.1.1, hg.1.2.1, fun hh => ?_, hg.1.2.2.2⟩)).turn t3 (by simp)
    rcases hh.1 with hh | hh
    · exact hg.1.2.2.1 hh
    · omega
theorem CB.app_ms {w1 w2 : World} {V1 V2 V3 V4 V5 v' : Value} {A1 A2 A3 : Nat → Prop} {l : List Mf} (h : CB w b sb p V1 V2 V3 V4 V5 A1 A2 A3) (t : Turn [b] w w1) (t2 : Turn V4.ownBlock.toList w1 w2) (ho : OwnL 29 9 RdM (fun g => A3 g ∨ w.heap.size ≤ g) w2 v' l) : Cb (w2.setCell ⟨sb, 6, none⟩ v') b sb { p with ms := l } := by
  have h1 := h.turn t (by simp; exact h.gt)
  have hsb := (Array.getElem?_eq_some_iff.1 h.blk).1
  have hF : ∀ g ∈ V4.ownBlock.toList, A3 g := fun g hg => (h1.ms.lt (by simpa using hg)).2
  have t3 : Turn [sb] w2 (w2.setCell ⟨sb, 6, none⟩ v') := (Turn.refl [sb] w2).setCell (.inl (by simp)) _
  have hs : (w2.setCell ⟨sb, 6, none⟩ v').heap.size = w2.heap.size := by simp
  have hsz := t.size
  have hsz2 := t2.size
  refine ⟨V1, V2, V3, v', V5, A1, A2, (fun g => (A3 g ∨ w.heap.size ≤ g) ∧ g < w2.heap.size), h.gt, rset (t2.heap h1.blk (fun hg => by have := (h.a3 _ (hF _ hg)).1; omega)) rfl, ?_, ?_, ?_, ?_, ?_, ?_, ?_, ?_, ?_, ?_, ?_⟩
  · rw [hs]; exact fun g hg => ⟨(h.a1 g hg).1, by have := (h1.a1 g hg).2; omega⟩
  · rw [hs]; exact fun g hg => ⟨(h.a2 g hg).1, by have := (h1.a2 g hg).2; omega⟩
  · rw [hs]; rintro g ⟨hg | hg, hl⟩
    · exact ⟨(h.a3 g hg).1, hl⟩
    · exact ⟨by omega, hl⟩
  · exact h.d12
  · rintro g h2 ⟨hg | hg, _⟩
    · exact h.d13 g h2 hg
    · have := (h.a1 g h2).2; omega
  · rintro g h2 ⟨hg | hg, _⟩
    · exact h.d23 g h2 hg
    · have := (h.a2 g h2).2; omega
  · have k := h.fs.mono (B := fun g => (sb < g ∧ ¬ A1 g ∧ ¬ A2 g ∧ ¬ A3 g) ∧ g < w.heap.size) goodT (fun g hg hl => ⟨hg, hl⟩)
    have k1 := (k.turn goodT t (by simp; intro h1; have := h.gt; omega)).turn goodT t2 (fun g hg hh => hh.1.2.2.2 (hF g hg))
    refine (k1.mono (B := (fun g => sb < g ∧ ¬ A1 g ∧ ¬ A2 g ∧ ¬ ((A3 g ∨ w.heap.size ≤ g) ∧ g < w2.heap.size))) goodT (fun g hg _ => ⟨hg.1.1, hg.1.2.1, hg.1.2.2.1, fun hh => ?_⟩)).turn goodT t3 (by simp)
    rcases hh.1 with hh | hh
    · exact hg.1.2.2.2 hh
    · omega
  · exact (h1.fd.turn goodW t2 (fun g hg hh => h.d13 g hh (hF g hg))).turn goodW t3 (by simp; intro h2; have := (h.a1 _ h2).1; omega)
  · exact (h1.sc.turn goodW t2 (fun g hg hh => h.d23 g hh (hF g hg))).turn goodW t3 (by simp; intro h2; have := (h.a2 _ h2).1; omega)
  · refine (ho.mono goodM (fun g hg hl => ⟨hg, hl⟩)).turn goodM t3 ?_
    simp
    rintro (h2 | h2)
    · have := (h.a3 _ h2).1; omega
    · omega
  · have k := h.ini.mono (B := fun g => (sb < g ∧ ¬ A1 g ∧ ¬ A2 g ∧ ¬ A3 g) ∧ g < w.heap.size) (fun g hg hl => ⟨hg, hl⟩)
    have k1 := (k.turn t (by simp; intro h1; have := h.gt; omega)).turn t2 (fun g hg hh => hh.1.2.2.2 (hF g hg))
    refine (k1.mono (B := (fun g => sb < g ∧ ¬ A1 g ∧ ¬ A2 g ∧ ¬ ((A3 g ∨ w.heap.size ≤ g) ∧ g < w2.heap.size))) (fun g hg _ => ⟨hg.1.1, hg.1.2.1, hg.1.2.2.1, fun hh => ?_⟩)).turn t3 (by simp)
    rcases hh.1 with hh | hh
    · exact hg.1.2.2.2 hh
    · omega
theorem CB.set_ini {w1 : World} {V1 V2 V3 V4 V5 V : Value} {A1 A2 A3 : Nat → Prop} {m : Mf} (h : CB w b sb p V1 V2 V3 V4 V5 A1 A2 A3) (t : Turn [b] w w1) (k : RdI (fun g => w.heap.size ≤ g) w1 V (some m)) : Cb (w1.setCell ⟨sb, 7, none⟩ V) b sb { p with ini := some m } := by
  have h1 := h.turn t (by simp; exact h.gt)
  have hsb := (Array.getElem?_eq_some_iff.1 h.blk).1
  have t3 : Turn [sb] w1 (w1.setCell ⟨sb, 7, none⟩ V) := (Turn.refl [sb] w1).setCell (.inl (by simp)) _
  have hs : (w1.setCell ⟨sb, 7, none⟩ V).heap.size = w1.heap.size := by simp
  refine ⟨V1, V2, V3, V4, V, A1, A2, A3, h.gt, rset h1.blk rfl, by rw [hs]; exact h1.a1, by rw [hs]; exact h1.a2, by rw [hs]; exact h1.a3, h.d12, h.d13, h.d23, h1.fs.turn goodT t3 (by simp), ?_, ?_, ?_, ?_⟩
  · exact h1.fd.turn goodW t3 (by simp; intro h2; have := (h1.a1 _ h2).1; omega)
  · exact h1.sc.turn goodW t3 (by simp; intro h2; have := (h1.a2 _ h2).1; omega)
  · exact h1.ms.turn goodM t3 (by simp; intro h2; have := (h1.a3 _ h2).1; omega)
  · refine (k.mono (B := fun g => sb < g ∧ ¬ A1 g ∧ ¬ A2 g ∧ ¬ A3 g) (fun g hg _ => ⟨by omega, fun h2 => ?_, fun h2 => ?_, fun h2 => ?_⟩)).turn t3 (by simp)
    · have := (h.a1 g h2).2; omega
    · have := (h.a2 g h2).2; omega
    · have := (h.a3 g h2).2; omega
end
end Go.Proofs.YtnmhcgkccchacaaGreatDoor

/- A method's block. -/
set_option linter.unusedSimpArgs false
set_option linter.unusedVariables false
set_option maxRecDepth 100000
namespace Go.Proofs.YtnmhcgkccchacaaGreatDoor
open Go.RowKit

set_option maxHeartbeats 12800000 in
theorem block1_any (en : Nat × Nat) (b mb g1 g2 : Nat) (s : RS) (p : Mf) (w : World) (hP : Pr en w b s) (hS : Mb w b mb p) (hd : s.deep = 0) (hg1 : b < g1) (hg2 : b < g2) (hn1 : g1 ≠ mb) (hn2 : g2 ≠ mb)
    (c1 : w.cell? ⟨g1, 0, none⟩ = some (.pointer (some ⟨b, 0, none⟩))) (c2 : w.cell? ⟨g2, 0, none⟩ = some (.pointer (some ⟨mb, 0, none⟩))) :
    Calls Tryz.prog 112 #[.pointer (some ⟨g1, 0, none⟩), .pointer (some ⟨g2, 0, none⟩)] w fun e w' => e = .returned (.tuple #[]) ∧
      Mb w' b mb { p with ls := (many (sees kVar) (declared en kVar) 40 (s.l.length + 1) [] s).1, bd := (stmtsW (stmt en) (many (sees kVar) (declared en kVar) 40 (s.l.length + 1) [] s).2).1 } ∧
      Pr en w' b (stmtsW (stmt en) (many (sees kVar) (declared en kVar) 40 (s.l.length + 1) [] s).2).2 ∧ Turn [b, mb] w w' := by
  have hmf := mf
  have hbl := hP.lt
  have hg1l := cell_lt c1
  have hg2l := cell_lt c2
  have hbm := hS.gt
  have hml := hS.lt
  have hds : ∀ W : World, Turn [] w W → Turn [] w W := fun W t => t
  have HC : Hid (∀ W, Turn [b, mb] w W → W.cell? ⟨g1, 0, none⟩ = some (.pointer (some ⟨b, 0, none⟩)) ∧ W.cell? ⟨g2, 0, none⟩ = some (.pointer (some ⟨mb, 0, none⟩))) :=
    Lib.hid fun W t => ⟨(t.cell (p := ⟨g1, 0, none⟩) hg1l (by simp; omega)).trans c1, (t.cell (p := ⟨g2, 0, none⟩) hg2l (by simp; omega)).trans c2⟩
  obtain ⟨x, hx⟩ : ∃ q, (many (sees kVar) (declared en kVar) 40 (s.l.length + 1) [] s).1 = q := ⟨_, rfl⟩
  obtain ⟨s1, hs1⟩ : ∃ q, (many (sees kVar) (declared en kVar) 40 (s.l.length + 1) [] s).2 = q := ⟨_, rfl⟩
  have hd1 : s1.deep = 0 := by rw [← hs1, (manyD_le kVar (sees kVar) 40 _ [] (Le.refl s)).1, hd]
  rw [hx, hs1]
  obtain ⟨y, hy⟩ : ∃ q, (stmtsW (stmt en) s1).1 = q := ⟨_, rfl⟩
  obtain ⟨s2, hs2⟩ : ∃ q, (stmtsW (stmt en) s1).2 = q := ⟨_, rfl⟩
  rw [hy, hs2]
  have HX := Lib.hid (And.intro hx hs1)
  have HY := Lib.hid (And.intro hy hs2)
  have HD1 := Lib.hid hd1
  have H0 := Lib.hid (StM.mk0 hP hS)
  have hbeg := begins_any b [kVar] (w.alloc (.cells #[.string ⟨#[118, 97, 114]⟩] 9)).drew (some ⟨w.heap.size, 0, none⟩) 1 (by simp; omega) ((sts_new w [kVar] #[.string ⟨#[118, 97, 114]⟩] rfl).turn (Turn.refl [] _).drew (by simp)) (fun g off e => by injection e with e; injection e with e; subst e; exact ⟨hbl, by simp⟩)
  rw [show ([kVar] : List (List UInt8)).length = 1 from rfl] at hbeg
  have HBG := Lib.hid hbeg
  clear hP hS hd hx hs1 hy hs2 hd1 hds hbeg
  go_enter Tryz.func112, Tryz.ntmps112
  go_upto_region 0 with (fail)
  go_region_held3 (fun w' => w'.cell? ⟨g1, 0, none⟩ = some (.pointer (some ⟨b, 0, none⟩)) ∧ w'.cell? ⟨g2, 0, none⟩ = some (.pointer (some ⟨mb, 0, none⟩)))
    (first | exact ⟨c1, c2⟩ | exact ⟨d1, d2⟩ | exact ⟨f1, f2⟩ | exact ⟨f1', f2'⟩ | go_keep)
    (first
      | (go_at_call 49; (with_reducible refine HBG.out.mono ?_); rintro e1 w1 ⟨h1, h2, rfl, hb1, t1⟩
         have tT1 : Turn [] w w1 := ((Turn.refl [] w).alloc _).drew.trans' t1
         obtain ⟨d1, d2⟩ := HC.out w1 (tT1.more (by simp))
         have H1 := Lib.hid (H0.out.up tT1)
         have HM := Lib.hid (manyV_any en b s h1 h2 w1 (H0.out.pr.up tT1) hb1)
         clear hb1 t1 tT1)
      | (go_at_call 113; (with_reducible refine HM.out.mono ?_); rintro e2 w2 ⟨V2, rfl, hv2, h2, t2⟩
         have H2 := Lib.hid (H1.out.call h2 t2)
         rw [HX.out.1] at hv2
         rw [HX.out.2] at H2
         obtain ⟨f1, f2⟩ := HC.out w2 H2.out.tt
         have hv2' := hv2.mono (B := fun g => mb < g) goodW (fun g hg _ => Nat.lt_of_lt_of_le H1.out.ss.lt hg)
         obtain ⟨P2, q2, rfl, _, _⟩ := id hv2'
         obtain ⟨U1, U2, U3, hcc, hff⟩ := H2.out.ss.cells
         have i5 : w2.cell? ⟨mb, 5, none⟩ = some U2 := hcc 5
         have g5 : w2.frozen? ⟨mb, 5, none⟩ = false := hff 5
         have H3 := Lib.hid (H2.out.set_ls hv2')
         obtain ⟨f1', f2'⟩ := HC.out _ H3.out.tt
         clear hv2 hv2' h2 t2 hcc hff)
      | fail)
  all_goals
    obtain ⟨W, hW⟩ : ∃ W, w2.setCell ⟨mb, 5, none⟩ (.slice P2 x.length q2) = W := ⟨_, rfl⟩
    rw [hW] at H3 f1' f2' ⊢
    have e4 : (stmtsW (stmtN en 10) s1).1 = y := HY.out.1
    have e5 : (stmtsW (stmtN en 10) s1).2 = s2 := HY.out.2
    have hsm := stmts_any en b s1 10 W.drew (H3.out.pr.up (Turn.refl [] W).drew) (st_said en 10) (by rw [HD1.out]; omega) (by rw [HD1.out]; omega)
    rw [e4, e5] at hsm
    have HSM := Lib.hid hsm
    clear hW e4 e5 hsm c1 c2 d1 d2 f1 f2 i5 g5
    go_upto_region 1 with (fail)
    go_region_held3 (fun w' => w'.cell? ⟨g1, 0, none⟩ = some (.pointer (some ⟨b, 0, none⟩)) ∧ w'.cell? ⟨g2, 0, none⟩ = some (.pointer (some ⟨mb, 0, none⟩)))
      (first | exact ⟨f1', f2'⟩ | exact ⟨l1, l2⟩ | exact ⟨l1', l2'⟩ | go_keep)
      (first
        | (go_at_call 115; (with_reducible refine HSM.out.mono ?_); rintro e3 w3 ⟨V3, rfl, hv3, h3, t3⟩
           have tW : Turn [b] W w3 := ((Turn.refl [b] W).drew).trans t3 (fun g hg => .inl hg)
           have H4 := Lib.hid (H3.out.call h3 tW)
           obtain ⟨l1, l2⟩ := HC.out w3 H4.out.tt
           have hv3' := hv3.mono (B := fun g => mb < g) goodS (fun g hg _ => Nat.lt_of_lt_of_le H3.out.ss.lt hg)
           obtain ⟨P3, q3, rfl, _, _⟩ := id hv3'
           obtain ⟨X1, X2, X3, hcc, hff⟩ := H4.out.ss.cells
           have i6 : w3.cell? ⟨mb, 6, none⟩ = some X3 := hcc 6
           have g6 : w3.frozen? ⟨mb, 6, none⟩ = false := hff 6
           have H5 := Lib.hid (H4.out.set_bd hv3')
           obtain ⟨l1', l2'⟩ := HC.out _ H5.out.tt
           clear hv3 hv3' h3 t3 tW hcc hff)
        | fail)
    all_goals
      go_wp2_with fail
      go_end0
      exact ⟨rfl, H5.out.ss, H5.out.pr, H5.out.tt⟩

set_option maxHeartbeats 6400000 in
theorem block_any (en : Nat × Nat) (b sb : Nat) (s : RS) (p : Mf) (w : World) (hP : Pr en w b s) (hS : Mb w b sb p) (hd : s.deep = 0) :
    Calls Tryz.prog 85 #[.pointer (some ⟨b, 0, none⟩), .pointer (some ⟨sb, 0, none⟩)] w fun e w' => e = .returned (.tuple #[]) ∧ StM en w w' b sb (block en p s).2 (block en p s).1 := by
  have hmf := mf
  have hbl := hP.lt
  have hml := hS.lt
  have hbm := hS.gt
  have t0 : Turn [] w ((w.alloc (.cells #[.pointer (some ⟨b, 0, none⟩)] 57)).alloc (.cells #[.pointer (some ⟨sb, 0, none⟩)] 67)) := ((Turn.refl [] w).alloc _).alloc _
  have hg1 : ((w.alloc (.cells #[.pointer (some ⟨b, 0, none⟩)] 57)).alloc (.cells #[.pointer (some ⟨sb, 0, none⟩)] 67)).heap[w.heap.size]? = some (.cells #[.pointer (some ⟨b, 0, none⟩)] 57 (0, 0)) :=
    ((Turn.refl [] _).alloc _).heap (heap_alloc_new w _) (by simp)
  have hg2 : ((w.alloc (.cells #[.pointer (some ⟨b, 0, none⟩)] 57)).alloc (.cells #[.pointer (some ⟨sb, 0, none⟩)] 67)).heap[w.heap.size + 1]? = some (.cells #[.pointer (some ⟨sb, 0, none⟩)] 67 (0, 0)) := by
    have := heap_alloc_new (w.alloc (.cells #[.pointer (some ⟨b, 0, none⟩)] 57)) (.cells #[.pointer (some ⟨sb, 0, none⟩)] 67)
    rwa [World.size_alloc] at this
  obtain ⟨W, hW⟩ : ∃ W, (w.alloc (.cells #[.pointer (some ⟨b, 0, none⟩)] 57)).alloc (.cells #[.pointer (some ⟨sb, 0, none⟩)] 67) = W := ⟨_, rfl⟩
  have hsz : W.heap.size = w.heap.size + 2 := by rw [← hW]; simp
  rw [hW] at t0 hg1 hg2
  obtain ⟨r, hr⟩ : ∃ r, w.heap.size = r := ⟨_, rfl⟩
  rw [hr] at hg1 hg2 hsz
  have H0 := Lib.hid ((StM.mk0 hP hS).up t0)
  have c1 : W.cell? ⟨r, 0, none⟩ = some (.pointer (some ⟨b, 0, none⟩)) := cell_of_row W r 0 _ _ _ hg1
  obtain ⟨s1, hs1⟩ : ∃ q, take en [123] s = q := ⟨_, rfl⟩
  have hd1 : s1.deep = 0 := by rw [← hs1, (take_le _ (Le.refl s)).1, hd]
  obtain ⟨x, hx⟩ : ∃ q, (many (sees kVar) (declared en kVar) 40 (s1.l.length + 1) [] s1).1 = q := ⟨_, rfl⟩
  obtain ⟨s2, hs2⟩ : ∃ q, (many (sees kVar) (declared en kVar) 40 (s1.l.length + 1) [] s1).2 = q := ⟨_, rfl⟩
  obtain ⟨y, hy⟩ : ∃ q, (stmtsW (stmt en) s2).1 = q := ⟨_, rfl⟩
  obtain ⟨s3, hs3⟩ : ∃ q, (stmtsW (stmt en) s2).2 = q := ⟨_, rfl⟩
  have hEF : block en p s = ({ p with ls := x, bd := y }, take en [125] s3) := by
    unfold block
    simp only [hs1, hx, hs2, hy, hs3]
  have HBR := Lib.hid (braced_any en b s s3 112 [.pointer (some ⟨r, 0, none⟩), .pointer (some ⟨r + 1, 0, none⟩)] (fun w2 => Mb w2 b sb { p with ls := x, bd := y }) [b, sb] W H0.out.pr (enters_of Tryz.func112 (by kernel_rfl) rfl) (fun w1 h1 t1 => by
    rw [hs1] at h1
    have q1 : w1.cell? ⟨r, 0, none⟩ = some (.pointer (some ⟨b, 0, none⟩)) := (t1.cell (p := ⟨r, 0, none⟩) (by simp only; omega) (by simp; omega)).trans c1
    have q2 : w1.cell? ⟨r + 1, 0, none⟩ = some (.pointer (some ⟨sb, 0, none⟩)) := cell_of_row w1 (r + 1) 0 _ _ _ (t1.heap hg2 (by simp; omega))
    refine (block1_any en b sb r (r + 1) s1 p w1 h1 (H0.out.ss.turn t1 (by simp; omega)) hd1 (by omega) (by omega) (by omega) (by omega) q1 q2).mono ?_
    rintro e3 w3 ⟨rfl, hm, h3, t3⟩
    rw [hx, hs2, hy] at hm
    rw [hs2, hs3] at h3
    exact ⟨rfl, hm, h3, (t1.more (by simp)).trans t3 (fun g hg => .inl hg)⟩))
  have HW := Lib.hid hW
  have HR := Lib.hid hr
  have HEF := Lib.hid hEF
  clear hW hr hP hS t0 hg1 hg2 hs1 hx hs2 hy hs3 hEF hd hd1
  go_enter Tryz.func85, Tryz.ntmps85
  go_upto_region 1 with (fail)
  rw [HW.out, HR.out]
  go_wp2_with fail
  refine HBR.out.mono ?_
  rintro e4 w4 ⟨rfl, w3, hm, t3, t4, h4⟩
  have HM := Lib.hid (hm.turn t4 (by simp; omega))
  have HP4 := Lib.hid h4
  have HT4 := Lib.hid (H0.out.tt.trans (t3.trans t4 (fun g hg => .inl (by simp at hg; simp [hg]))) (fun g hg => .inl hg))
  clear hm t3 t4 h4
  go_wp2_with fail
  go_end0
  rw [HEF.out]
  exact ⟨rfl, HP4.out, HM.out, HT4.out⟩
end Go.Proofs.YtnmhcgkccchacaaGreatDoor

/- method, routine. Printed by gen8.py. -/
set_option linter.unusedSimpArgs false
set_option linter.unusedVariables false
set_option maxRecDepth 100000
namespace Go.Proofs.YtnmhcgkccchacaaGreatDoor
open Go.RowKit

set_option maxHeartbeats 12800000 in
theorem method_any (en : Nat × Nat) (b : Nat) (s : RS) (w : World) (hP : Pr en w b s) (hd : s.deep = 0) :
    Calls Tryz.prog 138 #[.pointer (some ⟨b, 0, none⟩)] w fun e w' => ∃ cs : List Value, e = .returned (.agg cs.toArray) ∧ RdM (fun g => w.heap.size ≤ g) w' cs (method en s).1 ∧ Pr en w' b (method en s).2 ∧ Turn [b] w w' := by
  have HD0 := Lib.hid hd
  clear hd
  have hbl := hP.lt
  obtain ⟨W1, hW1⟩ : ∃ W1, w.alloc (.cells #[.string ⟨#[]⟩, .string ⟨#[]⟩, .bool false, .bool false, .slice none 0 0, .slice none 0 0, .slice none 0 0, .int .i64 0, .int .i64 0] 29) = W1 := ⟨_, rfl⟩
  obtain ⟨r, hr⟩ : ∃ r, w.heap.size = r := ⟨_, rfl⟩
  have tW1 : Turn [] w W1 := by rw [← hW1]; exact (Turn.refl [] w).alloc _
  have rW1 : W1.heap[r]? = some (.cells #[.string ⟨#[]⟩, .string ⟨#[]⟩, .bool false, .bool false, .slice none 0 0, .slice none 0 0, .slice none 0 0, .int .i64 0, .int .i64 0] 29 (0, 0)) := by rw [← hW1, ← hr]; exact heap_alloc_new w _
  have sW1 : W1.heap.size = r + 1 := by rw [← hW1, ← hr]; simp
  have HW1 := Lib.hid hW1
  have HR := Lib.hid hr
  have hPl := place_any en b s W1 (hP.up tW1)
  obtain ⟨pl, hpl⟩ : ∃ p, (atP en s).1 = p := ⟨_, rfl⟩
  obtain ⟨pc, hpc⟩ : ∃ p, (atP en s).2 = p := ⟨_, rfl⟩
  rw [hpl, hpc] at hPl
  have HPL := Lib.hid hPl
  have HAT : Hid (atP en s = (pl, pc)) := Lib.hid (by rw [← hpl, ← hpc])
  have HP1 := Lib.hid (hP.up tW1)
  have HTW1 := Lib.hid tW1
  have HRW1 := Lib.hid rW1
  clear hW1 hr tW1 rW1 hPl hpl hpc hP
  go_enter Tryz.func138, Tryz.ntmps138
  go_wp2_with fail
  rw [HW1.out, HR.out]
  refine HPL.out.mono ?_
  rintro e0 w2 ⟨rfl, t2⟩
  obtain ⟨W2, hW2⟩ : ∃ W2, w2.alloc (.cells #[.string ⟨#[]⟩, .string ⟨#[]⟩, .bool false, .bool false, .slice none 0 0, .slice none 0 0, .slice none 0 0, .int .i64 (pl : Int), .int .i64 (pc : Int)] 29) = W2 := ⟨_, rfl⟩
  obtain ⟨sb, hsb⟩ : ∃ sb, w2.heap.size = sb := ⟨_, rfl⟩
  have tW2 : Turn [] W1 W2 := by rw [← hW2]; exact t2.alloc _
  have hsbk : W2.heap[sb]? = some (.cells #[.string ⟨#[]⟩, .string ⟨#[]⟩, .bool false, .bool false, .slice none 0 0, .slice none 0 0, .slice none 0 0, .int .i64 (pl : Int), .int .i64 (pc : Int)] 29 (0, 0)) := by rw [← hW2, ← hsb]; exact heap_alloc_new w2 _
  have hrsb : r < sb := by have := t2.size; omega
  have hbr : b < r := by have := HR.out; omega
  have hSb : Mb W2 b sb ⟨e0, e0, false, false, [], [], [], pl, pc⟩ := ⟨_, _, _, by omega, hsbk, RdV.nil _ _ _, RdV.nil _ _ _, RdV.nil _ _ _⟩
  have H0 := Lib.hid (StM.mk0 (HP1.out.up tW2) hSb)
  have HRW : Hid (∀ W', Turn [b, sb] W2 W' → W'.heap[r]? = some (.cells #[.string ⟨#[]⟩, .string ⟨#[]⟩, .bool false, .bool false, .slice none 0 0, .slice none 0 0, .slice none 0 0, .int .i64 0, .int .i64 0] 29 (0, 0))) := Lib.hid fun W' t => t.heap (tW2.heap HRW1.out (by simp)) (by simp; omega)
  have HT2 : Hid (Turn [] w W2) := Lib.hid (HTW1.out.trans' tW2)
  have HSZ : Hid (W2.heap.size = sb + 1) := Lib.hid (by rw [← hW2, ← hsb]; simp)
  have HW2 := Lib.hid hW2
  have HSB := Lib.hid hsb
  clear hW2 hsb tW2 hsbk t2 hSb
  go_upto_region 2 with (fail)
  rw [HW2.out, HSB.out]
  go_wp2_with fail
  refine (pSkip_any en b s kStatic _ rfl _ H0.out.pr).mono ?_
  rintro e1 w1 ⟨rfl, h1, t1⟩
  have H1 := Lib.hid (H0.out.call h1 t1)
  clear h1 t1
  obtain ⟨b1, ea1⟩ : ∃ q, (skip en kStatic s).1 = q := ⟨_, rfl⟩
  rw [ea1]
  obtain ⟨s1, es1⟩ : ∃ q, (skip en kStatic s).2 = q := ⟨_, rfl⟩
  rw [es1] at H1
  have HD1 := Lib.hid (show s1.deep = s.deep from es1 ▸ ((skip_le _ (en := en) (Le.refl s)).1.trans rfl))
  have Hes1 := Lib.hid es1
  clear es1
  have Hea1 := Lib.hid ea1
  clear ea1
  obtain ⟨U1_1, U2_1, U3_1, hcc, hff⟩ := H1.out.ss.cells
  have c1_stat : w1.cell? ⟨sb, 2, none⟩ = some (.bool false) := hcc 2
  have g1_stat : w1.frozen? ⟨sb, 2, none⟩ = false := hff 2
  clear hcc hff
  have H1s : Hid (StM en W2 (w1.setCell ⟨sb, 2, none⟩ (.bool b1)) b sb s1 ⟨e0, e0, b1, false, [], [], [], pl, pc⟩) := Lib.hid (H1.out.set_stat b1)
  go_wp2_with fail
  refine (head_any en b sb s1 ⟨e0, e0, b1, false, [], [], [], pl, pc⟩ _ H1s.out.pr H1s.out.ss).mono ?_
  rintro e2 w2 ⟨rfl, h2⟩
  have H2 := Lib.hid (H1s.out.callS h2)
  clear h2
  obtain ⟨p2, eb2⟩ : ∃ q, (head en ⟨e0, e0, b1, false, [], [], [], pl, pc⟩ s1).1 = q := ⟨_, rfl⟩
  rw [eb2] at H2
  obtain ⟨s2, ec2⟩ : ∃ q, (head en ⟨e0, e0, b1, false, [], [], [], pl, pc⟩ s1).2 = q := ⟨_, rfl⟩
  rw [ec2] at H2
  have HD2 := Lib.hid (show s2.deep = s.deep from ec2 ▸ ((head_le (en := en) _ (Le.refl s1)).1.trans HD1.out))
  have Heb2 := Lib.hid eb2
  clear eb2
  have Hec2 := Lib.hid ec2
  clear ec2
  obtain ⟨ret2, nm2, stat2, bare2, ps2, ls2, bd2, ln2, cl2⟩ := p2
  go_wp2_with fail
  refine (block_any en b sb s2 ⟨ret2, nm2, stat2, bare2, ps2, ls2, bd2, ln2, cl2⟩ _ H2.out.pr H2.out.ss (HD2.out.trans HD0.out)).mono ?_
  rintro e3 w3 ⟨rfl, h3⟩
  have H3 := Lib.hid (H2.out.callS h3)
  clear h3
  obtain ⟨p3, eb3⟩ : ∃ q, (block en ⟨ret2, nm2, stat2, bare2, ps2, ls2, bd2, ln2, cl2⟩ s2).1 = q := ⟨_, rfl⟩
  rw [eb3] at H3
  obtain ⟨s3, ec3⟩ : ∃ q, (block en ⟨ret2, nm2, stat2, bare2, ps2, ls2, bd2, ln2, cl2⟩ s2).2 = q := ⟨_, rfl⟩
  rw [ec3] at H3
  have Heb3 := Lib.hid eb3
  clear eb3
  have Hec3 := Lib.hid ec3
  clear ec3
  obtain ⟨ret3, nm3, stat3, bare3, ps3, ls3, bd3, ln3, cl3⟩ := p3
  obtain ⟨V1, V2, V3, hSB⟩ := id H3.out.ss
  obtain ⟨P1, q1, rfl, _, _⟩ := id hSB.ps
  obtain ⟨P2, q2, rfl, _, _⟩ := id hSB.ls
  obtain ⟨P3, q3, rfl, _, _⟩ := id hSB.bd
  have m0 : w3.cell? ⟨sb, 0, none⟩ = some (.string ret3) := cell_of_row w3 sb 0 _ _ _ hSB.blk
  have m1 : w3.cell? ⟨sb, 1, none⟩ = some (.string nm3) := cell_of_row w3 sb 1 _ _ _ hSB.blk
  have m2 : w3.cell? ⟨sb, 2, none⟩ = some (.bool stat3) := cell_of_row w3 sb 2 _ _ _ hSB.blk
  have m3 : w3.cell? ⟨sb, 3, none⟩ = some (.bool bare3) := cell_of_row w3 sb 3 _ _ _ hSB.blk
  have m4 : w3.cell? ⟨sb, 4, none⟩ = some (.slice P1 ps3.length q1) := cell_of_row w3 sb 4 _ _ _ hSB.blk
  have m5 : w3.cell? ⟨sb, 5, none⟩ = some (.slice P2 ls3.length q2) := cell_of_row w3 sb 5 _ _ _ hSB.blk
  have m6 : w3.cell? ⟨sb, 6, none⟩ = some (.slice P3 bd3.length q3) := cell_of_row w3 sb 6 _ _ _ hSB.blk
  have m7 : w3.cell? ⟨sb, 7, none⟩ = some (.int .i64 ln3) := cell_of_row w3 sb 7 _ _ _ hSB.blk
  have m8 : w3.cell? ⟨sb, 8, none⟩ = some (.int .i64 cl3) := cell_of_row w3 sb 8 _ _ _ hSB.blk
  have hrw := HRW.out w3 H3.out.tt
  have zz0 : w3.cell? ⟨r, 0, none⟩ = some (.string ⟨#[]⟩) := cell_of_row w3 r 0 _ _ _ hrw
  have zf0 : w3.frozen? ⟨r, 0, none⟩ = false := frozen_of_row w3 r 0 _ _ hrw
  have zz1 : w3.cell? ⟨r, 1, none⟩ = some (.string ⟨#[]⟩) := cell_of_row w3 r 1 _ _ _ hrw
  have zf1 : w3.frozen? ⟨r, 1, none⟩ = false := frozen_of_row w3 r 1 _ _ hrw
  have zz2 : w3.cell? ⟨r, 2, none⟩ = some (.bool false) := cell_of_row w3 r 2 _ _ _ hrw
  have zf2 : w3.frozen? ⟨r, 2, none⟩ = false := frozen_of_row w3 r 2 _ _ hrw
  have zz3 : w3.cell? ⟨r, 3, none⟩ = some (.bool false) := cell_of_row w3 r 3 _ _ _ hrw
  have zf3 : w3.frozen? ⟨r, 3, none⟩ = false := frozen_of_row w3 r 3 _ _ hrw
  have zz4 : w3.cell? ⟨r, 4, none⟩ = some (.slice none 0 0) := cell_of_row w3 r 4 _ _ _ hrw
  have zf4 : w3.frozen? ⟨r, 4, none⟩ = false := frozen_of_row w3 r 4 _ _ hrw
  have zz5 : w3.cell? ⟨r, 5, none⟩ = some (.slice none 0 0) := cell_of_row w3 r 5 _ _ _ hrw
  have zf5 : w3.frozen? ⟨r, 5, none⟩ = false := frozen_of_row w3 r 5 _ _ hrw
  have zz6 : w3.cell? ⟨r, 6, none⟩ = some (.slice none 0 0) := cell_of_row w3 r 6 _ _ _ hrw
  have zf6 : w3.frozen? ⟨r, 6, none⟩ = false := frozen_of_row w3 r 6 _ _ hrw
  have zz7 : w3.cell? ⟨r, 7, none⟩ = some (.int .i64 0) := cell_of_row w3 r 7 _ _ _ hrw
  have zf7 : w3.frozen? ⟨r, 7, none⟩ = false := frozen_of_row w3 r 7 _ _ hrw
  have zz8 : w3.cell? ⟨r, 8, none⟩ = some (.int .i64 0) := cell_of_row w3 r 8 _ _ _ hrw
  have zf8 : w3.frozen? ⟨r, 8, none⟩ = false := frozen_of_row w3 r 8 _ _ hrw
  have HSBF := Lib.hid hSB
  clear hSB hrw
  go_wp2_with fail
  refine bodyPost_ret (v := .agg #[.string ret3, .string nm3, .bool stat3, .bool bare3, .slice P1 ps3.length q1, .slice P2 ls3.length q2, .slice P3 bd3.length q3, .int .i64 ln3, .int .i64 cl3]) (by simp [results, Tryz.results138, go_sem, zz0, zz1, zz2, zz3, zz4, zz5, zz6, zz7, zz8]) rfl ?_
  have EF : method en s = (⟨ret3, nm3, stat3, bare3, ps3, ls3, bd3, ln3, cl3⟩, s3) := by
    refine Prod.ext ?_ ?_ <;> (unfold method; simp only [HAT.out, mf0_mk, Hes1.out, Hea1.out, Heb2.out, Hec2.out, Heb3.out, Hec3.out, if_true, if_false, Bool.false_eq_true, reduceIte]; try first | rfl | exact Heb2.out | exact Hec2.out)
  rw [EF]
  have hE : ∀ W', Turn [r] w3 W' → Turn [b] w W' := fun W' t => ((HT2.out.more (by simp)).trans H3.out.tt (fun g hg => by have := HT2.out.size; have := HSZ.out; have := HR.out; simp at hg; rcases hg with rfl | rfl <;> simp <;> omega)).trans t (fun g hg => by have := HR.out; simp at hg; omega)
  have hF : ∀ W', Turn [r] w3 W' → RdM (fun g => w.heap.size ≤ g) W' [.string ret3, .string nm3, .bool stat3, .bool bare3, .slice P1 ps3.length q1, .slice P2 ls3.length q2, .slice P3 bd3.length q3, .int .i64 ln3, .int .i64 cl3] ⟨ret3, nm3, stat3, bare3, ps3, ls3, bd3, ln3, cl3⟩ := fun W' t => goodM.mono (goodM.turn (show RdM (fun g => sb < g) w3 [.string ret3, .string nm3, .bool stat3, .bool bare3, .slice P1 ps3.length q1, .slice P2 ls3.length q2, .slice P3 bd3.length q3, .int .i64 ln3, .int .i64 cl3] ⟨ret3, nm3, stat3, bare3, ps3, ls3, bd3, ln3, cl3⟩ from ⟨_, _, _, rfl, HSBF.out.ps, HSBF.out.ls, HSBF.out.bd⟩) t (fun g hg h => by simp at hg; omega)) (fun g hg _ => by have := HR.out; omega)
  have key : ∀ W', Turn [r] w3 W' → ∃ cs : List Value, Ending.returned (.agg #[.string ret3, .string nm3, .bool stat3, .bool bare3, .slice P1 ps3.length q1, .slice P2 ls3.length q2, .slice P3 bd3.length q3, .int .i64 ln3, .int .i64 cl3]) = Ending.returned (.agg cs.toArray) ∧ RdM (fun g => w.heap.size ≤ g) W' cs ⟨ret3, nm3, stat3, bare3, ps3, ls3, bd3, ln3, cl3⟩ ∧ Pr en W' b s3 ∧ Turn [b] w W' := fun W' tE => ⟨[.string ret3, .string nm3, .bool stat3, .bool bare3, .slice P1 ps3.length q1, .slice P2 ls3.length q2, .slice P3 bd3.length q3, .int .i64 ln3, .int .i64 cl3], rfl, hF _ tE, H3.out.pr.turn tE (by simp; omega), hE _ tE⟩
  exact key _ ((((((((((Turn.refl [r] w3).setCell (.inl (by simp)) _).setCell (.inl (by simp)) _).setCell (.inl (by simp)) _).setCell (.inl (by simp)) _).setCell (.inl (by simp)) _).setCell (.inl (by simp)) _).setCell (.inl (by simp)) _).setCell (.inl (by simp)) _).setCell (.inl (by simp)) _)

set_option maxHeartbeats 12800000 in
theorem routine_any (en : Nat × Nat) (b : Nat) (s : RS) (wd : List UInt8) (T : ByteArray) (hT : T = mk wd) (w : World) (hP : Pr en w b s) (hd : s.deep = 0) :
    Calls Tryz.prog 51 #[.pointer (some ⟨b, 0, none⟩), .string T] w fun e w' => ∃ cs : List Value, e = .returned (.agg cs.toArray) ∧ RdM (fun g => w.heap.size ≤ g) w' cs (routine en wd s).1 ∧ Pr en w' b (routine en wd s).2 ∧ Turn [b] w w' := by
  subst hT
  have HD0 := Lib.hid hd
  clear hd
  have hbl := hP.lt
  obtain ⟨W1, hW1⟩ : ∃ W1, w.alloc (.cells #[.string ⟨#[]⟩, .string ⟨#[]⟩, .bool false, .bool false, .slice none 0 0, .slice none 0 0, .slice none 0 0, .int .i64 0, .int .i64 0] 29) = W1 := ⟨_, rfl⟩
  obtain ⟨r, hr⟩ : ∃ r, w.heap.size = r := ⟨_, rfl⟩
  have tW1 : Turn [] w W1 := by rw [← hW1]; exact (Turn.refl [] w).alloc _
  have rW1 : W1.heap[r]? = some (.cells #[.string ⟨#[]⟩, .string ⟨#[]⟩, .bool false, .bool false, .slice none 0 0, .slice none 0 0, .slice none 0 0, .int .i64 0, .int .i64 0] 29 (0, 0)) := by rw [← hW1, ← hr]; exact heap_alloc_new w _
  have sW1 : W1.heap.size = r + 1 := by rw [← hW1, ← hr]; simp
  have HW1 := Lib.hid hW1
  have HR := Lib.hid hr
  have hPl := place_any en b s W1 (hP.up tW1)
  obtain ⟨pl, hpl⟩ : ∃ p, (atP en s).1 = p := ⟨_, rfl⟩
  obtain ⟨pc, hpc⟩ : ∃ p, (atP en s).2 = p := ⟨_, rfl⟩
  rw [hpl, hpc] at hPl
  have HPL := Lib.hid hPl
  have HAT : Hid (atP en s = (pl, pc)) := Lib.hid (by rw [← hpl, ← hpc])
  have HP1 := Lib.hid (hP.up tW1)
  have HTW1 := Lib.hid tW1
  have HRW1 := Lib.hid rW1
  clear hW1 hr tW1 rW1 hPl hpl hpc hP
  go_enter Tryz.func51, Tryz.ntmps51
  go_wp2_with fail
  rw [HW1.out, HR.out]
  refine HPL.out.mono ?_
  rintro e0 w2 ⟨rfl, t2⟩
  obtain ⟨W2, hW2⟩ : ∃ W2, w2.alloc (.cells #[.string ⟨#[118, 111, 105, 100]⟩, .string (mk wd), .bool true, .bool false, .slice none 0 0, .slice none 0 0, .slice none 0 0, .int .i64 (pl : Int), .int .i64 (pc : Int)] 29) = W2 := ⟨_, rfl⟩
  obtain ⟨sb, hsb⟩ : ∃ sb, w2.heap.size = sb := ⟨_, rfl⟩
  have tW2 : Turn [] W1 W2 := by rw [← hW2]; exact t2.alloc _
  have hsbk : W2.heap[sb]? = some (.cells #[.string ⟨#[118, 111, 105, 100]⟩, .string (mk wd), .bool true, .bool false, .slice none 0 0, .slice none 0 0, .slice none 0 0, .int .i64 (pl : Int), .int .i64 (pc : Int)] 29 (0, 0)) := by rw [← hW2, ← hsb]; exact heap_alloc_new w2 _
  have hrsb : r < sb := by have := t2.size; omega
  have hbr : b < r := by have := HR.out; omega
  have hSb : Mb W2 b sb ⟨⟨#[118, 111, 105, 100]⟩, (mk wd), true, false, [], [], [], pl, pc⟩ := ⟨_, _, _, by omega, hsbk, RdV.nil _ _ _, RdV.nil _ _ _, RdV.nil _ _ _⟩
  have H0 := Lib.hid (StM.mk0 (HP1.out.up tW2) hSb)
  have HRW : Hid (∀ W', Turn [b, sb] W2 W' → W'.heap[r]? = some (.cells #[.string ⟨#[]⟩, .string ⟨#[]⟩, .bool false, .bool false, .slice none 0 0, .slice none 0 0, .slice none 0 0, .int .i64 0, .int .i64 0] 29 (0, 0))) := Lib.hid fun W' t => t.heap (tW2.heap HRW1.out (by simp)) (by simp; omega)
  have HT2 : Hid (Turn [] w W2) := Lib.hid (HTW1.out.trans' tW2)
  have HSZ : Hid (W2.heap.size = sb + 1) := Lib.hid (by rw [← hW2, ← hsb]; simp)
  have HW2 := Lib.hid hW2
  have HSB := Lib.hid hsb
  clear hW2 hsb tW2 hsbk t2 hSb
  go_upto_region 2 with (fail)
  rw [HW2.out, HSB.out]
  go_wp2_with fail
  refine (takeN_any en b s wd _ W2.heap.size rfl _ rfl H0.out.pr).mono ?_
  rintro e1 w1 ⟨rfl, h1, t1⟩
  have H1 := Lib.hid (H0.out.call h1 t1)
  clear h1 t1
  obtain ⟨s1, es1⟩ : ∃ q, take en wd s = q := ⟨_, rfl⟩
  rw [es1] at H1
  have HD1 := Lib.hid (show s1.deep = s.deep from es1 ▸ ((take_le _ (en := en) (Le.refl s)).1.trans rfl))
  have Hes1 := Lib.hid es1
  clear es1
  go_wp2_with fail
  refine (block_any en b sb s1 ⟨⟨#[118, 111, 105, 100]⟩, (mk wd), true, false, [], [], [], pl, pc⟩ _ H1.out.pr H1.out.ss (HD1.out.trans HD0.out)).mono ?_
  rintro e2 w2 ⟨rfl, h2⟩
  have H2 := Lib.hid (H1.out.callS h2)
  clear h2
  obtain ⟨p2, eb2⟩ : ∃ q, (block en ⟨⟨#[118, 111, 105, 100]⟩, (mk wd), true, false, [], [], [], pl, pc⟩ s1).1 = q := ⟨_, rfl⟩
  rw [eb2] at H2
  obtain ⟨s2, ec2⟩ : ∃ q, (block en ⟨⟨#[118, 111, 105, 100]⟩, (mk wd), true, false, [], [], [], pl, pc⟩ s1).2 = q := ⟨_, rfl⟩
  rw [ec2] at H2
  have Heb2 := Lib.hid eb2
  clear eb2
  have Hec2 := Lib.hid ec2
  clear ec2
  obtain ⟨ret2, nm2, stat2, bare2, ps2, ls2, bd2, ln2, cl2⟩ := p2
  obtain ⟨V1, V2, V3, hSB⟩ := id H2.out.ss
  obtain ⟨P1, q1, rfl, _, _⟩ := id hSB.ps
  obtain ⟨P2, q2, rfl, _, _⟩ := id hSB.ls
  obtain ⟨P3, q3, rfl, _, _⟩ := id hSB.bd
  have m0 : w2.cell? ⟨sb, 0, none⟩ = some (.string ret2) := cell_of_row w2 sb 0 _ _ _ hSB.blk
  have m1 : w2.cell? ⟨sb, 1, none⟩ = some (.string nm2) := cell_of_row w2 sb 1 _ _ _ hSB.blk
  have m2 : w2.cell? ⟨sb, 2, none⟩ = some (.bool stat2) := cell_of_row w2 sb 2 _ _ _ hSB.blk
  have m3 : w2.cell? ⟨sb, 3, none⟩ = some (.bool bare2) := cell_of_row w2 sb 3 _ _ _ hSB.blk
  have m4 : w2.cell? ⟨sb, 4, none⟩ = some (.slice P1 ps2.length q1) := cell_of_row w2 sb 4 _ _ _ hSB.blk
  have m5 : w2.cell? ⟨sb, 5, none⟩ = some (.slice P2 ls2.length q2) := cell_of_row w2 sb 5 _ _ _ hSB.blk
  have m6 : w2.cell? ⟨sb, 6, none⟩ = some (.slice P3 bd2.length q3) := cell_of_row w2 sb 6 _ _ _ hSB.blk
  have m7 : w2.cell? ⟨sb, 7, none⟩ = some (.int .i64 ln2) := cell_of_row w2 sb 7 _ _ _ hSB.blk
  have m8 : w2.cell? ⟨sb, 8, none⟩ = some (.int .i64 cl2) := cell_of_row w2 sb 8 _ _ _ hSB.blk
  have hrw := HRW.out w2 H2.out.tt
  have zz0 : w2.cell? ⟨r, 0, none⟩ = some (.string ⟨#[]⟩) := cell_of_row w2 r 0 _ _ _ hrw
  have zf0 : w2.frozen? ⟨r, 0, none⟩ = false := frozen_of_row w2 r 0 _ _ hrw
  have zz1 : w2.cell? ⟨r, 1, none⟩ = some (.string ⟨#[]⟩) := cell_of_row w2 r 1 _ _ _ hrw
  have zf1 : w2.frozen? ⟨r, 1, none⟩ = false := frozen_of_row w2 r 1 _ _ hrw
  have zz2 : w2.cell? ⟨r, 2, none⟩ = some (.bool false) := cell_of_row w2 r 2 _ _ _ hrw
  have zf2 : w2.frozen? ⟨r, 2, none⟩ = false := frozen_of_row w2 r 2 _ _ hrw
  have zz3 : w2.cell? ⟨r, 3, none⟩ = some (.bool false) := cell_of_row w2 r 3 _ _ _ hrw
  have zf3 : w2.frozen? ⟨r, 3, none⟩ = false := frozen_of_row w2 r 3 _ _ hrw
  have zz4 : w2.cell? ⟨r, 4, none⟩ = some (.slice none 0 0) := cell_of_row w2 r 4 _ _ _ hrw
  have zf4 : w2.frozen? ⟨r, 4, none⟩ = false := frozen_of_row w2 r 4 _ _ hrw
  have zz5 : w2.cell? ⟨r, 5, none⟩ = some (.slice none 0 0) := cell_of_row w2 r 5 _ _ _ hrw
  have zf5 : w2.frozen? ⟨r, 5, none⟩ = false := frozen_of_row w2 r 5 _ _ hrw
  have zz6 : w2.cell? ⟨r, 6, none⟩ = some (.slice none 0 0) := cell_of_row w2 r 6 _ _ _ hrw
  have zf6 : w2.frozen? ⟨r, 6, none⟩ = false := frozen_of_row w2 r 6 _ _ hrw
  have zz7 : w2.cell? ⟨r, 7, none⟩ = some (.int .i64 0) := cell_of_row w2 r 7 _ _ _ hrw
  have zf7 : w2.frozen? ⟨r, 7, none⟩ = false := frozen_of_row w2 r 7 _ _ hrw
  have zz8 : w2.cell? ⟨r, 8, none⟩ = some (.int .i64 0) := cell_of_row w2 r 8 _ _ _ hrw
  have zf8 : w2.frozen? ⟨r, 8, none⟩ = false := frozen_of_row w2 r 8 _ _ hrw
  have HSBF := Lib.hid hSB
  clear hSB hrw
  go_wp2_with fail
  refine bodyPost_ret (v := .agg #[.string ret2, .string nm2, .bool stat2, .bool bare2, .slice P1 ps2.length q1, .slice P2 ls2.length q2, .slice P3 bd2.length q3, .int .i64 ln2, .int .i64 cl2]) (by simp [results, Tryz.results51, go_sem, zz0, zz1, zz2, zz3, zz4, zz5, zz6, zz7, zz8]) rfl ?_
  have EF : routine en wd s = (⟨ret2, nm2, stat2, bare2, ps2, ls2, bd2, ln2, cl2⟩, s2) := by
    refine Prod.ext ?_ ?_ <;> (unfold routine; simp only [HAT.out, mf0_mk, Hes1.out, Heb2.out, Hec2.out, if_true, if_false, Bool.false_eq_true, reduceIte]; try first | rfl | exact Heb2.out | exact Hec2.out)
  rw [EF]
  have hE : ∀ W', Turn [r] w2 W' → Turn [b] w W' := fun W' t => ((HT2.out.more (by simp)).trans H2.out.tt (fun g hg => by have := HT2.out.size; have := HSZ.out; have := HR.out; simp at hg; rcases hg with rfl | rfl <;> simp <;> omega)).trans t (fun g hg => by have := HR.out; simp at hg; omega)
  have hF : ∀ W', Turn [r] w2 W' → RdM (fun g => w.heap.size ≤ g) W' [.string ret2, .string nm2, .bool stat2, .bool bare2, .slice P1 ps2.length q1, .slice P2 ls2.length q2, .slice P3 bd2.length q3, .int .i64 ln2, .int .i64 cl2] ⟨ret2, nm2, stat2, bare2, ps2, ls2, bd2, ln2, cl2⟩ := fun W' t => goodM.mono (goodM.turn (show RdM (fun g => sb < g) w2 [.string ret2, .string nm2, .bool stat2, .bool bare2, .slice P1 ps2.length q1, .slice P2 ls2.length q2, .slice P3 bd2.length q3, .int .i64 ln2, .int .i64 cl2] ⟨ret2, nm2, stat2, bare2, ps2, ls2, bd2, ln2, cl2⟩ from ⟨_, _, _, rfl, HSBF.out.ps, HSBF.out.ls, HSBF.out.bd⟩) t (fun g hg h => by simp at hg; omega)) (fun g hg _ => by have := HR.out; omega)
  have key : ∀ W', Turn [r] w2 W' → ∃ cs : List Value, Ending.returned (.agg #[.string ret2, .string nm2, .bool stat2, .bool bare2, .slice P1 ps2.length q1, .slice P2 ls2.length q2, .slice P3 bd2.length q3, .int .i64 ln2, .int .i64 cl2]) = Ending.returned (.agg cs.toArray) ∧ RdM (fun g => w.heap.size ≤ g) W' cs ⟨ret2, nm2, stat2, bare2, ps2, ls2, bd2, ln2, cl2⟩ ∧ Pr en W' b s2 ∧ Turn [b] w W' := fun W' tE => ⟨[.string ret2, .string nm2, .bool stat2, .bool bare2, .slice P1 ps2.length q1, .slice P2 ls2.length q2, .slice P3 bd2.length q3, .int .i64 ln2, .int .i64 cl2], rfl, hF _ tE, H2.out.pr.turn tE (by simp; omega), hE _ tE⟩
  exact key _ ((((((((((Turn.refl [r] w2).setCell (.inl (by simp)) _).setCell (.inl (by simp)) _).setCell (.inl (by simp)) _).setCell (.inl (by simp)) _).setCell (.inl (by simp)) _).setCell (.inl (by simp)) _).setCell (.inl (by simp)) _).setCell (.inl (by simp)) _).setCell (.inl (by simp)) _)

end Go.Proofs.YtnmhcgkccchacaaGreatDoor

/- setup. -/
set_option linter.unusedSimpArgs false
set_option linter.unusedVariables false
set_option maxRecDepth 100000
namespace Go.Proofs.YtnmhcgkccchacaaGreatDoor
open Go.RowKit

set_option maxHeartbeats 6400000 in
theorem setup_any (en : Nat × Nat) (b sb : Nat) (s : RS) (p : Cf) (w : World) (hP : Pr en w b s) (hS : Cb w b sb p) (hd : s.deep = 0) :
    Calls Tryz.prog 137 #[.pointer (some ⟨b, 0, none⟩), .pointer (some ⟨sb, 0, none⟩)] w fun e w' => e = .returned (.tuple #[]) ∧ StC en w w' b sb (setup en p s).2 (setup en p s).1 := by
  have H0 := Lib.hid (StC.mk0 hP hS)
  obtain ⟨V1, V2, V3, V4, V5, A1, A2, A3, h⟩ := id hS
  have c7 : w.cell? ⟨sb, 7, none⟩ = some V5 := cell_of_row w sb 7 _ _ _ h.blk
  have hi := h.ini
  have HC := Lib.hid h
  have hbs := h.gt
  cases hpi : p.ini with
  | some m =>
    rw [hpi] at hi
    obtain ⟨g, cs, rfl, _⟩ := hi
    have HPI := Lib.hid hpi
    clear hP hS hd h hpi
    go_enter Tryz.func137, Tryz.ntmps137
    go_wp2_with fail
    refine (refuse_any en b 10 s w H0.out.pr).mono ?_
    rintro e1 w1 ⟨rfl, h1, t1⟩
    have H1 := Lib.hid (H0.out.call h1 t1)
    clear h1 t1
    go_wp2_with fail
    (first | go_end0 | refine bodyPost_ret (v := .tuple #[]) (by simp [results, Tryz.results137, go_sem]) rfl ?_)
    have e1 : setup en p s = (p, refuse en 10 s) := by unfold setup; rw [HPI.out]
    rw [e1]
    exact ⟨rfl, H1.out⟩
  | none =>
    rw [hpi] at hi
    have e5 : V5 = .pointer none := hi
    subst e5
    have HPI := Lib.hid hpi
    have HRT := Lib.hid (routine_any en b s kInit _ rfl w hP hd)
    clear hP hS hd h hpi hi
    go_enter Tryz.func137, Tryz.ntmps137
    go_wp2_with fail
    refine HRT.out.mono ?_
    rintro e1 w1 ⟨cs, rfl, hr1, h1, t1⟩
    obtain ⟨m, hm⟩ : ∃ q, (routine en kInit s).1 = q := ⟨_, rfl⟩
    obtain ⟨s1, hs1⟩ : ∃ q, (routine en kInit s).2 = q := ⟨_, rfl⟩
    rw [hm] at hr1
    rw [hs1] at h1
    have e1 : setup en p s = ({ p with ini := some m }, s1) := by unfold setup; rw [HPI.out]; simp only [hm, hs1]
    have HE := Lib.hid e1
    clear hm hs1 e1
    obtain ⟨mr, mn, mst, mb, mps, mls, mbd, mln, mcl⟩ := m
    obtain ⟨Y1, Y2, Y3, ecs, k1, k2, k3⟩ := id hr1
    simp only at ecs
    subst ecs
    obtain ⟨P1, q1, rfl, _, _⟩ := k1
    obtain ⟨P2, q2, rfl, _, _⟩ := k2
    obtain ⟨P3, q3, rfl, _, _⟩ := k3
    obtain ⟨W, hW⟩ : ∃ W, w1.alloc (.cells #[.string mr, .string mn, .bool mst, .bool mb, .slice P1 mps.length q1, .slice P2 mls.length q2, .slice P3 mbd.length q3, .int .i64 mln, .int .i64 mcl] 29) = W := ⟨_, rfl⟩
    obtain ⟨g, hg⟩ : ∃ g, w1.heap.size = g := ⟨_, rfl⟩
    have tW : Turn [] w1 W := by rw [← hW]; exact (Turn.refl [] w1).alloc _
    have hgk : W.heap[g]? = some (.cells #[.string mr, .string mn, .bool mst, .bool mb, .slice P1 mps.length q1, .slice P2 mls.length q2, .slice P3 mbd.length q3, .int .i64 mln, .int .i64 mcl] 29 (0, 0)) := by rw [← hW, ← hg]; exact heap_alloc_new w1 _
    have hsz1 := t1.size
    have hini : RdI (fun g => w.heap.size ≤ g) W (.pointer (some ⟨g, 0, none⟩)) (some ⟨mr, mn, mst, mb, mps, mls, mbd, mln, mcl⟩) :=
      ⟨g, _, rfl, by omega, (Array.getElem?_eq_some_iff.1 hgk).1, fun k y hy => by rw [cell_of_row W g k _ _ _ hgk]; simpa using hy, goodM.turn hr1 tW (by simp)⟩
    have tb : Turn [b] w W := t1.trans' tW
    have hC1 := HC.out.turn tb (by simp; exact hbs)
    have x7 : W.cell? ⟨sb, 7, none⟩ = some (.pointer none) := cell_of_row W sb 7 _ _ _ hC1.blk
    have xf7 : W.frozen? ⟨sb, 7, none⟩ = false := frozen_of_row W sb 7 _ _ hC1.blk
    have HFIN := Lib.hid (HC.out.set_ini tb hini)
    have HP1 := Lib.hid (h1.up tW)
    have HTB := Lib.hid tb
    have HW := Lib.hid hW
    have HG := Lib.hid hg
    clear hW hg tW hgk hini tb hC1 h1 t1 hr1
    go_upto_region 3 with (fail)
    rw [HW.out, HG.out]
    go_wp2_with fail
    go_end0
    rw [HE.out]
    exact ⟨rfl, HP1.out.turn (F := [sb]) ((Turn.refl [sb] W).setCell (.inl (by simp)) _) (by simp; exact hbs), HFIN.out, (Tq.of HTB.out (by simp)).trans (Tq.set W)⟩
end Go.Proofs.YtnmhcgkccchacaaGreatDoor
