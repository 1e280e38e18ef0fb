import Derived.Test.YtnmhcgkccchacaaGreatDoorQ36Bal
import Derived.Test.YtnmhcgkccchacaaGreatDoorQ09Whp

/- ParseBegins's law: no beginning of a program's text, but for what stands behind its last brace, is a program. -/
set_option linter.unusedSimpArgs false
set_option linter.unusedVariables false
set_option maxRecDepth 100000
namespace Go.Proofs.YtnmhcgkccchacaaGreatDoor
open Go.RowKit

theorem pf_good {T : List UInt8} (h : (pfR T).1 = 0) : ∃ ts p t o, tokR T = .good ts p ∧ Shape (txs ts) ∧ ts.getLast? = some t ∧ o < T.length ∧ plc T o = (t.line, t.col) := by
  obtain ⟨ts, p, h1, h2⟩ := good_of (T := T) h
  obtain ⟨q, hq⟩ := shape_last h2
  have hne : ts ≠ [] := fun e => by
    rw [e] at hq
    simp [txs] at hq
  obtain ⟨t, ht⟩ : ∃ t, ts.getLast? = some t := ⟨ts.getLast hne, List.getLast?_eq_some_getLast hne⟩
  obtain ⟨o, h3, h4⟩ := offs_last (offs_tok h1) ht
  exact ⟨ts, p, t, o, h1, h2, ht, by omega, h4⟩

theorem Offs.len {T : List UInt8} : ∀ (ts : List Tok) (n : Nat), n ≤ T.length → Offs T n ts → n + ts.length ≤ T.length
  | [], n, h, _ => by simpa using h
  | t :: ts, n, h, ho => by
    obtain ⟨m, h1, h2, h3, _, _, h6⟩ := ho
    have := Offs.len ts (m + t.text.length) h3 h6
    rw [List.length_cons]
    omega

set_option maxHeartbeats 12800000 in
theorem parseBegins_law (s : ByteArray) (n : Nat) (hn : n ≤ 65535) (w : World) (hS : Sg w) (hK : Kw w) (h8 : 7 < w.heap.size) :
    Calls Tryz.prog 8 #[.string s, .int .u16 (n : Int)] w fun e w' => e = .returned (.bool true) ∧ Turn [] w w' := by
  have HA : Hid (∀ W, Turn [] w W → Calls Tryz.prog 9 #[] W fun e w' => e = .returned (.bool true) ∧ Turn [] W w') :=
    Lib.hid fun W t => awake_any W (hS.turn t (by simp)) (hK.turn t (by simp)) (Nat.lt_of_lt_of_le h8 t.size)
  have HP : Hid (∀ W (s : ByteArray), Turn [] w W → Calls Tryz.prog 10 #[.string s] W fun e w' => Turn [] W w' ∧ PRes s.data.toList (fun g => W.heap.size ≤ g) w' e) :=
    Lib.hid fun W s t => parse_plain s W (hS.turn t (by simp)) (hK.turn t (by simp)) (Nat.lt_of_lt_of_le h8 t.size)
  clear hS hK h8
  by_cases hbig : 1500 < s.size
  · have d1 : decide ((1500 : Int) < (s.size : Int)) = true := by simp; omega
    have d2 : (1500 : Int) < (s.size : Int) := by omega
    have HA1 := Lib.hid (HA.out w (Turn.refl [] w))
    go_enter Tryz.func8, Tryz.ntmps8
    go_wp2_with fail
    refine HA1.out.mono ?_
    rintro e w1 ⟨rfl, t1⟩
    have HA2 := Lib.hid (HA.out w1 t1)
    have HT1 := Lib.hid t1
    clear t1 HA HP
    go_wp2_with fail
    refine HA2.out.mono ?_
    rintro e w2 ⟨rfl, t2⟩
    have HT2 := Lib.hid (HT1.out.trans' t2)
    clear t2
    go_wp2_with fail
    go_ret
    exact ⟨rfl, HT2.out⟩
  · have d1 : decide ((1500 : Int) < (s.size : Int)) = false := by simp; omega
    have d2 : ¬ (1500 : Int) < (s.size : Int) := by omega
    have hl : s.data.toList.length = s.size := (Lib.size_eq s).symm
    have HL := Lib.hid hl
    have HA1 := Lib.hid (HA.out w (Turn.refl [] w))
    clear hl
    go_enter Tryz.func8, Tryz.ntmps8
    go_wp2_with fail
    refine HA1.out.mono ?_
    rintro e w1 ⟨rfl, t1⟩
    have HC1 := Lib.hid (HP.out w1 s t1)
    have HT1 := Lib.hid t1
    clear t1 HA HA1
    go_wp2_with fail
    refine HC1.out.mono ?_
    rintro e w2 ⟨t2, h2⟩
    have HT2 := Lib.hid (HT1.out.trans' t2)
    clear t2 HC1
    rcases h2 with ⟨hne, rfl⟩ | ⟨he, xcs, mr, mn, mst, mb, mps, mls, mbd, mln, mcl, P0, P1, P2, P3, q0, q1, q2, q3, hmn, rfl⟩
    · obtain ⟨x, hx⟩ : ∃ x, (pfR s.data.toList).1 = x := ⟨_, rfl⟩
      obtain ⟨xl, hxl⟩ : ∃ x, (pfR s.data.toList).2.1 = x := ⟨_, rfl⟩
      obtain ⟨xc, hxc⟩ : ∃ x, (pfR s.data.toList).2.2.1 = x := ⟨_, rfl⟩
      rw [hx] at hne
      rw [hx, hxl, hxc]
      have e0 : decide ((x : Int) = 0) = false := by simp; omega
      have e1 : ((x : Int) == 0) = false := by simp; omega
      have e2 : ¬ (x : Int) = 0 := by omega
      have e3 : decide (x = 0) = false := by simpa using hne
      clear hx hxl hxc HP
      unfold progZ
      go_wp2_with fail
      go_ret
      exact ⟨rfl, ((HT2.out).alloc _).alloc _⟩
    · obtain ⟨ts, p, t, o, htk, hsh, hlast, ho, hpo⟩ := pf_good he
      have HTK := Lib.hid (And.intro htk (And.intro hsh (And.intro hlast hpo)))
      rw [HL.out] at ho
      obtain ⟨W3, hW3⟩ : ∃ W, (w2.alloc (.cells #[.slice P0 xcs.length q0, .string mr, .string mn, .bool mst, .bool mb, .slice P1 mps.length q1, .slice P2 mls.length q2, .slice P3 mbd.length q3, .int .i64 mln, .int .i64 mcl] 31)).alloc (.cells #[.int .i64 0, .int .i64 0, .int .i64 0] 34) = W := ⟨_, rfl⟩
      have t3 : Turn [] w2 W3 := by rw [← hW3]; exact ((Turn.refl [] w2).alloc _).alloc _
      have bW : W3.heap[w2.heap.size + 1]? = some (.cells #[.int .i64 0, .int .i64 0, .int .i64 0] 34 (0, 0)) := by
        rw [← hW3]
        have := heap_alloc_new (w2.alloc (.cells #[.slice P0 xcs.length q0, .string mr, .string mn, .bool mst, .bool mb, .slice P1 mps.length q1, .slice P2 mls.length q2, .slice P3 mbd.length q3, .int .i64 mln, .int .i64 mcl] 31)) (.cells #[.int .i64 0, .int .i64 0, .int .i64 0] 34)
        rwa [World.size_alloc] at this
      have b0 : W3.cell? ⟨w2.heap.size + 1, 0, none⟩ = some (.int .i64 0) := cell_of_row W3 (w2.heap.size + 1) 0 _ _ _ bW
      have HT3 := Lib.hid (HT2.out.trans' t3)
      have HW3 := Lib.hid hW3
      have HRT := Lib.hid (refTokens_any s W3 (by omega))
      clear t3 hW3 bW htk hsh hlast hpo he hmn
      go_upto_region 4 with (fail)
      rw [HW3.out]
      go_wp2_with fail
      refine HRT.out.mono ?_
      rintro e w4 ⟨t4, hcase⟩
      have HT4 := Lib.hid (HT3.out.trans' t4)
      clear t4 HRT b0
      rcases hcase with ⟨x, l, c, hbad, _, _⟩ | ⟨ts', p', V, htk', hV, _, rfl⟩
      · rw [HTK.out.1] at hbad
        cases hbad
      rw [HTK.out.1] at htk'
      injection htk' with h1 h2
      subst h1 h2
      obtain ⟨A, c, rfl, hc, hrow⟩ := hV.form
      obtain ⟨N, hN⟩ : ∃ N, ts.length = N := ⟨_, rfl⟩
      have hN1 : 1 ≤ N := by
        have := HTK.out.2.2.1
        cases ts with
        | nil => simp at this
        | cons a l => simp at hN; omega
      have hlt' : ts[N - 1]? = some t := by
        rw [← hN, ← List.getLast?_eq_getElem?]
        exact HTK.out.2.2.1
      obtain ⟨g, rfl, hgl, hcell⟩ := hrow (N - 1) t hlt'
      obtain ⟨ln, hln'⟩ : ∃ ln, t.line = ln := ⟨_, rfl⟩
      obtain ⟨cl, hcl'⟩ : ∃ cl, t.col = cl := ⟨_, rfl⟩
      have Y2 : Hid (w4.cell? ⟨g, (N - 1) * 4 + 2, none⟩ = some (.int .i64 (ln : Int))) := Lib.hid (by rw [← hln']; exact hcell 2 _ rfl)
      have Y3 : Hid (w4.cell? ⟨g, (N - 1) * 4 + 3, none⟩ = some (.int .i64 (cl : Int))) := Lib.hid (by rw [← hcl']; exact hcell 3 _ rfl)
      have HPO : Hid (plc s.data.toList o = (ln, cl)) := Lib.hid (by rw [← hln', ← hcl']; exact HTK.out.2.2.2)
      rw [hN] at hc
      simp only [goodV]
      rw [hN]
      have hss : s.size ≤ 900000 := by omega
      obtain ⟨M, hM⟩ : ∃ M, N - 1 = M := ⟨_, rfl⟩
      rw [hM] at Y2 Y3
      have hMs : N ≤ s.size := by
        have h1 := offs_tok HTK.out.1
        have := Offs.len ts 0 (by omega) h1
        rw [HL.out] at this
        omega
      have m1 : (N : Int) - 1 = (M : Int) := by omega
      have m2 : (0 : Int) ≤ (M : Int) := by omega
      have m3 : (M : Int) < (N : Int) := by omega
      have m4 : M < N := by omega
      have m5 : IntKind.i64.wrap (M : Int) = (M : Int) := wrap_small (M : Int) (by omega) (by omega)
      have m5' : IntKind.i64.wrap ((N : Int) - 1) = (M : Int) := by rw [m1]; exact m5
      have m6 : decide ((0 : Int) ≤ (M : Int)) = true := by simp
      have m7 : decide ((M : Int) < (N : Int)) = true := by simp; omega
      have HMN := Lib.hid hM
      clear hrow hV hN hcell hlt' hln' hcl' hM
      have hs1 : 1 ≤ s.size := by omega
      go_wp2_with fail
      go_loopw [7] (fun ti wr => ∃ i : Nat, o ≤ i ∧ i < s.size ∧ ti = .int .i64 (i : Int) ∧ Hid (Turn [] w4 wr)) (fun ti _ => (intOf ti).toNat)
      case atStart => exact ⟨s.size - 1, by omega, by omega, by congr 1; omega, Lib.hid (((Turn.refl [] w4).alloc _).alloc _)⟩
      case round =>
        obtain ⟨i, hi, his, rfl, HTw⟩ := hrel
        have hglr : g < wr.heap.size := Nat.lt_of_lt_of_le hgl HTw.out.size
        have z2 : wr.cell? ⟨g, M * 4 + 2, none⟩ = some (.int .i64 (ln : Int)) := (HTw.out.cell (p := ⟨g, M * 4 + 2, none⟩) hgl (by simp)).trans Y2.out
        have z3 : wr.cell? ⟨g, M * 4 + 3, none⟩ = some (.int .i64 (cl : Int)) := (HTw.out.cell (p := ⟨g, M * 4 + 3, none⟩) hgl (by simp)).trans Y3.out
        have hpl := refPlace_any s i wr.drew (by omega) hss
        obtain ⟨x1, hx1⟩ : ∃ x, (plc s.data.toList i).1 = x := ⟨_, rfl⟩
        obtain ⟨x2, hx2⟩ : ∃ x, (plc s.data.toList i).2 = x := ⟨_, rfl⟩
        rw [hx1, hx2] at hpl
        have HPL := Lib.hid hpl
        have j0 : decide ((0 : Int) ≤ (i : Int)) = true := by simp
        have j1 : (0 : Int) ≤ (i : Int) := by omega
        clear hpl
        by_cases hlt2 : o < i
        · have hne := plc_ne (T := s.data.toList) hlt2 (by have := HL.out; omega)
          rw [hx1, hx2, HPO.out] at hne
          clear hx1 hx2
          simp only at hne
          rcases hne with hne | ⟨rfl, hne⟩
          · have n1 : decide ((x1 : Int) = (ln : Int)) = false := by simp; omega
            have n2 : ((x1 : Int) == (ln : Int)) = false := by simp; omega
            have n3 : ¬ (x1 : Int) = (ln : Int) := by omega
            have n4 : decide (x1 = ln) = false := decide_eq_false (fun e => hne e.symm)
            go_wp2_with fail
            go_region_held3 (fun w' => w'.cell? ⟨g, M * 4 + 2, none⟩ = some (.int .i64 (ln : Int)) ∧ w'.cell? ⟨g, M * 4 + 3, none⟩ = some (.int .i64 (cl : Int)))
              (first | exact ⟨v2, v3⟩ | go_keep)
              (first
                | (go_at_call 20; (with_reducible refine HPL.out.mono ?_); rintro e w7 ⟨rfl, t7⟩
                   have v2 : w7.cell? ⟨g, M * 4 + 2, none⟩ = some (.int .i64 (ln : Int)) := (t7.cell (p := ⟨g, M * 4 + 2, none⟩) hglr (by simp)).trans z2
                   have v3 : w7.cell? ⟨g, M * 4 + 3, none⟩ = some (.int .i64 (cl : Int)) := (t7.cell (p := ⟨g, M * 4 + 3, none⟩) hglr (by simp)).trans z3)
                | fail)
            have HT7 : Hid (Turn [] w4 w7) := Lib.hid ((HTw.out.drew).trans' t7)
            clear t7 v2 v3
            go_wp2_with fail
            go_roundw
            case rel => exact ⟨i - 1, by omega, by omega, by congr 1; omega, HT7⟩
            case measure => simp [intOf]; omega
          · have n1 : decide ((x2 : Int) = (cl : Int)) = false := by simp; omega
            have n2 : ((x2 : Int) == (cl : Int)) = false := by simp; omega
            have n3 : ¬ (x2 : Int) = (cl : Int) := by omega
            have n4 : decide (x2 = cl) = false := decide_eq_false (fun e => hne e.symm)
            go_wp2_with fail
            go_region_held3 (fun w' => w'.cell? ⟨g, M * 4 + 2, none⟩ = some (.int .i64 (ln : Int)) ∧ w'.cell? ⟨g, M * 4 + 3, none⟩ = some (.int .i64 (cl : Int)))
              (first | exact ⟨v2, v3⟩ | go_keep)
              (first
                | (go_at_call 20; (with_reducible refine HPL.out.mono ?_); rintro e w7 ⟨rfl, t7⟩
                   have v2 : w7.cell? ⟨g, M * 4 + 2, none⟩ = some (.int .i64 (ln : Int)) := (t7.cell (p := ⟨g, M * 4 + 2, none⟩) hglr (by simp)).trans z2
                   have v3 : w7.cell? ⟨g, M * 4 + 3, none⟩ = some (.int .i64 (cl : Int)) := (t7.cell (p := ⟨g, M * 4 + 3, none⟩) hglr (by simp)).trans z3)
                | fail)
            have HT7 : Hid (Turn [] w4 w7) := Lib.hid ((HTw.out.drew).trans' t7)
            clear t7 v2 v3
            go_wp2_with fail
            go_roundw
            case rel => exact ⟨i - 1, by omega, by omega, by congr 1; omega, HT7⟩
            case measure => simp [intOf]; omega
        · obtain rfl : o = i := by omega
          rw [HPO.out] at hx1 hx2
          simp only at hx1 hx2
          subst hx1 hx2
          obtain ⟨m, hm⟩ : ∃ m, n % (o + 1) = m := ⟨_, rfl⟩
          have hmo : m ≤ o := by have := Nat.mod_lt n (show 0 < o + 1 by omega); omega
          have hfalse := begins_false HTK.out.1 HTK.out.2.1 HTK.out.2.2.1 (by have := HL.out; omega) HTK.out.2.2.2 hmo
          have hkI : (n : Int) % ((o : Int) + 1) = (m : Int) := by rw [← hm, Int.natCast_emod]; rfl
          have hkT : Int.tmod (n : Int) ((o : Int) + 1) = (m : Int) := by rw [Int.tmod_eq_emod_of_nonneg (by omega)]; exact hkI
          have hkW : wrap64 (n : Int) = (n : Int) := by unfold wrap64; omega
          have hk0 : ¬ (o : Int) + 1 = 0 := by omega
          have hk1 : decide ((o : Int) + 1 = 0) = false := by simp; omega
          have hk2 : ((o : Int) + 1 == 0) = false := by rw [beq_eq_false_iff_ne]; omega
          have hk3 : (m : Int) ≤ (s.size : Int) := by omega
          have hk4 : (0 : Int) ≤ (m : Int) := by omega
          have k1 : ¬ (o : Int) < 0 := by omega
          have k2 : decide ((o : Int) < 0) = false := by simp
          obtain ⟨X, hX⟩ : ∃ X, s.extract 0 m = X := ⟨_, rfl⟩
          have hXd : X.data.toList = s.data.toList.take m := by
            rw [← hX, Lib.extract_data]
            simp
          have HF : Hid ((pfR X.data.toList).1 ≠ 0) := Lib.hid (by rw [hXd]; exact hfalse)
          have HX := Lib.hid hX
          clear hfalse hm hX hXd
          go_wp2_with fail
          go_region_held3 (fun w' => w'.cell? ⟨g, M * 4 + 2, none⟩ = some (.int .i64 (ln : Int)) ∧ w'.cell? ⟨g, M * 4 + 3, none⟩ = some (.int .i64 (cl : Int)))
            (first | exact ⟨v2, v3⟩ | go_keep)
            (first
              | (go_at_call 20; (with_reducible refine HPL.out.mono ?_); rintro e w7 ⟨rfl, t7⟩
                 have v2 : w7.cell? ⟨g, M * 4 + 2, none⟩ = some (.int .i64 (ln : Int)) := (t7.cell (p := ⟨g, M * 4 + 2, none⟩) hglr (by simp)).trans z2
                 have v3 : w7.cell? ⟨g, M * 4 + 3, none⟩ = some (.int .i64 (cl : Int)) := (t7.cell (p := ⟨g, M * 4 + 3, none⟩) hglr (by simp)).trans z3)
              | fail)
          have HT7 : Hid (Turn [] w4 w7) := Lib.hid ((HTw.out.drew).trans' t7)
          clear t7 v2 v3
          have HC2 : Hid (∀ W, Turn [] w7 W → Calls Tryz.prog 10 #[.string X] W fun e w' => Turn [] W w' ∧ PRes X.data.toList (fun g => W.heap.size ≤ g) w' e) := Lib.hid fun W t => HP.out W X ((HT4.out.trans' HT7.out).trans' t)
          clear HP
          go_wp2_with fail
          rw [HX.out]
          refine (HC2.out w7 (Turn.refl [] w7)).mono ?_
          rintro e w8 ⟨t8, h8⟩
          rcases h8 with ⟨hne, rfl⟩ | ⟨hz, _⟩
          · obtain ⟨x, hx⟩ : ∃ x, (pfR X.data.toList).1 = x := ⟨_, rfl⟩
            obtain ⟨xl, hxl⟩ : ∃ x, (pfR X.data.toList).2.1 = x := ⟨_, rfl⟩
            obtain ⟨xc, hxc⟩ : ∃ x, (pfR X.data.toList).2.2.1 = x := ⟨_, rfl⟩
            rw [hx] at hne
            rw [hx, hxl, hxc]
            have e0 : decide ((x : Int) = 0) = false := by simp; omega
            have e1 : ((x : Int) == 0) = false := by simp; omega
            have e2 : ¬ (x : Int) = 0 := by omega
            have e3 : decide (x = 0) = false := by simpa using hne
            have e4 : ((x : Int) != 0) = true := by rw [bne, e1]; rfl
            obtain ⟨W9, hW9⟩ : ∃ W, (w8.alloc (.cells #[.slice none 0 0, .string ⟨#[]⟩, .string ⟨#[]⟩, .bool false, .bool false, .slice none 0 0, .slice none 0 0, .slice none 0 0, .int .i64 0, .int .i64 0] 31)).alloc (.cells #[.int .i64 (x : Int), .int .i64 (xl : Int), .int .i64 (xc : Int)] 34) = W := ⟨_, rfl⟩
            have t9 : Turn [] w8 W9 := by rw [← hW9]; exact ((Turn.refl [] w8).alloc _).alloc _
            have aW : W9.heap[w8.heap.size]? = some (.cells #[.slice none 0 0, .string ⟨#[]⟩, .string ⟨#[]⟩, .bool false, .bool false, .slice none 0 0, .slice none 0 0, .slice none 0 0, .int .i64 0, .int .i64 0] 31 (0, 0)) := by
              rw [← hW9]; exact ((Turn.refl [] _).alloc _).heap (heap_alloc_new w8 _) (by simp)
            have bW : W9.heap[w8.heap.size + 1]? = some (.cells #[.int .i64 (x : Int), .int .i64 (xl : Int), .int .i64 (xc : Int)] 34 (0, 0)) := by
              rw [← hW9]
              have := heap_alloc_new (w8.alloc (.cells #[.slice none 0 0, .string ⟨#[]⟩, .string ⟨#[]⟩, .bool false, .bool false, .slice none 0 0, .slice none 0 0, .slice none 0 0, .int .i64 0, .int .i64 0] 31)) (.cells #[.int .i64 (x : Int), .int .i64 (xl : Int), .int .i64 (xc : Int)] 34)
              rwa [World.size_alloc] at this
            have b0 : W9.cell? ⟨w8.heap.size + 1, 0, none⟩ = some (.int .i64 (x : Int)) := cell_of_row W9 (w8.heap.size + 1) 0 _ _ _ bW
            have a0 : W9.cell? ⟨w8.heap.size, 0, none⟩ = some (.slice none 0 0) := cell_of_row W9 w8.heap.size 0 _ _ _ aW
            have a1 : W9.cell? ⟨w8.heap.size, 1, none⟩ = some (.string ⟨#[]⟩) := cell_of_row W9 w8.heap.size 1 _ _ _ aW
            have a2 : W9.cell? ⟨w8.heap.size, 2, none⟩ = some (.string ⟨#[]⟩) := cell_of_row W9 w8.heap.size 2 _ _ _ aW
            have a3 : W9.cell? ⟨w8.heap.size, 3, none⟩ = some (.bool false) := cell_of_row W9 w8.heap.size 3 _ _ _ aW
            have a4 : W9.cell? ⟨w8.heap.size, 4, none⟩ = some (.bool false) := cell_of_row W9 w8.heap.size 4 _ _ _ aW
            have a5 : W9.cell? ⟨w8.heap.size, 5, none⟩ = some (.slice none 0 0) := cell_of_row W9 w8.heap.size 5 _ _ _ aW
            have a6 : W9.cell? ⟨w8.heap.size, 6, none⟩ = some (.slice none 0 0) := cell_of_row W9 w8.heap.size 6 _ _ _ aW
            have a7 : W9.cell? ⟨w8.heap.size, 7, none⟩ = some (.slice none 0 0) := cell_of_row W9 w8.heap.size 7 _ _ _ aW
            have a8 : W9.cell? ⟨w8.heap.size, 8, none⟩ = some (.int .i64 0) := cell_of_row W9 w8.heap.size 8 _ _ _ aW
            have a9 : W9.cell? ⟨w8.heap.size, 9, none⟩ = some (.int .i64 0) := cell_of_row W9 w8.heap.size 9 _ _ _ aW
            have HS := Lib.hid (prog_zero W9)
            unfold progZ at HS ⊢
            have HT9 := Lib.hid (((HT4.out.trans' HT7.out).trans' t8).trans' t9)
            have HW9 := Lib.hid hW9
            clear hx hxl hxc t8 t9 hW9 aW bW
            go_upto_region 13 with (fail)
            rw [HW9.out]
            go_wp2_with fail
            refine HS.out.mono ?_
            rintro e w10 ⟨rfl, t10⟩
            go_wp2_with fail
            go_ret
            exact ⟨rfl, HT9.out.trans' t10⟩
          · exact absurd hz HF.out
end Go.Proofs.YtnmhcgkccchacaaGreatDoor
