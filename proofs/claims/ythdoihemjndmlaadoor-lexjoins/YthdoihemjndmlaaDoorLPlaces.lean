/- LexPlaces: each token's text stands in the text at its place, one behind the other. -/
import Derived.Test.YthdoihemjndmlaaDoorOf
set_option linter.unusedSimpArgs false
set_option linter.unusedVariables false
namespace Go.Proofs.YthdoihemjndmlaaDoor
open Go.RowKit

theorem Offs.len {T : List UInt8} : ∀ (ts : List Tok) (n : Nat), n ≤ T.length → Offs T n ts → n + ts.length ≤ T.length
  | [], n, h, _ => by simpa using h
  | t :: ts, n, h, ho => by
    obtain ⟨m, h1, h2, h3, _, _, h6⟩ := ho
    have := Offs.len ts (m + t.text.length) h3 h6
    rw [List.length_cons]
    omega

set_option maxHeartbeats 8000000 in
set_option maxRecDepth 100000 in
theorem places_law (hr : ReadSaid) (s : ByteArray) (w : World) (hS : Sg w) :
    Calls Tryd.prog 7 #[.string s] w fun e w' => e = .returned (.bool true) ∧ Turn [] w w' := by
  have HS := Lib.hid hS
  have HR := Lib.hid hr
  clear hS hr
  by_cases hbig : 400 < s.size
  · have d1 : decide ((400 : Int) < (s.size : Int)) = true := by simp; omega
    have d2 : (400 : Int) < (s.size : Int) := by omega
    go_enter Tryd.func7, Tryd.ntmps7
    go_wp2_with fail
    refine (awake_any HR.out w HS.out).mono ?_
    rintro e w1 ⟨rfl, t1⟩
    have HT1 := Lib.hid t1
    clear t1
    go_wp2_with fail
    refine (awake_any HR.out w1 (HS.out.turn HT1.out (by simp))).mono ?_
    rintro e w2 ⟨rfl, t2⟩
    have HT2 := Lib.hid (HT1.out.trans' t2)
    clear t2
    go_wp2_with fail
    go_ret
    exact ⟨rfl, HT2.out⟩
  · have d1 : decide ((400 : Int) < (s.size : Int)) = false := by simp; omega
    have d2 : ¬ (400 : Int) < (s.size : Int) := by omega
    have hss : s.size ≤ 900000 := by omega
    have hl : s.data.toList.length = s.size := (Lib.size_eq s).symm
    have HL := Lib.hid hl
    clear hl
    go_enter Tryd.func7, Tryd.ntmps7
    go_wp2_with fail
    refine (awake_any HR.out w HS.out).mono ?_
    rintro e w1 ⟨rfl, t1⟩
    have HT1 := Lib.hid t1
    clear t1
    go_wp2_with fail
    refine (tokens_any HR.out s w1 (HS.out.turn HT1.out (by simp))).mono ?_
    rintro e w2 ⟨t2, hcase⟩
    have HT2 := Lib.hid (HT1.out.trans' t2)
    clear t2
    rcases hcase with ⟨x, l, c, _, hx0, rfl⟩ | ⟨ts, p, V, htk, hV, _, rfl⟩
    · have e0 : decide ((x : Int) = 0) = false := by simp; omega
      have e1 : ((x : Int) == 0) = false := by simp; omega
      have e2 : ¬ (x : Int) = 0 := by omega
      simp only [badV]
      go_wp2_with fail
      go_ret
      exact ⟨rfl, ((HT2.out).alloc _).alloc _⟩
    · have ho := offs_tok htk
      have hln := Offs.len ts 0 (by omega) ho
      rw [HL.out] at hln
      have HO := Lib.hid ho
      obtain ⟨A, c, rfl, hc, hrow⟩ := hV.form
      have HRow := Lib.hid hrow
      clear hrow hV htk ho
      obtain ⟨N, hN⟩ : ∃ N, ts.length = N := ⟨_, rfl⟩
      rw [hN] at hln hc
      simp only [goodV]
      rw [hN]
      have HN := Lib.hid hN
      clear hN
      go_wp2_with fail
      go_loopw [6, 7] (fun ta ti wr => ∃ i a : Nat, i ≤ N ∧ a ≤ s.size ∧ ta = .int .i64 (a : Int) ∧ ti = .int .i64 (i : Int) ∧ Hid (Offs s.data.toList a (ts.drop i)) ∧ Hid (Turn [] w2 wr)) (fun _ ti _ => N - (intOf ti).toNat)
      case atStart => exact ⟨0, 0, by omega, by omega, rfl, rfl, HO, Lib.hid (((Turn.refl [] w2).alloc _).alloc _)⟩
      case round =>
        obtain ⟨W0, rfl⟩ : ∃ W0, W0 = wr := ⟨_, rfl⟩
        obtain ⟨i, a, hi, ha, rfl, rfl, HOf, HTo⟩ := hrel
        by_cases hlt : i < N
        · obtain ⟨t, ht⟩ := at_lt (show i < ts.length by have := HN.out; omega)
          have hdr : ts.drop i = t :: ts.drop (i + 1) := by
            obtain ⟨hh, he⟩ := List.getElem?_eq_some_iff.1 ht
            rw [List.drop_eq_getElem_cons hh, he]
          have hof := HOf.out
          rw [hdr] at hof
          obtain ⟨m, hm1, hm2, hm3, hm4, hm5, hm6⟩ := hof
          rw [HL.out] at hm3
          obtain ⟨g, rfl, hgl, hcell⟩ := HRow.out i t ht
          have y1 : w2.cell? ⟨g, i * 4 + 1, none⟩ = some (.string ⟨t.text.toArray⟩) := hcell 1 _ rfl
          have y2 : w2.cell? ⟨g, i * 4 + 2, none⟩ = some (.int .i64 (t.line : Int)) := hcell 2 _ rfl
          have y3 : w2.cell? ⟨g, i * 4 + 3, none⟩ = some (.int .i64 (t.col : Int)) := hcell 3 _ rfl
          have d3 : decide ((i : Int) < (N : Int)) = true := by simp; omega
          have d4 : (i : Int) < (N : Int) := by omega
          obtain ⟨X, hX⟩ : ∃ X : ByteArray, X = ⟨t.text.toArray⟩ := ⟨_, rfl⟩
          have hXs : X.size = t.text.length := by rw [hX]; simp [ByteArray.size]
          rw [← hX] at y1
          obtain ⟨k, hk⟩ : ∃ k, t.text.length = k := ⟨_, rfl⟩
          rw [hk] at hm2 hm3 hm4 hm6 hXs
          have hext : s.extract m (m + k) = X := by
            rw [Lib.extract_eq, hX, show m + k - m = k by omega, hm4]
          obtain ⟨ln, hln'⟩ : ∃ ln, t.line = ln := ⟨_, rfl⟩
          obtain ⟨cl, hcl'⟩ : ∃ cl, t.col = cl := ⟨_, rfl⟩
          rw [hln', hcl'] at hm5
          rw [hln'] at y2
          rw [hcl'] at y3
          have HM5 := Lib.hid hm5
          have HM6 := Lib.hid hm6
          have HEX := Lib.hid hext
          have Y1 := Lib.hid y1
          have Y2 := Lib.hid y2
          have Y3 := Lib.hid y3
          clear hm4 hm5 hm6 hX hk hln' hcl' hcell hdr ht hext y1 y2 y3
          go_wp2_with fail
          go_loopw [6] (fun ta wr => ∃ a' : Nat, a ≤ a' ∧ a' ≤ m ∧ ta = .int .i64 (a' : Int) ∧ Hid (Turn [] w2 wr)) (fun ta _ => m - (intOf ta).toNat)
          case atStart => exact ⟨a, Nat.le_refl _, hm1, rfl, HTo⟩
          case round =>
            obtain ⟨a', ha1, ha2, rfl, HTw⟩ := hrel
            have d5 : decide ((a' : Int) < (s.size : Int)) = true := by simp; omega
            have d6 : (a' : Int) < (s.size : Int) := by omega
            have hglr : g < wr.heap.size := Nat.lt_of_lt_of_le hgl HTw.out.size
            have z1 : wr.cell? ⟨g, i * 4 + 1, none⟩ = some (.string X) := (HTw.out.cell (p := ⟨g, i * 4 + 1, none⟩) hgl (by simp)).trans Y1.out
            have z2 : wr.cell? ⟨g, i * 4 + 2, none⟩ = some (.int .i64 (ln : Int)) := (HTw.out.cell (p := ⟨g, i * 4 + 2, none⟩) hgl (by simp)).trans Y2.out
            have z3 : wr.cell? ⟨g, i * 4 + 3, none⟩ = some (.int .i64 (cl : Int)) := (HTw.out.cell (p := ⟨g, i * 4 + 3, none⟩) hgl (by simp)).trans Y3.out
            have hpl := refPlace_any s a' wr.drew (by omega) hss
            obtain ⟨x1, hx1⟩ : ∃ x, (plc s.data.toList a').1 = x := ⟨_, rfl⟩
            obtain ⟨x2, hx2⟩ : ∃ x, (plc s.data.toList a').2 = x := ⟨_, rfl⟩
            rw [hx1, hx2] at hpl
            have HPL := Lib.hid hpl
            clear hpl
            by_cases hlt2 : a' < m
            · have hne := plc_ne (T := s.data.toList) hlt2 (by have := HL.out; omega)
              rw [hx1, hx2, HM5.out] at hne
              clear hx1 hx2
              simp only at hne
              rcases hne with hne | ⟨rfl, hne⟩
              · have n1 : decide ((x1 : Int) = (ln : Int)) = false := by simp; omega
                have n2 : ((x1 : Int) == (ln : Int)) = false := by simp; omega
                have n3 : ¬ (x1 : Int) = (ln : Int) := by omega
                have n4 : decide (x1 = ln) = false := by simpa using hne
                go_wp2_with fail
                go_region_held3 (fun w' => w'.cell? ⟨g, i * 4 + 2, none⟩ = some (.int .i64 (ln : Int)) ∧ w'.cell? ⟨g, i * 4 + 3, none⟩ = some (.int .i64 (cl : Int)))
                  (first | exact ⟨v2, v3⟩ | go_keep)
                  (first
                    | (go_at_call 16; (with_reducible refine HPL.out.mono ?_); rintro e w7 ⟨rfl, t7⟩
                       have v2 : w7.cell? ⟨g, i * 4 + 2, none⟩ = some (.int .i64 (ln : Int)) := (t7.cell (p := ⟨g, i * 4 + 2, none⟩) hglr (by simp)).trans z2
                       have v3 : w7.cell? ⟨g, i * 4 + 3, none⟩ = some (.int .i64 (cl : Int)) := (t7.cell (p := ⟨g, i * 4 + 3, none⟩) hglr (by simp)).trans z3))
                have HT7 : Hid (Turn [] w2 w7) := Lib.hid ((HTw.out.drew).trans' t7)
                clear t7 v2 v3
                go_wp2_with fail
                go_roundw
                case rel => exact ⟨a' + 1, by omega, by omega, by go_num, HT7⟩
                case measure => simp [intOf]; omega
              · have n1 : decide ((x2 : Int) = (cl : Int)) = false := by simp; omega
                have n2 : ((x2 : Int) == (cl : Int)) = false := by simp; omega
                have n3 : ¬ (x2 : Int) = (cl : Int) := by omega
                have n4 : decide (x2 = cl) = false := by simpa using hne
                go_wp2_with fail
                go_region_held3 (fun w' => w'.cell? ⟨g, i * 4 + 2, none⟩ = some (.int .i64 (x1 : Int)) ∧ w'.cell? ⟨g, i * 4 + 3, none⟩ = some (.int .i64 (cl : Int)))
                  (first | exact ⟨v2, v3⟩ | go_keep)
                  (first
                    | (go_at_call 16; (with_reducible refine HPL.out.mono ?_); rintro e w7 ⟨rfl, t7⟩
                       have v2 : w7.cell? ⟨g, i * 4 + 2, none⟩ = some (.int .i64 (x1 : Int)) := (t7.cell (p := ⟨g, i * 4 + 2, none⟩) hglr (by simp)).trans z2
                       have v3 : w7.cell? ⟨g, i * 4 + 3, none⟩ = some (.int .i64 (cl : Int)) := (t7.cell (p := ⟨g, i * 4 + 3, none⟩) hglr (by simp)).trans z3))
                have HT7 : Hid (Turn [] w2 w7) := Lib.hid ((HTw.out.drew).trans' t7)
                clear t7 v2 v3
                go_wp2_with fail
                go_roundw
                case rel => exact ⟨a' + 1, by omega, by omega, by go_num, HT7⟩
                case measure => simp [intOf]; omega
            · obtain rfl : a' = m := by omega
              rw [HM5.out] at hx1 hx2
              simp only at hx1 hx2
              subst hx1 hx2
              go_wp2_with fail
              go_region_held3 (fun w' => w'.cell? ⟨g, i * 4 + 2, none⟩ = some (.int .i64 (ln : Int)) ∧ w'.cell? ⟨g, i * 4 + 3, none⟩ = some (.int .i64 (cl : Int)))
                (first | exact ⟨v2, v3⟩ | go_keep)
                (first
                  | (go_at_call 16; (with_reducible refine HPL.out.mono ?_); rintro e w7 ⟨rfl, t7⟩
                     have v2 : w7.cell? ⟨g, i * 4 + 2, none⟩ = some (.int .i64 (ln : Int)) := (t7.cell (p := ⟨g, i * 4 + 2, none⟩) hglr (by simp)).trans z2
                     have v3 : w7.cell? ⟨g, i * 4 + 3, none⟩ = some (.int .i64 (cl : Int)) := (t7.cell (p := ⟨g, i * 4 + 3, none⟩) hglr (by simp)).trans z3))
              have HT7 : Hid (Turn [] w2 w7) := Lib.hid ((HTw.out.drew).trans' t7)
              have v1 : w7.cell? ⟨g, i * 4 + 1, none⟩ = some (.string X) := (t7.cell (p := ⟨g, i * 4 + 1, none⟩) hglr (by simp)).trans z1
              have hgl7 : g < w7.heap.size := Nat.lt_of_lt_of_le hgl HT7.out.size
              have e5 := bytes_t HEX.out
              have q1 : decide ((k : Int) = 0) = false := decide_eq_false (by omega)
              have q2 : ((k : Int) == 0) = false := by rw [beq_eq_false_iff_ne]; omega
              have q3 : ¬ (k : Int) = 0 := by omega
              have q3a : decide (k = 0) = false := decide_eq_false (by omega)
              have q4 : decide ((s.size : Int) < (a' : Int) + (k : Int)) = false := decide_eq_false (by omega)
              have q5 : ¬ (s.size : Int) < (a' : Int) + (k : Int) := by omega
              clear t7 v2 v3
              go_wp2_with fail
              go_quiet (fail)
              go_wp2_with fail
              go_roundw
              case rel =>
                refine ⟨i + 1, a' + k, by omega, by omega, by go_num, by go_num, Lib.hid ?_, Lib.hid ((HT7.out).drewN _)⟩
                exact HM6.out
              case measure => simp [intOf]; omega
        · obtain rfl : i = N := by omega
          have d3 : decide ((i : Int) < (i : Int)) = false := by simp
          go_wp2_with fail
          go_ret
          exact ⟨rfl, HT2.out.trans' HTo.out⟩
end Go.Proofs.YthdoihemjndmlaaDoor
