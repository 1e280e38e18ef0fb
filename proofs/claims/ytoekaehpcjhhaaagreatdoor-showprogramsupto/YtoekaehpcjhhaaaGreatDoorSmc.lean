/- The reference's Small. -/
import Derived.Test.YtoekaehpcjhhaaaGreatDoorSma
set_option linter.unusedSimpArgs false
set_option linter.unusedVariables false
namespace Go.Proofs.YtoekaehpcjhhaaaGreatDoor
open Go.RowKit

theorem RdL.nil' {B : Nat} {w : World} {A : Option Addr} {k : Nat} : RdL B w A k [] := by unfold RdL; trivial
/-- What Small answers k deep. -/
def SmSaid (k : Nat) : Prop := ∀ (l : List St) (A : Option Addr) (c B : Nat) (deep : Int) (w : World), deep = (k : Int) - 1 → RdL B w A 0 l → OkL l →
    Calls Tryz.prog 20 #[.slice A l.length c, .int .i64 deep] w fun e w' => e = .returned (.bool (smL k l)) ∧ Turn [] w w'

theorem beq0 (n : Nat) : ((n : Int) == 0) = decide (n = 0) := by rw [Bool.eq_iff_iff]; simp
theorem small_zero : SmSaid 0 := by
  intro l A c B deep w hd hr ho
  have hd1 : deep = -1 := by omega
  subst hd1
  have hR : smL 0 l = decide (l.length = 0) := rfl
  rw [hR]
  obtain ⟨n, hn⟩ : ∃ n, l.length = n := ⟨_, rfl⟩
  rw [hn]
  clear hr ho hR hd hn
  by_cases h8 : 8 < n
  · have h8I : (8 : Int) < (n : Int) := by omega
    go_enter Tryz.func20, Tryz.ntmps20
    go_wp2_with fail
    go_ret
    exact ⟨ret_bool (beq0 n), Turn.refl _ _⟩
  · have h8I : ¬ (8 : Int) < (n : Int) := by omega
    go_enter Tryz.func20, Tryz.ntmps20
    go_wp2_with fail
    go_ret
    exact ⟨ret_bool (beq0 n), Turn.refl _ _⟩

theorem all_take_false {l : List St} {p : St → Bool} {k : Nat} {s : St} (hs : l[k]? = some s) (h : p s = false) : l.all p = false := by
  rw [List.all_eq_false]
  exact ⟨s, List.mem_of_getElem? hs, by simp [h]⟩

set_option maxHeartbeats 8000000 in
set_option maxRecDepth 100000 in
theorem small_succ (q : Nat) (hq : q ≤ 5) (ih : SmSaid q) : SmSaid (q + 1) := by
  intro l A c B deep w hd hr ho
  have hd1 : deep = (q : Int) := by omega
  subst hd1
  rw [smL_succ]
  have HR := Lib.hid hr
  have HO := Lib.hid ho
  have HI := Lib.hid ih
  obtain ⟨n, hn⟩ : ∃ n, l.length = n := ⟨_, rfl⟩
  have HN := Lib.hid hn
  rw [hn]
  clear hr ho hd hn ih
  have hq0 : ¬ (q : Int) < 0 := by omega
  by_cases h8 : 8 < n
  · have h8I : (8 : Int) < (n : Int) := by omega
    go_enter Tryz.func20, Tryz.ntmps20
    go_wp2_with fail
    go_ret
    exact ⟨ret_bool (by
      have h1 : decide (n ≤ 8) = false := by simp; omega
      have h2 : ¬ n = 0 := by omega
      simp [h1, h2]), Turn.refl _ _⟩
  · have h8I : ¬ (8 : Int) < (n : Int) := by omega
    have hn8 : n ≤ 8 := by omega
    have HE : Hid ((decide (n ≤ 8) && l.all (smS q)) = l.all (smS q)) := Lib.hid (by simp [hn8])
    rw [HE.out]
    obtain ⟨V, hV⟩ : ∃ V, l.all (smS q) = V := ⟨_, rfl⟩
    rw [hV]
    have HV := Lib.hid hV
    clear hV HE
    go_enter Tryz.func20, Tryz.ntmps20
    go_wp2_with fail
    go_loopw [5] (fun i wr => ∃ k : Nat, k ≤ n ∧ i = .int .i64 (k : Int) ∧ Hid (((l.take k).all (smS q)) = true ∧ Turn [] w wr)) (fun i _ => n - (intOf i).toNat)
    case atStart => exact ⟨0, Nat.zero_le _, rfl, Lib.hid ⟨by simp, Turn.refl _ _⟩⟩
    case round =>
      obtain ⟨k, hk, rfl, HW⟩ := hrel
      by_cases hlt : k < n
      · have hT1 := HW.out.2
        obtain ⟨s, hsk⟩ := at_lt (l := l) (k := k) (by rw [HN.out]; exact hlt)
        obtain ⟨g, off, cs, rfl, hgB, hgl, hcell, hRd⟩ := RdL.at (HR.out.turn hT1 (by simp) l) hsk
        have hok := HO.out.at hsk
        rw [Nat.zero_add] at hcell
        have HSK := Lib.hid hsk
        have HT1 := Lib.hid hT1
        obtain ⟨d, x, y, z, t, f, ag, nn, bd, ot, lin, cl⟩ := s
        obtain ⟨A1, c1, A2, c2, A3, c3, rfl, k1, k2, k3, r1, r1B, r2, r3⟩ := hRd.cells
        obtain ⟨_, _, _, ⟨fx, fy, fz, ft, ff⟩, fa, hob, hoo⟩ := hok.parts
        simp only [Fit] at fx fy fz ft ff
        have e0 : wr.cell? ⟨g, off + k * 12, none⟩ = some (.int .i64 d) := hcell 0 _ rfl
        have e1 := hcell 1 _ rfl
        have e2 := hcell 2 _ rfl
        have e3 := hcell 3 _ rfl
        have e4 := hcell 4 _ rfl
        have e5 := hcell 5 _ rfl
        have e6 := hcell 6 _ rfl
        have e7 := hcell 7 _ rfl
        have e8 := hcell 8 _ rfl
        have e9 := hcell 9 _ rfl
        have e10 := hcell 10 _ rfl
        have e11 := hcell 11 _ rfl
        have tA := bx wr #[.int .i64 d, .string x, .string y, .string z, .string t, .string f, .slice A1 ag.length c1, .int .i64 nn, .slice A2 bd.length c2, .slice A3 ot.length c3, .int .i64 lin, .int .i64 cl] 38
        have HTA := Lib.hid tA
        have HS1 : Hid (Sts wr A1 ag) := Lib.hid r1
        have HB1 := Lib.hid (r2.turn tA (by simp) bd)
        have HB2 := Lib.hid (r3.turn tA (by simp) ot)
        have HFA := Lib.hid fa
        have HOB := Lib.hid (And.intro hob hoo)
        have HBad : Hid (smS q (.mk d x y z t f ag nn bd ot lin cl) = false → V = false) := Lib.hid (fun h => by rw [← HV.out]; exact all_take_false HSK.out h)
        have hsq : ∀ b, smS q (.mk d x y z t f ag nn bd ot lin cl) = b → (decide (x.size + y.size + z.size + t.size + f.size ≤ 100) && decide (ag.length ≤ 8) && decide ((cat ag).size ≤ 100) && smL q bd && smL q ot) = b := fun b h => h
        have HSQ := Lib.hid hsq
        clear hsk hRd hT1 hcell hok r1 r2 r3 r1B fa hob hoo tA hsq
        by_cases g1 : 100 < x.size + y.size + z.size + t.size + f.size
        · have g1I : (100 : Int) < (x.size : Int) + (y.size : Int) + (z.size : Int) + (t.size : Int) + (f.size : Int) := by omega
          have HG : Hid (V = false) := Lib.hid (HBad.out (by
            have : decide (x.size + y.size + z.size + t.size + f.size ≤ 100) = false := by simp; omega
            show (decide (x.size + y.size + z.size + t.size + f.size ≤ 100) && decide (ag.length ≤ 8) && decide ((cat ag).size ≤ 100) && smL q bd && smL q ot) = false
            rw [this]; rfl))
          go_wp2_with fail
          go_ret
          exact ⟨ret_bool HG.out.symm, HT1.out.trans' HTA.out⟩
        · have g1I : ¬ (100 : Int) < (x.size : Int) + (y.size : Int) + (z.size : Int) + (t.size : Int) + (f.size : Int) := by omega
          by_cases g2 : 8 < ag.length
          · have g2I : (8 : Int) < (ag.length : Int) := by omega
            have HG : Hid (V = false) := Lib.hid (HBad.out (by
              have h2 : decide (ag.length ≤ 8) = false := by simp; omega
              show (decide (x.size + y.size + z.size + t.size + f.size ≤ 100) && decide (ag.length ≤ 8) && decide ((cat ag).size ≤ 100) && smL q bd && smL q ot) = false
              rw [h2, Bool.and_false]; rfl))
            go_wp2_with fail
            go_ret
            exact ⟨ret_bool HG.out.symm, HT1.out.trans' HTA.out⟩
          · have g2I : ¬ (8 : Int) < (ag.length : Int) := by omega
            have hag : (cat ag).size ≤ 2305843009213693952 := by
              rw [size_cat]
              have key : ∀ (l : List ByteArray), (∀ a ∈ l, Fit a) → (l.map (·.size)).sum ≤ l.length * 281474976710656 := by
                intro l
                induction l with
                | nil => intro _; simp
                | cons a l ihl =>
                  intro h
                  have h1 := h a (by simp)
                  have h2 := ihl fun b hb => h b (by simp [hb])
                  simp only [Fit] at h1
                  rw [List.map_cons, List.sum_cons, List.length_cons, Nat.add_mul]
                  omega
              have := key ag HFA.out
              have h3 : ag.length * 281474976710656 ≤ 8 * 281474976710656 := Nat.mul_le_mul_right _ (by omega)
              omega
            have HJ := Lib.hid (rjoin_any A1 c1 ag ⟨#[]⟩ _ (HS1.out.turn' HTA.out) (by omega) (by rw [jn_none]; exact hag))
            rw [jn_none] at HJ
            obtain ⟨CA, hCA⟩ : ∃ C, cat ag = C := ⟨_, rfl⟩
            rw [hCA] at HJ hag
            have HCA := Lib.hid hCA
            have hagl : ag.length ≤ 8 := by omega
            clear hCA
            go_wp2_with fail
            refine HJ.out.mono ?_
            rintro e w2 ⟨rfl, rfl⟩
            by_cases g3 : 100 < CA.size
            · have g3I : (100 : Int) < (CA.size : Int) := by omega
              have HG : Hid (V = false) := Lib.hid (HBad.out (by
                have h2 : decide ((cat ag).size ≤ 100) = false := by rw [HCA.out]; simp; omega
                show (decide (x.size + y.size + z.size + t.size + f.size ≤ 100) && decide (ag.length ≤ 8) && decide ((cat ag).size ≤ 100) && smL q bd && smL q ot) = false
                rw [h2, Bool.and_false]; rfl))
              go_wp2_with fail
              go_ret
              exact ⟨ret_bool HG.out.symm, HT1.out.trans' HTA.out⟩
            · have g3I : ¬ (100 : Int) < (CA.size : Int) := by omega
              have HC1 := Lib.hid (HI.out bd A2 c2 B ((q : Int) - 1) _ rfl HB1.out HOB.out.1)
              go_wp2_with fail
              refine HC1.out.mono ?_
              rintro e w3 ⟨rfl, t3⟩
              have HT3 := Lib.hid (HTA.out.trans' t3)
              have HT3c := Lib.hid t3
              have HC2 := Lib.hid (HI.out ot A3 c3 B ((q : Int) - 1) _ rfl (HB2.out.turn t3 (by simp) ot) HOB.out.2)
              clear t3
              cases hb1 : smL q bd with
              | false =>
                have HG : Hid (V = false) := Lib.hid (HBad.out (by
                  show (decide (x.size + y.size + z.size + t.size + f.size ≤ 100) && decide (ag.length ≤ 8) && decide ((cat ag).size ≤ 100) && smL q bd && smL q ot) = false
                  rw [hb1, Bool.and_false]; rfl))
                go_wp2_with fail
                go_ret
                exact ⟨ret_bool HG.out.symm, HT1.out.trans' HT3.out⟩
              | true =>
                have HB1 := Lib.hid hb1
                have m9 : w3.cell? ⟨wr.heap.size, 9, none⟩ = some (.slice A3 ot.length c3) := (HT3c.out.cell (p := ⟨wr.heap.size, 9, none⟩) (by simp) (by simp)).trans (cell_of_row _ wr.heap.size 9 _ _ _ (heap_alloc_new wr _))
                clear hb1
                go_wp2_with fail
                refine HC2.out.mono ?_
                rintro e w4 ⟨rfl, t4⟩
                have HT4 := Lib.hid (HT3.out.trans' t4)
                clear t4
                cases hb2 : smL q ot with
                | false =>
                  have HG : Hid (V = false) := Lib.hid (HBad.out (by
                    show (decide (x.size + y.size + z.size + t.size + f.size ≤ 100) && decide (ag.length ≤ 8) && decide ((cat ag).size ≤ 100) && smL q bd && smL q ot) = false
                    rw [hb2, Bool.and_false]))
                  go_wp2_with fail
                  go_ret
                  exact ⟨ret_bool HG.out.symm, HT1.out.trans' HT4.out⟩
                | true =>
                  have HGood : Hid (smS q (.mk d x y z t f ag nn bd ot lin cl) = true) := Lib.hid (by
                    have p1 : decide (x.size + y.size + z.size + t.size + f.size ≤ 100) = true := by simp; omega
                    have p2 : decide (ag.length ≤ 8) = true := by simp; omega
                    have p3 : decide ((cat ag).size ≤ 100) = true := by rw [HCA.out]; simp; omega
                    show (decide (x.size + y.size + z.size + t.size + f.size ≤ 100) && decide (ag.length ≤ 8) && decide ((cat ag).size ≤ 100) && smL q bd && smL q ot) = true
                    rw [p1, p2, p3, HB1.out, hb2]; rfl)
                  clear hb2
                  go_wp2_with fail
                  go_roundw
                  case rel => exact ⟨k + 1, by omega, by go_num, Lib.hid ⟨by rw [take_snoc HSK.out, List.all_append, HW.out.1]; simp [HGood.out], HT1.out.trans' HT4.out⟩⟩
                  case measure => simp [intOf]; omega
      · have hkn : k = n := by omega
        subst hkn
        have HG : Hid (V = true) := Lib.hid (by
          have := HW.out.1
          rw [List.take_of_length_le (by rw [HN.out]; exact Nat.le_refl _)] at this
          rw [← HV.out]; exact this)
        go_wp2_with fail
        go_ret
        exact ⟨ret_bool HG.out.symm, HW.out.2⟩
theorem small_any : ∀ (k : Nat), k ≤ 5 → SmSaid k
  | 0, _ => small_zero
  | k + 1, h => small_succ k (by omega) (small_any k (by omega))
end Go.Proofs.YtoekaehpcjhhaaaGreatDoor
