import Derived.Test.YtoekaehpcjhhaaaGreatDoorSma
import Derived.Test.YtoekaehpcjhhaaaGreatDoorPvr
import Derived.Test.YtoekaehpcjhhaaaGreatDoorPms

/- The reference's Small. -/
set_option linter.unusedSimpArgs false
set_option linter.unusedVariables false
namespace Go.Proofs.YtoekaehpcjhhaaaGreatDoor
open Go.RowKit

theorem RdL.nil' {B : Nat} {w : World} {A : Option Addr} {k : Nat} : RdL B w A k [] := by unfold RdL; trivial
/-- What Small answers k deep. -/
def SmSaid (k : Nat) : Prop := ∀ (l : List St) (A : Option Addr) (c B : Nat) (deep : Int) (w : World), deep = (k : Int) - 1 → RdL B w A 0 l → OkL l →
    Calls Tryz.prog 20 #[.slice A l.length c, .int .i64 deep] w fun e w' => e = .returned (.bool (smL k l)) ∧ Turn [] w w'

theorem beq0 (n : Nat) : ((n : Int) == 0) = decide (n = 0) := by rw [Bool.eq_iff_iff]; simp
theorem small_zero : SmSaid 0 := by
  intro l A c B deep w hd hr ho
  have hd1 : deep = -1 := by omega
  subst hd1
  have hR : smL 0 l = decide (l.length = 0) := rfl
  rw [hR]
  obtain ⟨n, hn⟩ : ∃ n, l.length = n := ⟨_, rfl⟩
  rw [hn]
  clear hr ho hR hd hn
  by_cases h8 : 8 < n
  · have h8I : (8 : Int) < (n : Int) := by omega
    go_enter Tryz.func20, Tryz.ntmps20
    go_wp2_with fail
    go_ret
    exact ⟨ret_bool (beq0 n), Turn.refl _ _⟩
  · have h8I : ¬ (8 : Int) < (n : Int) := by omega
    go_enter Tryz.func20, Tryz.ntmps20
    go_wp2_with fail
    go_ret
    exact ⟨ret_bool (beq0 n), Turn.refl _ _⟩

theorem all_take_false {l : List St} {p : St → Bool} {k : Nat} {s : St} (hs : l[k]? = some s) (h : p s = false) : l.all p = false := by
  rw [List.all_eq_false]
  exact ⟨s, List.mem_of_getElem? hs, by simp [h]⟩

set_option maxHeartbeats 8000000 in
set_option maxRecDepth 100000 in
theorem small_succ (q : Nat) (hq : q ≤ 5) (ih : SmSaid q) : SmSaid (q + 1) := by
  intro l A c B deep w hd hr ho
  have hd1 : deep = (q : Int) := by omega
  subst hd1
  rw [smL_succ]
  have HR := Lib.hid hr
  have HO := Lib.hid ho
  have HI := Lib.hid ih
  obtain ⟨n, hn⟩ : ∃ n, l.length = n := ⟨_, rfl⟩
  have HN := Lib.hid hn
  rw [hn]
  clear hr ho hd hn ih
  have hq0 : ¬ (q : Int) < 0 := by omega
  by_cases h8 : 8 < n
  · have h8I : (8 : Int) < (n : Int) := by omega
    go_enter Tryz.func20, Tryz.ntmps20
    go_wp2_with fail
    go_ret
    exact ⟨ret_bool (by
      have h1 : decide (n ≤ 8) = false := by simp; omega
      have h2 : ¬ n = 0 := by omega
      simp [h1, h2]), Turn.refl _ _⟩
  · have h8I : ¬ (8 : Int) < (n : Int) := by omega
    have hn8 : n ≤ 8 := by omega
    have HE : Hid ((decide (n ≤ 8) && l.all (smS q)) = l.all (smS q)) := Lib.hid (by simp [hn8])
    rw [HE.out]
    obtain ⟨V, hV⟩ : ∃ V, l.all (smS q) = V := ⟨_, rfl⟩
    rw [hV]
    have HV := Lib.hid hV
    clear hV HE
    go_enter Tryz.func20, Tryz.ntmps20
    go_wp2_with fail
    go_loopw [5] (fun i wr => ∃ k : Nat, k ≤ n ∧ i = .int .i64 (k : Int) ∧ Hid (((l.take k).all (smS q)) = true ∧ Turn [] w wr)) (fun i _ => n - (intOf i).toNat)
    case atStart => exact ⟨0, Nat.zero_le _, rfl, Lib.hid ⟨by simp, Turn.refl _ _⟩⟩
    case round =>
      obtain ⟨k, hk, rfl, HW⟩ := hrel
      by_cases hlt : k < n
      · have hT1 := HW.out.2
        obtain ⟨s, hsk⟩ := at_lt (l := l) (k := k) (by rw [HN.out]; exact hlt)
        obtain ⟨g, off, cs, rfl, hgB, hgl, hcell, hRd⟩ := RdL.at (HR.out.turn hT1 (by simp) l) hsk
        have hok := HO.out.at hsk
        rw [Nat.zero_add] at hcell
        have HSK := Lib.hid hsk
        have HT1 := Lib.hid hT1
        obtain ⟨d, x, y, z, t, f, ag, nn, bd, ot, lin, cl⟩ := s
        obtain ⟨A1, c1, A2, c2, A3, c3, rfl, k1, k2, k3, r1, r1B, r2, r3⟩ := hRd.cells
        obtain ⟨_, _, _, ⟨fx, fy, fz, ft, ff⟩, fa, hob, hoo⟩ := hok.parts
        simp only [Fit] at fx fy fz ft ff
        have e0 : wr.cell? ⟨g, off + k * 12, none⟩ = some (.int .i64 d) := hcell 0 _ rfl
        have e1 := hcell 1 _ rfl
        have e2 := hcell 2 _ rfl
        have e3 := hcell 3 _ rfl
        have e4 := hcell 4 _ rfl
        have e5 := hcell 5 _ rfl
        have e6 := hcell 6 _ rfl
        have e7 := hcell 7 _ rfl
        have e8 := hcell 8 _ rfl
        have e9 := hcell 9 _ rfl
        have e10 := hcell 10 _ rfl
        have e11 := hcell 11 _ rfl
        have tA := bx wr #[.int .i64 d, .string x, .string y, .string z, .string t, .string f, .slice A1 ag.length c1, .int .i64 nn, .slice A2 bd.length c2, .slice A3 ot.length c3, .int .i64 lin, .int .i64 cl] 38
        have HTA := Lib.hid tA
        have HS1 : Hid (Sts wr A1 ag) := Lib.hid r1
        have HB1 := Lib.hid (r2.turn tA (by simp) bd)
        have HB2 := Lib.hid (r3.turn tA (by simp) ot)
        have HFA := Lib.hid fa
        have HOB := Lib.hid (And.intro hob hoo)
        have HBad : Hid (smS q (.mk d x y z t f ag nn bd ot lin cl) = false → V = false) := Lib.hid (fun h => by rw [← HV.out]; exact all_take_false HSK.out h)
        have hsq : ∀ b, smS q (.mk d x y z t f ag nn bd ot lin cl) = b → (decide (x.size + y.size + z.size + t.size + f.size ≤ 100) && decide (ag.length ≤ 8) && decide ((cat ag).size ≤ 100) && smL q bd && smL q ot) = b := fun b h => h
        have HSQ := Lib.hid hsq
        clear hsk hRd hT1 hcell hok r1 r2 r3 r1B fa hob hoo tA hsq
        by_cases g1 : 100 < x.size + y.size + z.size + t.size + f.size
        · have g1I : (100 : Int) < (x.size : Int) + (y.size : Int) + (z.size : Int) + (t.size : Int) + (f.size : Int) := by omega
          have HG : Hid (V = false) := Lib.hid (HBad.out (by
            have : decide (x.size + y.size + z.size + t.size + f.size ≤ 100) = false := by simp; omega
            show (decide (x.size + y.size + z.size + t.size + f.size ≤ 100) && decide (ag.length ≤ 8) && decide ((cat ag).size ≤ 100) && smL q bd && smL q ot) = false
            rw [this]; rfl))
          go_wp2_with fail
          go_ret
          exact ⟨ret_bool HG.out.symm, HT1.out.trans' HTA.out⟩
        · have g1I : ¬ (100 : Int) < (x.size : Int) + (y.size : Int) + (z.size : Int) + (t.size : Int) + (f.size : Int) := by omega
          by_cases g2 : 8 < ag.length
          · have g2I : (8 : Int) < (ag.length : Int) := by omega
            have HG : Hid (V = false) := Lib.hid (HBad.out (by
              have h2 : decide (ag.length ≤ 8) = false := by simp; omega
              show (decide (x.size + y.size + z.size + t.size + f.size ≤ 100) && decide (ag.length ≤ 8) && decide ((cat ag).size ≤ 100) && smL q bd && smL q ot) = false
              rw [h2, Bool.and_false]; rfl))
            go_wp2_with fail
            go_ret
            exact ⟨ret_bool HG.out.symm, HT1.out.trans' HTA.out⟩
          · have g2I : ¬ (8 : Int) < (ag.length : Int) := by omega
            have hag : (cat ag).size ≤ 2305843009213693952 := by
              rw [size_cat]
              have key : ∀ (l : List ByteArray), (∀ a ∈ l, Fit a) → (l.map (·.size)).sum ≤ l.length * 281474976710656 := by
                intro l
                induction l with
                | nil => intro _; simp
                | cons a l ihl =>
                  intro h
                  have h1 := h a (by simp)
                  have h2 := ihl fun b hb => h b (by simp [hb])
                  simp only [Fit] at h1
                  rw [List.map_cons, List.sum_cons, List.length_cons, Nat.add_mul]
                  omega
              have := key ag HFA.out
              have h3 : ag.length * 281474976710656 ≤ 8 * 281474976710656 := Nat.mul_le_mul_right _ (by omega)
              omega
            have HJ := Lib.hid (rjoin_any A1 c1 ag ⟨#[]⟩ _ (HS1.out.turn' HTA.out) (by omega) (by rw [jn_none]; exact hag))
            rw [jn_none] at HJ
            obtain ⟨CA, hCA⟩ : ∃ C, cat ag = C := ⟨_, rfl⟩
            rw [hCA] at HJ hag
            have HCA := Lib.hid hCA
            have hagl : ag.length ≤ 8 := by omega
            clear hCA
            go_wp2_with fail
            refine HJ.out.mono ?_
            rintro e w2 ⟨rfl, rfl⟩
            by_cases g3 : 100 < CA.size
            · have g3I : (100 : Int) < (CA.size : Int) := by omega
              have HG : Hid (V = false) := Lib.hid (HBad.out (by
                have h2 : decide ((cat ag).size ≤ 100) = false := by rw [HCA.out]; simp; omega
                show (decide (x.size + y.size + z.size + t.size + f.size ≤ 100) && decide (ag.length ≤ 8) && decide ((cat ag).size ≤ 100) && smL q bd && smL q ot) = false
                rw [h2, Bool.and_false]; rfl))
              go_wp2_with fail
              go_ret
              exact ⟨ret_bool HG.out.symm, HT1.out.trans' HTA.out⟩
            · have g3I : ¬ (100 : Int) < (CA.size : Int) := by omega
              have HC1 := Lib.hid (HI.out bd A2 c2 B ((q : Int) - 1) _ rfl HB1.out HOB.out.1)
              go_wp2_with fail
              refine HC1.out.mono ?_
              rintro e w3 ⟨rfl, t3⟩
              have HT3 := Lib.hid (HTA.out.trans' t3)
              have HT3c := Lib.hid t3
              have HC2 := Lib.hid (HI.out ot A3 c3 B ((q : Int) - 1) _ rfl (HB2.out.turn t3 (by simp) ot) HOB.out.2)
              clear t3
              cases hb1 : smL q bd with
              | false =>
                have HG : Hid (V = false) := Lib.hid (HBad.out (by
                  show (decide (x.size + y.size + z.size + t.size + f.size ≤ 100) && decide (ag.length ≤ 8) && decide ((cat ag).size ≤ 100) && smL q bd && smL q ot) = false
                  rw [hb1, Bool.and_false]; rfl))
                go_wp2_with fail
                go_ret
                exact ⟨ret_bool HG.out.symm, HT1.out.trans' HT3.out⟩
              | true =>
                have HB1 := Lib.hid hb1
                have m9 : w3.cell? ⟨wr.heap.size, 9, none⟩ = some (.slice A3 ot.length c3) := (HT3c.out.cell (p := ⟨wr.heap.size, 9, none⟩) (by simp) (by simp)).trans (cell_of_row _ wr.heap.size 9 _ _ _ (heap_alloc_new wr _))
                clear hb1
                go_wp2_with fail
                refine HC2.out.mono ?_
                rintro e w4 ⟨rfl, t4⟩
                have HT4 := Lib.hid (HT3.out.trans' t4)
                clear t4
                cases hb2 : smL q ot with
                | false =>
                  have HG : Hid (V = false) := Lib.hid (HBad.out (by
                    show (decide (x.size + y.size + z.size + t.size + f.size ≤ 100) && decide (ag.length ≤ 8) && decide ((cat ag).size ≤ 100) && smL q bd && smL q ot) = false
                    rw [hb2, Bool.and_false]))
                  go_wp2_with fail
                  go_ret
                  exact ⟨ret_bool HG.out.symm, HT1.out.trans' HT4.out⟩
                | true =>
                  have HGood : Hid (smS q (.mk d x y z t f ag nn bd ot lin cl) = true) := Lib.hid (by
                    have p1 : decide (x.size + y.size + z.size + t.size + f.size ≤ 100) = true := by simp; omega
                    have p2 : decide (ag.length ≤ 8) = true := by simp; omega
                    have p3 : decide ((cat ag).size ≤ 100) = true := by rw [HCA.out]; simp; omega
                    show (decide (x.size + y.size + z.size + t.size + f.size ≤ 100) && decide (ag.length ≤ 8) && decide ((cat ag).size ≤ 100) && smL q bd && smL q ot) = true
                    rw [p1, p2, p3, HB1.out, hb2]; rfl)
                  clear hb2
                  go_wp2_with fail
                  go_roundw
                  case rel => exact ⟨k + 1, by omega, by go_num, Lib.hid ⟨by rw [take_snoc HSK.out, List.all_append, HW.out.1]; simp [HGood.out], HT1.out.trans' HT4.out⟩⟩
                  case measure => simp [intOf]; omega
      · have hkn : k = n := by omega
        subst hkn
        have HG : Hid (V = true) := Lib.hid (by
          have := HW.out.1
          rw [List.take_of_length_le (by rw [HN.out]; exact Nat.le_refl _)] at this
          rw [← HV.out]; exact this)
        go_wp2_with fail
        go_ret
        exact ⟨ret_bool HG.out.symm, HW.out.2⟩
theorem small_any : ∀ (k : Nat), k ≤ 5 → SmSaid k
  | 0, _ => small_zero
  | k + 1, h => small_succ k (by omega) (small_any k (by omega))
end Go.Proofs.YtoekaehpcjhhaaaGreatDoor

/- The law's method, small. -/
set_option linter.unusedSimpArgs false
set_option linter.unusedVariables false
namespace Go.Proofs.YtoekaehpcjhhaaaGreatDoor
open Go.RowKit

/-- Are a method, a class, a program not too great? -/
def smM (m : Mt) : Bool := decide (m.ps.length ≤ 6) && (decide (m.ls.length ≤ 6) && (decide (m.ret.size + m.name.size ≤ 60) && smL 5 m.bd))
def smI : Option Mt → Bool
  | none => true
  | some m => smM m
def smC (c : Cl) : Bool := decide (c.faces.length ≤ 4) && (decide (c.fs.length ≤ 6) && (decide (c.ss.length ≤ 6) && (decide (c.ms.length ≤ 5) && (smI c.init && c.ms.all smM))))
def smP (p : Pr) : Bool := decide (p.cs.length ≤ 6) && (smM p.main && p.cs.all smC)
/-- Texts are such as there can be here. -/
def OkM (m : Mt) : Prop := m.ret.size ≤ 1048576 ∧ m.name.size ≤ 1048576 ∧ OkL m.bd

set_option maxHeartbeats 8000000 in
set_option maxRecDepth 100000 in
theorem lmethod_any (B : Nat) (cs : List Value) (m : Mt) (w : World) (hr : RdM B w cs m) (ho : OkM m) :
    Calls Tryz.prog 10 #[.agg cs.toArray] w fun e w' => e = .returned (.bool (smM m)) ∧ Turn [] w w' := by
  obtain ⟨A1, c1, A2, c2, A3, c3, p, q, rfl, _, _, r3⟩ := hr
  have tA := bx w #[.string m.ret, .string m.name, .bool m.stat, .bool m.bare, .slice A1 m.ps.length c1, .slice A2 m.ls.length c2, .slice A3 m.bd.length c3, .int .i64 p, .int .i64 q] 28
  obtain ⟨W, hW⟩ : ∃ W, w.alloc (.cells #[.string m.ret, .string m.name, .bool m.stat, .bool m.bare, .slice A1 m.ps.length c1, .slice A2 m.ls.length c2, .slice A3 m.bd.length c3, .int .i64 p, .int .i64 q] 28) = W := ⟨_, rfl⟩
  rw [hW] at tA
  have HS := Lib.hid (small_any 5 (by omega) m.bd A3 c3 B 4 W (by decide) (r3.turn tA (by simp) _) ho.2.2)
  have h1 := ho.1
  have h2 := ho.2.1
  have HSM : Hid (smM m = (decide (m.ps.length ≤ 6) && (decide (m.ls.length ≤ 6) && (decide (m.ret.size + m.name.size ≤ 60) && smL 5 m.bd)))) := Lib.hid rfl
  obtain ⟨V, hV⟩ : ∃ V, smL 5 m.bd = V := ⟨_, rfl⟩
  rw [hV] at HS HSM
  obtain ⟨mr, hmr⟩ : ∃ q, m.ret = q := ⟨_, rfl⟩
  obtain ⟨mn, hmn⟩ : ∃ q, m.name = q := ⟨_, rfl⟩
  obtain ⟨np, hnp⟩ : ∃ q, m.ps.length = q := ⟨_, rfl⟩
  obtain ⟨nl, hnl⟩ : ∃ q, m.ls.length = q := ⟨_, rfl⟩
  obtain ⟨nb, hnb⟩ : ∃ q, m.bd.length = q := ⟨_, rfl⟩
  rw [hmr, hmn, hnp, hnl, hnb] at hW ⊢
  rw [hmr, hmn, hnp, hnl] at HSM
  rw [hmr] at h1
  rw [hmn] at h2
  rw [hnb] at HS
  obtain ⟨R, hR⟩ : ∃ R, smM m = R := ⟨_, rfl⟩
  rw [hR] at HSM ⊢
  have HW := Lib.hid hW
  have HT := Lib.hid tA
  clear tA hW hV hmr hmn hnp hnl hnb hR r3 ho
  by_cases g1 : np ≤ 6
  · have g1I : (np : Int) ≤ 6 := by omega
    by_cases g2 : nl ≤ 6
    · have g2I : (nl : Int) ≤ 6 := by omega
      by_cases g3 : mr.size + mn.size ≤ 60
      · have g3I : (mr.size : Int) + (mn.size : Int) ≤ 60 := by omega
        have HF : Hid (R = V) := Lib.hid (by rw [HSM.out]; simp [g1, g2, g3])
        go_enter Tryz.func10, Tryz.ntmps10
        go_wp2_with fail
        rw [HW.out]
        refine HS.out.mono ?_
        rintro e w1 ⟨rfl, t1⟩
        have HT1 := Lib.hid t1
        clear t1
        go_wp2_with fail
        go_ret
        exact ⟨ret_bool HF.out.symm, HT.out.trans' HT1.out⟩
      · have g3I : ¬ (mr.size : Int) + (mn.size : Int) ≤ 60 := by omega
        have HF : Hid (R = false) := Lib.hid (by rw [HSM.out]; simp [g3])
        go_enter Tryz.func10, Tryz.ntmps10
        go_wp2_with fail
        go_ret
        rw [HW.out]
        exact ⟨ret_bool HF.out.symm, HT.out⟩
    · have g2I : ¬ (nl : Int) ≤ 6 := by omega
      have HF : Hid (R = false) := Lib.hid (by rw [HSM.out]; simp [g2])
      go_enter Tryz.func10, Tryz.ntmps10
      go_wp2_with fail
      go_ret
      rw [HW.out]
      exact ⟨ret_bool HF.out.symm, HT.out⟩
  · have g1I : ¬ (np : Int) ≤ 6 := by omega
    have HF : Hid (R = false) := Lib.hid (by rw [HSM.out]; simp [g1])
    go_enter Tryz.func10, Tryz.ntmps10
    go_wp2_with fail
    go_ret
    rw [HW.out]
    exact ⟨ret_bool HF.out.symm, HT.out⟩
end Go.Proofs.YtoekaehpcjhhaaaGreatDoor

/- The law's small. -/
set_option linter.unusedSimpArgs false
set_option linter.unusedVariables false
namespace Go.Proofs.YtoekaehpcjhhaaaGreatDoor
open Go.RowKit

def OkC (c : Cl) : Prop := (∀ m ∈ c.ms, OkM m) ∧ ∀ m, c.init = some m → OkM m
def OkP (p : Pr) : Prop := OkM p.main ∧ ∀ c ∈ p.cs, OkC c
theorem sm_bad {l : List Cl} {k : Nat} {c : Cl} (hs : l[k]? = some c) (h : smC c = false) : l.all smC = false := by
  rw [List.all_eq_false]
  exact ⟨c, List.mem_of_getElem? hs, by simp [h]⟩

set_option maxHeartbeats 16000000 in
set_option maxRecDepth 100000 in
theorem lsmall_any (B : Nat) (cs : List Value) (p : Pr) (w : World) (hr : RdP B w cs p) (ho : OkP p) :
    Calls Tryz.prog 5 #[.agg cs.toArray] w fun e w' => e = .returned (.bool (smP p)) ∧ Turn [] w w' := by
  obtain ⟨A0, c0, mc, rfl, hcs, hmn⟩ := hr
  have hmn0 := hmn
  obtain ⟨A1, c1, A2, c2, A3, c3, x, y, rfl, _, _, _⟩ := hmn
  have tA := bx w #[.slice A0 p.cs.length c0, .string p.main.ret, .string p.main.name, .bool p.main.stat, .bool p.main.bare, .slice A1 p.main.ps.length c1, .slice A2 p.main.ls.length c2, .slice A3 p.main.bd.length c3, .int .i64 x, .int .i64 y] 30
  obtain ⟨W, hW⟩ : ∃ W, w.alloc (.cells #[.slice A0 p.cs.length c0, .string p.main.ret, .string p.main.name, .bool p.main.stat, .bool p.main.bare, .slice A1 p.main.ps.length c1, .slice A2 p.main.ls.length c2, .slice A3 p.main.bd.length c3, .int .i64 x, .int .i64 y] 30) = W := ⟨_, rfl⟩
  have hg : W.heap[w.heap.size]? = some (.cells #[.slice A0 p.cs.length c0, .string p.main.ret, .string p.main.name, .bool p.main.stat, .bool p.main.bare, .slice A1 p.main.ps.length c1, .slice A2 p.main.ls.length c2, .slice A3 p.main.bd.length c3, .int .i64 x, .int .i64 y] 30 (0, 0)) := by rw [← hW]; exact heap_alloc_new w _
  rw [hW] at tA
  have HRC := Lib.hid (fun w' (ht : Turn [] W w') => (hcs.turn tA (by simp)).turn ht (by simp))
  have HMa := Lib.hid (lmethod_any B _ p.main W (hmn0.turn tA (by simp)) ho.1)
  have HOK := Lib.hid ho.2
  obtain ⟨nc, hnc⟩ : ∃ q, p.cs.length = q := ⟨_, rfl⟩
  have HNC := Lib.hid hnc
  have HSP : Hid (smP p = (decide (nc ≤ 6) && (smM p.main && p.cs.all smC))) := Lib.hid (by unfold smP; rw [hnc])
  rw [hnc] at hg hW ⊢
  obtain ⟨R, hR⟩ : ∃ R, smP p = R := ⟨_, rfl⟩
  rw [hR] at HSP ⊢
  have HC0 := Lib.hid (fun (w' : World) (ht : Turn [] W w') => (show w'.cell? ⟨w.heap.size, 0, none⟩ = some (.slice A0 nc c0) from cell_of_row w' _ 0 _ _ _ (ht.heap hg (by simp))))
  have HT := Lib.hid tA
  have HWW := Lib.hid hW
  clear hcs hmn0 tA hW hg hnc hR ho
  by_cases g6 : 6 < nc
  · have g6I : (6 : Int) < (nc : Int) := by omega
    have HF : Hid (R = false) := Lib.hid (by
      have : ¬ nc ≤ 6 := by omega
      rw [HSP.out]; simp [this])
    go_enter Tryz.func5, Tryz.ntmps5
    go_wp2_with fail
    go_ret
    rw [HWW.out]
    exact ⟨ret_bool HF.out.symm, HT.out⟩
  · have g6I : ¬ (6 : Int) < (nc : Int) := by omega
    go_enter Tryz.func5, Tryz.ntmps5
    go_wp2_with fail
    rw [HWW.out]
    refine HMa.out.mono ?_
    rintro e w1 ⟨rfl, t1⟩
    have HT1 := Lib.hid t1
    clear t1
    cases hmm : smM p.main with
    | false =>
      have HF : Hid (R = false) := Lib.hid (by rw [HSP.out, hmm]; simp)
      go_wp2_with fail
      go_ret
      exact ⟨ret_bool HF.out.symm, HT.out.trans' HT1.out⟩
    | true =>
      obtain ⟨V, hV⟩ : ∃ V, p.cs.all smC = V := ⟨_, rfl⟩
      have HF : Hid (R = V) := Lib.hid (by
        have : nc ≤ 6 := by omega
        rw [HSP.out, hmm, hV]; simp [this])
      have HV := Lib.hid hV
      have z0 := HC0.out w1 HT1.out
      clear hmm hV
      go_wp2_with fail
      go_loopw [3] (fun i wr => ∃ k : Nat, k ≤ nc ∧ i = .int .i64 (k : Int) ∧ Hid ((p.cs.take k).all smC = true ∧ Turn [] W wr)) (fun i _ => nc - (intOf i).toNat)
      case atStart => exact ⟨0, Nat.zero_le _, rfl, Lib.hid ⟨by simp, HT1.out⟩⟩
      case round =>
        obtain ⟨k, hk, rfl, HW⟩ := hrel
        have z1 := HC0.out wr HW.out.2
        by_cases hlt : k < nc
        · obtain ⟨c, hsk⟩ := at_lt (l := p.cs) (k := k) (by rw [HNC.out]; exact hlt)
          obtain ⟨g, off, cs, hA0, ⟨_, hgB, hgl, hcell⟩, hRd⟩ := HRC.out wr HW.out.2 k c hsk
          subst hA0
          simp only at hcell hgl
          have HOC := Lib.hid (HOK.out c (List.mem_of_getElem? hsk))
          have HSK := Lib.hid hsk
          obtain ⟨B3, b3, B4, b4, B5, b5, B6, b6, I, p1, q1, rfl, _, _, _, _, _, r6, r7⟩ := hRd
          have e0 : wr.cell? ⟨g, off + k * 10, none⟩ = some (.string c.name) := hcell 0 _ rfl
          have e1 := hcell 1 _ rfl
          have e2 := hcell 2 _ rfl
          have e3 := hcell 3 _ rfl
          have e4 := hcell 4 _ rfl
          have e5 := hcell 5 _ rfl
          have e6 := hcell 6 _ rfl
          have e7 := hcell 7 _ rfl
          have e8 := hcell 8 _ rfl
          have e9 := hcell 9 _ rfl
          have tC := bx wr #[.string c.name, .string c.super, .bool c.face, .slice B3 c.faces.length b3, .slice B4 c.fs.length b4, .slice B5 c.ss.length b5, .slice B6 c.ms.length b6, .pointer I, .int .i64 p1, .int .i64 q1] 43
          obtain ⟨WC, hWC⟩ : ∃ WC, wr.alloc (.cells #[.string c.name, .string c.super, .bool c.face, .slice B3 c.faces.length b3, .slice B4 c.fs.length b4, .slice B5 c.ss.length b5, .slice B6 c.ms.length b6, .pointer I, .int .i64 p1, .int .i64 q1] 43) = WC := ⟨_, rfl⟩
          have hgC : WC.heap[wr.heap.size]? = some (.cells #[.string c.name, .string c.super, .bool c.face, .slice B3 c.faces.length b3, .slice B4 c.fs.length b4, .slice B5 c.ss.length b5, .slice B6 c.ms.length b6, .pointer I, .int .i64 p1, .int .i64 q1] 43 (0, 0)) := by rw [← hWC]; exact heap_alloc_new wr _
          rw [hWC] at tC
          have HR6 := Lib.hid (fun w' (ht : Turn [] WC w') => (r6.turn tC (by simp)).turn ht (by simp))
          have hI := r7.turn tC (by simp)
          obtain ⟨nf, hnf⟩ : ∃ q, c.faces.length = q := ⟨_, rfl⟩
          obtain ⟨n4, hn4⟩ : ∃ q, c.fs.length = q := ⟨_, rfl⟩
          obtain ⟨n5, hn5⟩ : ∃ q, c.ss.length = q := ⟨_, rfl⟩
          obtain ⟨n6, hn6⟩ : ∃ q, c.ms.length = q := ⟨_, rfl⟩
          have HN6 := Lib.hid hn6
          have HBad : Hid ((decide (c.faces.length ≤ 4) && (decide (c.fs.length ≤ 6) && (decide (c.ss.length ≤ 6) && (decide (c.ms.length ≤ 5) && (smI c.init && c.ms.all smM))))) = false → V = false) := Lib.hid (fun h => by rw [← HV.out]; exact sm_bad HSK.out h)
          have HCe := Lib.hid (fun (w' : World) (ht : Turn [] WC w') (i : Nat) (v : Value) (hv : (#[.string c.name, .string c.super, .bool c.face, .slice B3 c.faces.length b3, .slice B4 c.fs.length b4, .slice B5 c.ss.length b5, .slice B6 c.ms.length b6, .pointer I, .int .i64 p1, .int .i64 q1] : Array Value)[i]? = some v) => (show w'.cell? ⟨wr.heap.size, i, none⟩ = some v from (cell_of_row w' _ i _ _ _ (ht.heap hgC (by simp))).trans hv))
          rw [hnf] at e3 HCe hWC HBad
          rw [hn4] at e4 HCe hWC HBad
          rw [hn5] at e5 HCe hWC HBad
          rw [hn6] at e6 HCe hWC HBad
          have HTC := Lib.hid tC
          have HCC := Lib.hid hWC
          have HCf := Lib.hid (And.intro hnf (And.intro hn4 (And.intro hn5 hn6)))
          clear hsk hcell r6 r7 tC hWC hgC hnf hn4 hn5 hn6
          by_cases g1 : 4 < nf
          · have g1I : (4 : Int) < (nf : Int) := by omega
            have HG : Hid (V = false) := Lib.hid (HBad.out (by have : ¬ nf ≤ 4 := by omega
                                                               simp [this]))
            go_wp2_with fail
            go_ret
            rw [HCC.out]
            exact ⟨ret_bool (HF.out.trans HG.out).symm, (HT.out.trans' HW.out.2).trans' HTC.out⟩
          have g1I : ¬ (4 : Int) < (nf : Int) := by omega
          by_cases g2 : 6 < n4
          · have g2I : (6 : Int) < (n4 : Int) := by omega
            have HG : Hid (V = false) := Lib.hid (HBad.out (by have : ¬ n4 ≤ 6 := by omega
                                                               simp [this]))
            go_wp2_with fail
            go_ret
            rw [HCC.out]
            exact ⟨ret_bool (HF.out.trans HG.out).symm, (HT.out.trans' HW.out.2).trans' HTC.out⟩
          have g2I : ¬ (6 : Int) < (n4 : Int) := by omega
          by_cases g3 : 6 < n5
          · have g3I : (6 : Int) < (n5 : Int) := by omega
            have HG : Hid (V = false) := Lib.hid (HBad.out (by have : ¬ n5 ≤ 6 := by omega
                                                               simp [this]))
            go_wp2_with fail
            go_ret
            rw [HCC.out]
            exact ⟨ret_bool (HF.out.trans HG.out).symm, (HT.out.trans' HW.out.2).trans' HTC.out⟩
          have g3I : ¬ (6 : Int) < (n5 : Int) := by omega
          by_cases g4 : 5 < n6
          · have g4I : (5 : Int) < (n6 : Int) := by omega
            have HG : Hid (V = false) := Lib.hid (HBad.out (by have : ¬ n6 ≤ 5 := by omega
                                                               simp [this]))
            go_wp2_with fail
            go_ret
            rw [HCC.out]
            exact ⟨ret_bool (HF.out.trans HG.out).symm, (HT.out.trans' HW.out.2).trans' HTC.out⟩
          have g4I : ¬ (5 : Int) < (n6 : Int) := by omega
          have HNum : Hid (nf ≤ 4 ∧ n4 ≤ 6 ∧ n5 ≤ 6 ∧ n6 ≤ 5) := Lib.hid ⟨by omega, by omega, by omega, by omega⟩
          cases hin : c.init with
          | none =>
            rw [hin] at hI
            have hI' : I = none := hI
            subst hI'
            have HOther : Hid (c.faces.length ≤ 4 ∧ c.fs.length ≤ 6 ∧ c.ss.length ≤ 6 ∧ c.ms.length ≤ 5 ∧ smI c.init = true) := Lib.hid ⟨by rw [HCf.out.1]; exact HNum.out.1, by rw [HCf.out.2.1]; exact HNum.out.2.1, by rw [HCf.out.2.2.1]; exact HNum.out.2.2.1, by rw [HCf.out.2.2.2]; exact HNum.out.2.2.2, by rw [hin]; rfl⟩
            clear hin hI
            go_wp2_with fail
            obtain ⟨wb, hwb⟩ : ∃ q, q = wr := ⟨_, rfl⟩
            subst hwb
            rw [HCC.out]
            go_loopw [5] (fun i wi => ∃ j : Nat, j ≤ n6 ∧ i = .int .i64 (j : Int) ∧ Hid ((c.ms.take j).all smM = true ∧ Turn [] WC wi)) (fun i _ => n6 - (intOf i).toNat)
            case atStart => exact ⟨0, Nat.zero_le _, rfl, Lib.hid ⟨by simp, Turn.refl _ _⟩⟩
            case round =>
              obtain ⟨j, hj, rfl, HJ⟩ := hrel
              have z6 := HCe.out wr HJ.out.2 6 _ rfl
              by_cases hjl : j < n6
              · obtain ⟨m, hm⟩ := at_lt (l := c.ms) (k := j) (by rw [HN6.out]; exact hjl)
                obtain ⟨g', off', cs', hB6, ⟨_, hgB', hgl', hcell'⟩, hRd'⟩ := HR6.out wr HJ.out.2 j m hm
                subst hB6
                simp only at hcell' hgl'
                have HC := Lib.hid (lmethod_any B cs' m wr hRd' (HOC.out.1 m (List.mem_of_getElem? hm)))
                have HMM := Lib.hid hm
                obtain ⟨D1, d1, D2, d2, D3, d3, p2, q2, rfl, _, _, _⟩ := hRd'
                have f0 : wr.cell? ⟨g', off' + j * 9, none⟩ = some (.string m.ret) := hcell' 0 _ rfl
                have f1 := hcell' 1 _ rfl
                have f2 := hcell' 2 _ rfl
                have f3 := hcell' 3 _ rfl
                have f4 := hcell' 4 _ rfl
                have f5 := hcell' 5 _ rfl
                have f6 := hcell' 6 _ rfl
                have f7 := hcell' 7 _ rfl
                have f8 := hcell' 8 _ rfl
                clear hcell' hm
                go_wp2_with fail
                refine HC.out.mono ?_
                rintro e w5 ⟨rfl, t5⟩
                have HT5 := Lib.hid (HJ.out.2.trans' t5)
                clear t5 HC f0 f1 f2 f3 f4 f5 f6 f7 f8
                cases hmb : smM m with
                | false =>
                  have HG : Hid (V = false) := Lib.hid (HBad.out (by
                    have : c.ms.all smM = false := by rw [List.all_eq_false]; exact ⟨m, List.mem_of_getElem? HMM.out, by simp [hmb]⟩
                    simp [this]))
                  go_wp2_with fail
                  go_ret
                  exact ⟨ret_bool (HF.out.trans HG.out).symm, ((HT.out.trans' HW.out.2).trans' HTC.out).trans' HT5.out⟩
                | true =>
                  have HMB := Lib.hid hmb
                  clear hmb
                  go_wp2_with fail
                  go_roundw
                  case rel => exact ⟨j + 1, by omega, by go_num, Lib.hid ⟨by rw [take_snoc HMM.out, List.all_append, HJ.out.1]; simp [HMB.out], HT5.out⟩⟩
                  case measure => simp [intOf]; omega
              · have hjn : j = n6 := by omega
                subst hjn
                have HGood : Hid (smC c = true) := Lib.hid (by
                  have h1 := HJ.out.1
                  rw [List.take_of_length_le (l := c.ms) (by rw [HN6.out]; exact Nat.le_refl _)] at h1
                  have := HOther.out
                  unfold smC
                  rw [h1]
                  simpa using this)
                go_wp2_with fail
                go_roundw
                case rel => exact ⟨k + 1, by omega, by go_num, Lib.hid ⟨by rw [take_snoc HSK.out, List.all_append, HW.out.1]; simp [HGood.out], (HW.out.2.trans' HTC.out).trans' HJ.out.2⟩⟩
                case measure => simp [intOf]; omega
          | some m0 =>
            rw [hin] at hI
            obtain ⟨bI, oI, cs0, hIe, ⟨_, hbB, hbl, hcI⟩, hRd0⟩ := hI
            subst hIe
            simp only at hcI hbl
            have HC := Lib.hid (lmethod_any B cs0 m0 WC hRd0 (HOC.out.2 m0 hin))
            have HIN := Lib.hid hin
            obtain ⟨D1, d1, D2, d2, D3, d3, p2, q2, rfl, _, _, _⟩ := hRd0
            have f0 : WC.cell? ⟨bI, oI, none⟩ = some (.string m0.ret) := hcI 0 _ rfl
            have f1 := hcI 1 _ rfl
            have f2 := hcI 2 _ rfl
            have f3 := hcI 3 _ rfl
            have f4 := hcI 4 _ rfl
            have f5 := hcI 5 _ rfl
            have f6 := hcI 6 _ rfl
            have f7 := hcI 7 _ rfl
            have f8 := hcI 8 _ rfl
            have y3 := HCe.out WC (Turn.refl _ _) 3 _ rfl
            have y4 := HCe.out WC (Turn.refl _ _) 4 _ rfl
            have y5 := HCe.out WC (Turn.refl _ _) 5 _ rfl
            have y6 := HCe.out WC (Turn.refl _ _) 6 _ rfl
            have y7 := HCe.out WC (Turn.refl _ _) 7 _ rfl
            clear hcI hin
            go_upto_region 7 with fail
            rw [HCC.out]
            go_wp2_with fail
            refine HC.out.mono ?_
            rintro e w4 ⟨rfl, t4⟩
            have HT4 := Lib.hid t4
            clear t4 HC f0 f1 f2 f3 f4 f5 f6 f7 f8
            cases hmb : smM m0 with
            | false =>
              have HG : Hid (V = false) := Lib.hid (HBad.out (by rw [HIN.out]; simp [smI, hmb]))
              go_wp2_with fail
              go_ret
              exact ⟨ret_bool (HF.out.trans HG.out).symm, ((HT.out.trans' HW.out.2).trans' HTC.out).trans' HT4.out⟩
            | true =>
              have HOther : Hid (c.faces.length ≤ 4 ∧ c.fs.length ≤ 6 ∧ c.ss.length ≤ 6 ∧ c.ms.length ≤ 5 ∧ smI c.init = true) := Lib.hid ⟨by rw [HCf.out.1]; exact HNum.out.1, by rw [HCf.out.2.1]; exact HNum.out.2.1, by rw [HCf.out.2.2.1]; exact HNum.out.2.2.1, by rw [HCf.out.2.2.2]; exact HNum.out.2.2.2, by rw [HIN.out]; exact hmb⟩
              clear hmb
              go_wp2_with fail
              obtain ⟨wb, hwb⟩ : ∃ q, q = wr := ⟨_, rfl⟩
              subst hwb
              skip
              go_loopw [5] (fun i wi => ∃ j : Nat, j ≤ n6 ∧ i = .int .i64 (j : Int) ∧ Hid ((c.ms.take j).all smM = true ∧ Turn [] WC wi)) (fun i _ => n6 - (intOf i).toNat)
              case atStart => exact ⟨0, Nat.zero_le _, rfl, Lib.hid ⟨by simp, HT4.out⟩⟩
              case round =>
                obtain ⟨j, hj, rfl, HJ⟩ := hrel
                have z6 := HCe.out wr HJ.out.2 6 _ rfl
                by_cases hjl : j < n6
                · obtain ⟨m, hm⟩ := at_lt (l := c.ms) (k := j) (by rw [HN6.out]; exact hjl)
                  obtain ⟨g', off', cs', hB6, ⟨_, hgB', hgl', hcell'⟩, hRd'⟩ := HR6.out wr HJ.out.2 j m hm
                  subst hB6
                  simp only at hcell' hgl'
                  have HC := Lib.hid (lmethod_any B cs' m wr hRd' (HOC.out.1 m (List.mem_of_getElem? hm)))
                  have HMM := Lib.hid hm
                  obtain ⟨D1, d1, D2, d2, D3, d3, p2, q2, rfl, _, _, _⟩ := hRd'
                  have f0 : wr.cell? ⟨g', off' + j * 9, none⟩ = some (.string m.ret) := hcell' 0 _ rfl
                  have f1 := hcell' 1 _ rfl
                  have f2 := hcell' 2 _ rfl
                  have f3 := hcell' 3 _ rfl
                  have f4 := hcell' 4 _ rfl
                  have f5 := hcell' 5 _ rfl
                  have f6 := hcell' 6 _ rfl
                  have f7 := hcell' 7 _ rfl
                  have f8 := hcell' 8 _ rfl
                  clear hcell' hm
                  go_wp2_with fail
                  refine HC.out.mono ?_
                  rintro e w5 ⟨rfl, t5⟩
                  have HT5 := Lib.hid (HJ.out.2.trans' t5)
                  clear t5 HC f0 f1 f2 f3 f4 f5 f6 f7 f8
                  cases hmb : smM m with
                  | false =>
                    have HG : Hid (V = false) := Lib.hid (HBad.out (by
                      have : c.ms.all smM = false := by rw [List.all_eq_false]; exact ⟨m, List.mem_of_getElem? HMM.out, by simp [hmb]⟩
                      simp [this]))
                    go_wp2_with fail
                    go_ret
                    exact ⟨ret_bool (HF.out.trans HG.out).symm, ((HT.out.trans' HW.out.2).trans' HTC.out).trans' HT5.out⟩
                  | true =>
                    have HMB := Lib.hid hmb
                    clear hmb
                    go_wp2_with fail
                    go_roundw
                    case rel => exact ⟨j + 1, by omega, by go_num, Lib.hid ⟨by rw [take_snoc HMM.out, List.all_append, HJ.out.1]; simp [HMB.out], HT5.out⟩⟩
                    case measure => simp [intOf]; omega
                · have hjn : j = n6 := by omega
                  subst hjn
                  have HGood : Hid (smC c = true) := Lib.hid (by
                    have h1 := HJ.out.1
                    rw [List.take_of_length_le (l := c.ms) (by rw [HN6.out]; exact Nat.le_refl _)] at h1
                    have := HOther.out
                    unfold smC
                    rw [h1]
                    simpa using this)
                  go_wp2_with fail
                  go_roundw
                  case rel => exact ⟨k + 1, by omega, by go_num, Lib.hid ⟨by rw [take_snoc HSK.out, List.all_append, HW.out.1]; simp [HGood.out], (HW.out.2.trans' HTC.out).trans' HJ.out.2⟩⟩
                  case measure => simp [intOf]; omega
        · have hkn : k = nc := by omega
          subst hkn
          have HG : Hid (V = true) := Lib.hid (by
            have := HW.out.1
            rw [List.take_of_length_le (l := p.cs) (by rw [HNC.out]; exact Nat.le_refl _)] at this
            rw [← HV.out]; exact this)
          go_wp2_with fail
          go_ret
          exact ⟨ret_bool (HF.out.trans HG.out).symm, HT.out.trans' HW.out.2⟩
end Go.Proofs.YtoekaehpcjhhaaaGreatDoor
