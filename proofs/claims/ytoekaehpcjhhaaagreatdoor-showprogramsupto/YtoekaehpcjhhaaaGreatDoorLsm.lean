/- The law's method, small. -/
import Derived.Test.YtoekaehpcjhhaaaGreatDoorPvr
import Derived.Test.YtoekaehpcjhhaaaGreatDoorSmc
set_option linter.unusedSimpArgs false
set_option linter.unusedVariables false
namespace Go.Proofs.YtoekaehpcjhhaaaGreatDoor
open Go.RowKit

/-- Are a method, a class, a program not too great? -/
def smM (m : Mt) : Bool := decide (m.ps.length ≤ 6) && (decide (m.ls.length ≤ 6) && (decide (m.ret.size + m.name.size ≤ 60) && smL 5 m.bd))
def smI : Option Mt → Bool
  | none => true
  | some m => smM m
def smC (c : Cl) : Bool := decide (c.faces.length ≤ 4) && (decide (c.fs.length ≤ 6) && (decide (c.ss.length ≤ 6) && (decide (c.ms.length ≤ 5) && (smI c.init && c.ms.all smM))))
def smP (p : Pr) : Bool := decide (p.cs.length ≤ 6) && (smM p.main && p.cs.all smC)
/-- Texts are such as there can be here. -/
def OkM (m : Mt) : Prop := m.ret.size ≤ 1048576 ∧ m.name.size ≤ 1048576 ∧ OkL m.bd

set_option maxHeartbeats 8000000 in
set_option maxRecDepth 100000 in
theorem lmethod_any (B : Nat) (cs : List Value) (m : Mt) (w : World) (hr : RdM B w cs m) (ho : OkM m) :
    Calls Tryz.prog 10 #[.agg cs.toArray] w fun e w' => e = .returned (.bool (smM m)) ∧ Turn [] w w' := by
  obtain ⟨A1, c1, A2, c2, A3, c3, p, q, rfl, _, _, r3⟩ := hr
  have tA := bx w #[.string m.ret, .string m.name, .bool m.stat, .bool m.bare, .slice A1 m.ps.length c1, .slice A2 m.ls.length c2, .slice A3 m.bd.length c3, .int .i64 p, .int .i64 q] 28
  obtain ⟨W, hW⟩ : ∃ W, w.alloc (.cells #[.string m.ret, .string m.name, .bool m.stat, .bool m.bare, .slice A1 m.ps.length c1, .slice A2 m.ls.length c2, .slice A3 m.bd.length c3, .int .i64 p, .int .i64 q] 28) = W := ⟨_, rfl⟩
  rw [hW] at tA
  have HS := Lib.hid (small_any 5 (by omega) m.bd A3 c3 B 4 W (by decide) (r3.turn tA (by simp) _) ho.2.2)
  have h1 := ho.1
  have h2 := ho.2.1
  have HSM : Hid (smM m = (decide (m.ps.length ≤ 6) && (decide (m.ls.length ≤ 6) && (decide (m.ret.size + m.name.size ≤ 60) && smL 5 m.bd)))) := Lib.hid rfl
  obtain ⟨V, hV⟩ : ∃ V, smL 5 m.bd = V := ⟨_, rfl⟩
  rw [hV] at HS HSM
  obtain ⟨mr, hmr⟩ : ∃ q, m.ret = q := ⟨_, rfl⟩
  obtain ⟨mn, hmn⟩ : ∃ q, m.name = q := ⟨_, rfl⟩
  obtain ⟨np, hnp⟩ : ∃ q, m.ps.length = q := ⟨_, rfl⟩
  obtain ⟨nl, hnl⟩ : ∃ q, m.ls.length = q := ⟨_, rfl⟩
  obtain ⟨nb, hnb⟩ : ∃ q, m.bd.length = q := ⟨_, rfl⟩
  rw [hmr, hmn, hnp, hnl, hnb] at hW ⊢
  rw [hmr, hmn, hnp, hnl] at HSM
  rw [hmr] at h1
  rw [hmn] at h2
  rw [hnb] at HS
  obtain ⟨R, hR⟩ : ∃ R, smM m = R := ⟨_, rfl⟩
  rw [hR] at HSM ⊢
  have HW := Lib.hid hW
  have HT := Lib.hid tA
  clear tA hW hV hmr hmn hnp hnl hnb hR r3 ho
  by_cases g1 : np ≤ 6
  · have g1I : (np : Int) ≤ 6 := by omega
    by_cases g2 : nl ≤ 6
    · have g2I : (nl : Int) ≤ 6 := by omega
      by_cases g3 : mr.size + mn.size ≤ 60
      · have g3I : (mr.size : Int) + (mn.size : Int) ≤ 60 := by omega
        have HF : Hid (R = V) := Lib.hid (by rw [HSM.out]; simp [g1, g2, g3])
        go_enter Tryz.func10, Tryz.ntmps10
        go_wp2_with fail
        rw [HW.out]
        refine HS.out.mono ?_
        rintro e w1 ⟨rfl, t1⟩
        have HT1 := Lib.hid t1
        clear t1
        go_wp2_with fail
        go_ret
        exact ⟨ret_bool HF.out.symm, HT.out.trans' HT1.out⟩
      · have g3I : ¬ (mr.size : Int) + (mn.size : Int) ≤ 60 := by omega
        have HF : Hid (R = false) := Lib.hid (by rw [HSM.out]; simp [g3])
        go_enter Tryz.func10, Tryz.ntmps10
        go_wp2_with fail
        go_ret
        rw [HW.out]
        exact ⟨ret_bool HF.out.symm, HT.out⟩
    · have g2I : ¬ (nl : Int) ≤ 6 := by omega
      have HF : Hid (R = false) := Lib.hid (by rw [HSM.out]; simp [g2])
      go_enter Tryz.func10, Tryz.ntmps10
      go_wp2_with fail
      go_ret
      rw [HW.out]
      exact ⟨ret_bool HF.out.symm, HT.out⟩
  · have g1I : ¬ (np : Int) ≤ 6 := by omega
    have HF : Hid (R = false) := Lib.hid (by rw [HSM.out]; simp [g1])
    go_enter Tryz.func10, Tryz.ntmps10
    go_wp2_with fail
    go_ret
    rw [HW.out]
    exact ⟨ret_bool HF.out.symm, HT.out⟩
end Go.Proofs.YtoekaehpcjhhaaaGreatDoor
