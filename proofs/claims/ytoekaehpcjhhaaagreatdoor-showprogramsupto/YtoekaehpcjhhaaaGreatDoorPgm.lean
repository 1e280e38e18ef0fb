/- Program. -/
import Derived.Test.YtoekaehpcjhhaaaGreatDoorPtx
set_option linter.unusedSimpArgs false
set_option linter.unusedVariables false
namespace Go.Proofs.YtoekaehpcjhhaaaGreatDoor
open Go.RowKit

theorem prgR_ne (p : Pr) : prgR p ≠ [] := by unfold prgR blkR; simp
set_option maxHeartbeats 8000000 in
set_option maxRecDepth 100000 in
theorem program_any (B : Nat) (cs : List Value) (p : Pr) (w : World) (hr : RdP B w cs p) (hE : Env B w) (hf : FtP p) (hd : ∀ r ∈ prgR p, r.1 ≤ 10000000) (hz : (txL (prgR p)).length ≤ 100000000000000) :
    Calls Tryz.prog 7 #[.agg cs.toArray] w fun e w' => e = .returned (.string (mk (txL (prgR p)))) ∧ Turn [] w w' := by
  have hr0 := hr
  obtain ⟨A0, c0, mc, rfl, hcs, hmn⟩ := hr
  obtain ⟨A1, c1, A2, c2, A3, c3, x, y, rfl, _, _, _⟩ := hmn
  have tA := bx w #[.slice A0 p.cs.length c0, .string p.main.ret, .string p.main.name, .bool p.main.stat, .bool p.main.bare, .slice A1 p.main.ps.length c1, .slice A2 p.main.ls.length c2, .slice A3 p.main.bd.length c3, .int .i64 x, .int .i64 y] 30
  obtain ⟨W, hW⟩ : ∃ W, w.alloc (.cells #[.slice A0 p.cs.length c0, .string p.main.ret, .string p.main.name, .bool p.main.stat, .bool p.main.bare, .slice A1 p.main.ps.length c1, .slice A2 p.main.ls.length c2, .slice A3 p.main.bd.length c3, .int .i64 x, .int .i64 y] 30) = W := ⟨_, rfl⟩
  rw [hW] at tA
  have HC := Lib.hid (psheet_any B _ p W (hr0.turn tA (by simp)) (hE.turn tA (by simp)) hf)
  have HT := Lib.hid tA
  have HW := Lib.hid hW
  have HZ := Lib.hid (And.intro (prgR_len hf) (And.intro hd hz))
  have HNE := Lib.hid (prgR_ne p)
  clear hr0 hcs tA hW hE hf hd hz
  go_enter Tryz.func7, Tryz.ntmps7
  go_wp2_with fail
  rw [HW.out]
  refine HC.out.mono ?_
  rintro e w1 ⟨b, F, rfl, hS, t1⟩
  have HTx := Lib.hid (text_any 69 b F (prgR p) 0 w1 hS (by have := HZ.out.1; omega) HNE.out HZ.out.2.1 HZ.out.2.2)
  have HT1 := Lib.hid t1
  clear hS t1
  go_wp2_with fail
  refine HTx.out.mono ?_
  rintro e w2 ⟨rfl, t2⟩
  have HT2 := Lib.hid t2
  clear t2
  go_wp2_with fail
  go_ret
  exact ⟨rfl, (HT.out.trans' HT1.out).trans' HT2.out⟩
end Go.Proofs.YtoekaehpcjhhaaaGreatDoor
