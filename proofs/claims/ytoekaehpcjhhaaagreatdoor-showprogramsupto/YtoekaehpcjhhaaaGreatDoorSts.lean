/- stmts: a statement behind the other. -/
import Derived.Test.YtoekaehpcjhhaaaGreatDoorNst
set_option linter.unusedSimpArgs false
set_option linter.unusedVariables false
namespace Go.Proofs.YtoekaehpcjhhaaaGreatDoor
open Go.RowKit

theorem rwL_take {D : Nat} {l : List St} {k : Nat} {s : St} (h : l[k]? = some s) : rwL D (l.take (k + 1)) = rwL D (l.take k) ++ rw1 D s := by
  rw [take_snoc h, rwL_append, rwL_one]
theorem rwL_take_le (D : Nat) (l : List St) (k : Nat) : (rwL D (l.take k)).length ≤ (rwL D l).length := by
  conv => rhs; rw [← List.take_append_drop k l, rwL_append]
  simp

set_option maxHeartbeats 4000000 in
set_option maxRecDepth 100000 in
theorem stmts_of (l : List St) (hs : ∀ s ∈ l, SaidS s) : SaidL l := by
  intro T b F R D A c B w h hr hF hE hz hlen
  have HS := Lib.hid hs
  have H0 : Hid (∃ F', Sh T w b F' (R ++ rwL D (l.take 0)) D ∧ Foot w.heap.size F F' ∧ Turn F w w) := Lib.hid ⟨F, by simpa [rwL_nil] using h, Foot.refl _ _, Turn.refl _ _⟩
  have HR := Lib.hid hr
  have HE := Lib.hid hE
  have HF := Lib.hid hF
  obtain ⟨n, hn⟩ : ∃ n, l.length = n := ⟨_, rfl⟩
  have HN := Lib.hid hn
  rw [hn] at hlen ⊢
  have HZ := Lib.hid hz
  clear hs h hr hF hE hn hz
  go_enter Tryz.func31, Tryz.ntmps31
  go_wp2_with fail
  go_loopw [8] (fun i wr => ∃ k : Nat, k ≤ n ∧ i = .int .i64 (k : Int) ∧ Hid (Wr T w b F (R ++ rwL D (l.take k)) D wr)) (fun i _ => n - (intOf i).toNat)
  case atStart => exact ⟨0, Nat.zero_le _, rfl, H0⟩
  case round =>
    obtain ⟨k, hk, rfl, HW⟩ := hrel
    by_cases hlt : k < n
    · obtain ⟨F1, hS1, hF1, hT1⟩ := HW.out
      obtain ⟨s, hsk⟩ := at_lt (l := l) (k := k) (by rw [HN.out]; exact hlt)
      obtain ⟨g, off, cs, rfl, hgB, hgl, hcell, hRd⟩ := RdL.at (HR.out.turn hT1 HF.out l) hsk
      rw [Nat.zero_add] at hcell
      have HSK := Lib.hid hsk
      have HRd := Lib.hid hRd
      have HS1 := Lib.hid hS1
      have HF1 := Lib.hid hF1
      have HT1 := Lib.hid hT1
      have HRS := Lib.hid (HS.out s (List.mem_of_getElem? hsk))
      obtain ⟨d, x, y, z, t, f, ag, m, bd, ot, ln, cl⟩ := s
      obtain ⟨A1, c1, A2, c2, A3, c3, rfl, -, -, -, -⟩ := hRd.cells
      have e0 : wr.cell? ⟨g, off + k * 12, none⟩ = some (.int .i64 d) := hcell 0 _ rfl
      have e1 := hcell 1 _ rfl
      have e2 := hcell 2 _ rfl
      have e3 := hcell 3 _ rfl
      have e4 := hcell 4 _ rfl
      have e5 := hcell 5 _ rfl
      have e6 := hcell 6 _ rfl
      have e7 := hcell 7 _ rfl
      have e8 := hcell 8 _ rfl
      have e9 := hcell 9 _ rfl
      have e10 := hcell 10 _ rfl
      have e11 := hcell 11 _ rfl
      clear hsk hRd hS1 hF1 hT1 hcell
      go_wp2_with fail
      have tA : Turn [] wr (wr.alloc (.cells #[.int .i64 d, .string x, .string y, .string z, .string t, .string f, .slice A1 ag.length c1, .int .i64 m, .slice A2 bd.length c2, .slice A3 ot.length c3, .int .i64 ln, .int .i64 cl] 38)) := (Turn.refl [] wr).alloc _
      have hB1 : ∀ g ∈ F1, B ≤ g := Foot.above HF1.out HF.out HE.out.lt
      have hlen1 := rwL_take_le D l (k + 1)
      rw [rwL_take HSK.out, List.length_append] at hlen1
      refine (HRS.out T b F1 (R ++ rwL D (l.take k)) D _ B _ (HS1.out.turn' tA) (HRd.out.turn tA (by simp)) hB1 ((HE.out.turn HT1.out HF.out).turn tA (by simp)) (by have := HZ.out; rw [List.length_append]; omega)).mono ?_
      rintro e w2 ⟨rfl, hW2⟩
      have HW2 : Hid (Wr T w b F (R ++ rwL D (l.take (k + 1))) D w2) := Lib.hid (by
        rw [rwL_take HSK.out, ← List.append_assoc]
        exact Wr.trans HF1.out HT1.out (Wr.after tA hW2))
      clear hW2 tA hB1 hlen1 e0 e1 e2 e3 e4 e5 e6 e7 e8 e9 e10 e11
      go_wp2_with fail
      go_roundw
      case rel => exact ⟨k + 1, by omega, by go_num, HW2⟩
      case measure => simp [intOf]; omega
    · go_wp2_with fail
      go_end0
      obtain rfl : k = n := by omega
      have := HW.out
      rw [List.take_of_length_le (by rw [HN.out]; exact Nat.le_refl _)] at this
      exact ⟨rfl, this⟩
end Go.Proofs.YtoekaehpcjhhaaaGreatDoor
