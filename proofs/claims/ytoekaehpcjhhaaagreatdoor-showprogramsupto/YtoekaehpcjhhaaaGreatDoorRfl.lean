/- The reference's further; All, from what Lines does. -/
import Derived.Test.YtoekaehpcjhhaaaGreatDoorRfj
set_option linter.unusedSimpArgs false
set_option linter.unusedVariables false
namespace Go.Proofs.YtoekaehpcjhhaaaGreatDoor
open Go.RowKit

def fur (s : ByteArray) : ByteArray := ⟨#[32, 32]⟩ ++ s

set_option maxHeartbeats 2000000 in
theorem further_any (A : Option Addr) (c : Nat) (xs : List ByteArray) (w : World) (h : Sts w A xs) (hn : xs.length ≤ 100000000) (hz : ∀ x ∈ xs, x.size ≤ 1000000000) :
    Calls Tryz.prog 22 #[.slice A xs.length c] w fun e w' => ∃ A' c', e = .returned (.slice A' xs.length c') ∧ OwnS w' (.slice A' xs.length c') (xs.map fur) ∧ Nw w.heap.size (.slice A' xs.length c') ∧ Turn [] w w' := by
  have H := Lib.hid h
  have HZ := Lib.hid hz
  obtain ⟨n, hnn⟩ : ∃ n, xs.length = n := ⟨_, rfl⟩
  have HN := Lib.hid hnn
  rw [hnn] at hn ⊢
  clear h hnn hz
  go_enter Tryz.func22, Tryz.ntmps22
  go_wp2_with fail
  go_loopw [3, 4] (fun v i wr => ∃ k : Nat, k ≤ n ∧ i = .int .i64 (k : Int) ∧ Hid (OwnS wr v ((xs.take k).map fur) ∧ Nw w.heap.size v ∧ Turn [] w wr)) (fun _ i _ => n - (intOf i).toNat)
  case atStart => exact ⟨0, Nat.zero_le _, rfl, Lib.hid ⟨OwnS.nil _, (fun g hg => by cases hg), Turn.refl _ _⟩⟩
  case round =>
    obtain ⟨k, hk, rfl, HR⟩ := hrel
    by_cases hlt : k < n
    · obtain ⟨x, hx⟩ := at_lt (l := xs) (k := k) (by rw [HN.out]; exact hlt)
      obtain ⟨g, off, rfl, hg, hc⟩ := (H.out.turn' HR.out.2.2).at hx
      have hxs : 2 + x.size ≤ 9223372036854775807 := by have := HZ.out x (List.mem_of_getElem? hx); omega
      have HX : Hid ((xs.take (k + 1)).map fur = (xs.take k).map fur ++ [⟨#[32, 32]⟩ ++ x]) := Lib.hid (by rw [take_snoc hx, List.map_append]; rfl)
      have hlk : ((xs.take k).map fur).length = k := by rw [List.length_map, List.length_take, HN.out]; omega
      have HLK := Lib.hid hlk
      clear hx hlk
      go_wp2_with (at_builtin
                   refine wpList_appS rfl (.tmp 11) (.tmp 17) rfl _ u3 ((xs.take k).map fur) [⟨#[32, 32]⟩ ++ x] (some ⟨wr.heap.size, 0, none⟩) 1 1 rfl rfl (HR.out.1.turn (bx wr _ _) (by simp)) (sts_new wr _ _ rfl) rfl (by rw [HLK.out]; simp; omega) ?_
                   intro v1 w1 ho1 ht1 hn1
                   have HO := Lib.hid (And.intro ho1 (And.intro ht1 hn1))
                   clear ho1 ht1 hn1)
      go_roundw
      case rel =>
        refine ⟨k + 1, by omega, by go_num, Lib.hid ⟨?_, ?_, ?_⟩⟩
        · rw [HX.out]; exact HO.out.1
        · exact HO.out.2.2 _ HR.out.2.1 (Nat.le_trans HR.out.2.2.size (bx wr _ _).size)
        · exact (HR.out.2.2.trans' (bx wr _ _)).trans HO.out.2.1 (fun g hg => .inr (HR.out.2.1 g (by simpa using hg)))
      case measure => simp [intOf]; omega
    · have hkn : k = n := by omega
      subst hkn
      have HR2 := HR.out
      rw [List.take_of_length_le (by rw [HN.out]; exact Nat.le_refl _)] at HR2
      obtain ⟨A', c', hv, _, _⟩ := owns_form HR2.1
      rw [List.length_map, HN.out] at hv
      subst hv
      have HR3 := Lib.hid HR2
      clear HR2 HR
      go_wp2_with fail
      go_ret
      exact ⟨A', c', rfl, HR3.out⟩

/-- A row as a line of the text. -/
def ln (r : Row) : ByteArray := mk (List.replicate (2 * r.1) 32 ++ bs r.2)
theorem ln_zero (t : ByteArray) : ln (0, t) = t := by apply bs_inj; unfold ln; rw [bs_mk]; rfl
theorem fur_ln (k : Nat) (t : ByteArray) : fur (ln (k, t)) = ln (k + 1, t) := by
  apply bs_inj
  unfold fur ln
  rw [bs_append, bs_mk, bs_mk, show 2 * ((k + 1, t) : Row).1 = 2 * k + 1 + 1 by simp; omega, List.replicate_succ, List.replicate_succ]
  rfl
mutual
theorem rw1_deep (D : Nat) : ∀ (s : St), (rw1 D s).map (fun r => ((r.1 + 1, r.2) : Row)) = rw1 (D + 1) s
  | .mk d x y z t f ag n bd ot lin cl => by
    have hb := rwL_deep (D + 1) bd
    have ho := rwL_deep (D + 1) ot
    by_cases h19 : d = 19
    · subst h19
      rw [rw1_try, rw1_try]
      simp only [List.map_append, List.map_cons, List.map_nil, hb, ho]
    · by_cases h20 : d = 20
      · subst h20
        rw [rw1_if, rw1_if]
        by_cases h : ot.length = 0
        · simp only [if_pos h, List.map_append, List.map_cons, List.map_nil, hb]
        · simp only [if_neg h, List.map_append, List.map_cons, List.map_nil, hb, ho]
      · by_cases h21 : d = 21
        · subst h21
          rw [rw1_while, rw1_while]
          simp only [List.map_append, List.map_cons, List.map_nil, hb]
        · rw [rw1_plain h19 h20 h21, rw1_plain h19 h20 h21, List.map_map]
          rfl
theorem rwL_deep (D : Nat) : ∀ (l : List St), (rwL D l).map (fun r => ((r.1 + 1, r.2) : Row)) = rwL (D + 1) l
  | [] => by rw [rwL_nil, rwL_nil]; rfl
  | s :: l => by rw [rwL_cons, rwL_cons, List.map_append, rw1_deep D s, rwL_deep D l]
end
theorem fur_rows (D : Nat) (l : List St) : ((rwL D l).map ln).map fur = (rwL (D + 1) l).map ln := by
  rw [← rwL_deep, List.map_map, List.map_map]
  apply List.map_congr_left
  intro r _
  obtain ⟨k, t⟩ := r
  exact fur_ln k t
end Go.Proofs.YtoekaehpcjhhaaaGreatDoor
