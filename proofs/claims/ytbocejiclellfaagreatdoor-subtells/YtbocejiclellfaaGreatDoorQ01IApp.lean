import Derived.Test.YtbocejiclellfaaGreatDoorQ00IKit
import Derived.Deep.RegionHeld3
import Derived.Shelf.Spec.SlicesInsertGrow
import Derived.Laws.CopyOwn
import Derived.Laws.MakeOwn
import Derived.Deep.Upon

/- Stage 1's text App: what stage 8 wants of it (printed by conv1.py). -/
set_option linter.unusedSimpArgs false
set_option linter.unusedVariables false
set_option maxRecDepth 100000
namespace Go.Proofs.YtbocejiclellfaaGreatDoor
open Go.RowKit

attribute [local go_sem] idx44_0 idx44_1 idx44_2 idx44_3
/-- math/bits' table lies in its variable. -/
def Tab (w : World) : Prop := TabAt 0 Lib.deBruijn64tab w
theorem Tab.turn {F : List Nat} {w w' : World} (h : Tab w) (t : Turn F w w') (h0 : 0 ∉ F) : Tab w' := fun j hj => by
  have hc := h j hj
  have hl : 0 < w.heap.size := World.block_lt_of_cell? w ⟨0, j, none⟩ hc
  exact (t.cell (p := ⟨0, j, none⟩) hl h0).trans hc
theorem Tab.turn' {w w' : World} (h : Tab w) (t : Turn [] w w') : Tab w' := h.turn t (by simp)
def wordNums (base : Int) (x : Nat) : List Int := (bitsL x).map (fun j : Nat => base + (j : Int))
/-- The row's numbers, rising. -/
def Row.nums (r : Row) : List Int := wordNums (r.at_ * 256) r.w0 ++ wordNums (r.at_ * 256 + 64) r.w1 ++ wordNums (r.at_ * 256 + 128) r.w2 ++ wordNums (r.at_ * 256 + 192) r.w3
theorem wordNums_length (b : Int) (x : Nat) : (wordNums b x).length ≤ 64 := by
  have := bitsL_length x
  simpa [wordNums] using this
theorem wordNums_step {b : Int} {x c : Nat} (h : bitsL x = c :: bitsL (x &&& (x - 1))) : wordNums b x = (b + (c : Int)) :: wordNums b (x &&& (x - 1)) := by simp [wordNums, h]
theorem wordNums_zero (b : Int) : wordNums b 0 = [] := by simp [wordNums, bitsL_zero]
/-- Half way through a word: o is the list so far, y what is left of the word. -/
def Mid (w : World) (box : Array Value) (B : Nat) (v : Value) (base : Int) (tgt : List Int) (o x : Value) (wr : World) : Prop :=
  wr.heap[w.heap.size]? = some (.cells box 139 (0, 0)) ∧ ∃ (y : Nat) (l : List Int), x = .int .u64 y ∧ y < 18446744073709551616 ∧ OwnI wr B o l ∧ l ++ wordNums base y = tgt ∧ Turn v.ownBlock.toList w wr ∧ (∀ g, o.ownBlock = some g → g ∈ v.ownBlock.toList ∨ w.heap.size ≤ g)
theorem OwnI.ne_box {w : World} {B b : Nat} {v : Value} {l : List Int} {cs : Array Value} {f : Nat × Nat} {t : TypeId} (h : OwnI w B v l) (hb : w.heap[b]? = some (.cells cs t f)) (ht : t ≠ 3) : v.ownBlock ≠ some b := by
  intro e
  rcases h.2 with ⟨rfl, _⟩ | ⟨g, cap, cur, rfl, _, hg, _⟩
  · simp [Value.ownBlock] at e
  · simp [Value.ownBlock] at e
    subst e
    rw [hb] at hg
    injection hg with hg
    injection hg with _ e _
    exact ht e
theorem and_pred_u64 (y : Nat) (hy : y < 18446744073709551616) (h0 : y ≠ 0) : bits BinOp.and IntKind.u64 (y : Int) ((y : Int) - 1) = ((y &&& (y - 1) : Nat) : Int) := by
  rw [show (y : Int) - 1 = ((y - 1 : Nat) : Int) by omega, u64_and_nat _ _ hy (by omega)]
theorem tz_known (y c : Nat) (hy : y < 18446744073709551616) (h0 : y ≠ 0) (hc : Lib.ctz 64 y = c) (W : World) (hT : Tab W) : Calls Tryz.prog 97 #[.int .u64 y] W fun e w' => e = .returned (.int .i64 c) ∧ W = w' := by
  subst hc
  exact tz64_any y hy h0 W hT
set_option maxHeartbeats 2000000 in
theorem appendTo_walk (a w0 w1 w2 w3 B : Nat) (v : Value) (l : List Int) (w : World) (ha : a < 4096) (b0 : w0 < 18446744073709551616) (b1 : w1 < 18446744073709551616) (b2 : w2 < 18446744073709551616) (b3 : w3 < 18446744073709551616)
    (hv : OwnI w B v l) (hB : B ≤ w.heap.size) (hB0 : 0 < B) (hl : l.length ≤ 1100000) (hT : Tab w) :
    Calls Tryz.prog 91 #[.agg #[.int .i64 a, .int .u64 w0, .int .u64 w1, .int .u64 w2, .int .u64 w3], v] w fun e w' => ∃ v', e = .returned v' ∧ OwnI w' B v' (l ++ (Row.mk a w0 w1 w2 w3).nums) ∧ Turn v.ownBlock.toList w w' ∧ (∀ g, v'.ownBlock = some g → g ∈ v.ownBlock.toList ∨ w.heap.size ≤ g) := by
  have HV := Lib.hid hv
  have HTab := Lib.hid hT
  have h0F : 0 ∉ v.ownBlock.toList := by
    intro h
    have := (hv.lt 0 (by simpa using h)).1
    omega
  have H0F := Lib.hid h0F
  clear hv hT h0F
  go_enter Tryz.func91, Tryz.ntmps91
  go_wp2_with fail
  refine wp_loop_rounds 5 ?_
  rw [rounds_succ]
  go_wp2_with fail
  go_loopw [1, 6] (fun o x wr => Mid w #[.int .i64 a, .int .u64 w0, .int .u64 w1, .int .u64 w2, .int .u64 w3] B v ((a : Int) * 256) (l ++ wordNums ((a : Int) * 256) w0) o x wr) (fun _ x _ => (intOf x).toNat)
  case atStart => exact ⟨heap_alloc_new w _, w0, l, rfl, b0, HV.out.turn' ((Turn.refl _ _).alloc _), rfl, (Turn.refl _ _).alloc _, fun g hg => .inl (by simpa using hg)⟩
  case round =>
    obtain ⟨hbox, y, l1, rfl, hy, ho, he, ht, hfoot⟩ := hrel
    have hcb : wr.cell? ⟨w.heap.size, 0, none⟩ = some (.int .i64 a) := cell_of_row wr w.heap.size 0 _ 139 (0, 0) hbox
    have HBx := Lib.hid hbox
    clear hbox
    have HO := Lib.hid ho
    have HE := Lib.hid he
    have HT := Lib.hid ht
    have HFo := Lib.hid hfoot
    clear ho he ht hfoot
    by_cases hy0 : y = 0
    · subst hy0
      have hfin : OwnI wr B u1 (l ++ wordNums ((a : Int) * 256) w0) := by
        rw [← HE.out, wordNums_zero, List.append_nil]
        exact HO.out
      have HFin0 := Lib.hid hfin
      have HT0 := HT
      have HBx0 := HBx
      have HF0 := HFo
      clear HO HE HT HFo HBx hfin hy
      go_wp2
      rw [rounds_succ]
      go_wp2_with fail
      go_loopw [1, 6] (fun o x wr => Mid w #[.int .i64 a, .int .u64 w0, .int .u64 w1, .int .u64 w2, .int .u64 w3] B v ((a : Int) * 256 + 64) (l ++ wordNums ((a : Int) * 256) w0 ++ wordNums ((a : Int) * 256 + 64) w1) o x wr) (fun _ x _ => (intOf x).toNat)
      case atStart => exact ⟨HBx0.out, w1, l ++ wordNums ((a : Int) * 256) w0, rfl, b1, HFin0.out, rfl, HT0.out, HF0.out⟩
      case round =>
        obtain ⟨hbox, y, l1, rfl, hy, ho, he, ht, hfoot⟩ := hrel
        have hcb : wr.cell? ⟨w.heap.size, 0, none⟩ = some (.int .i64 a) := cell_of_row wr w.heap.size 0 _ 139 (0, 0) hbox
        have HBx := Lib.hid hbox
        clear hbox
        have HO := Lib.hid ho
        have HE := Lib.hid he
        have HT := Lib.hid ht
        have HFo := Lib.hid hfoot
        clear ho he ht hfoot
        by_cases hy0 : y = 0
        · subst hy0
          have hfin : OwnI wr B u1 (l ++ wordNums ((a : Int) * 256) w0 ++ wordNums ((a : Int) * 256 + 64) w1) := by
            rw [← HE.out, wordNums_zero, List.append_nil]
            exact HO.out
          have HFin1 := Lib.hid hfin
          have HT1 := HT
          have HBx1 := HBx
          have HF1 := HFo
          clear HO HE HT HFo HBx hfin hy
          go_wp2
          rw [rounds_succ]
          go_wp2_with fail
          go_loopw [1, 6] (fun o x wr => Mid w #[.int .i64 a, .int .u64 w0, .int .u64 w1, .int .u64 w2, .int .u64 w3] B v ((a : Int) * 256 + 128) (l ++ wordNums ((a : Int) * 256) w0 ++ wordNums ((a : Int) * 256 + 64) w1 ++ wordNums ((a : Int) * 256 + 128) w2) o x wr) (fun _ x _ => (intOf x).toNat)
          case atStart => exact ⟨HBx1.out, w2, l ++ wordNums ((a : Int) * 256) w0 ++ wordNums ((a : Int) * 256 + 64) w1, rfl, b2, HFin1.out, rfl, HT1.out, HF1.out⟩
          case round =>
            obtain ⟨hbox, y, l1, rfl, hy, ho, he, ht, hfoot⟩ := hrel
            have hcb : wr.cell? ⟨w.heap.size, 0, none⟩ = some (.int .i64 a) := cell_of_row wr w.heap.size 0 _ 139 (0, 0) hbox
            have HBx := Lib.hid hbox
            clear hbox
            have HO := Lib.hid ho
            have HE := Lib.hid he
            have HT := Lib.hid ht
            have HFo := Lib.hid hfoot
            clear ho he ht hfoot
            by_cases hy0 : y = 0
            · subst hy0
              have hfin : OwnI wr B u1 (l ++ wordNums ((a : Int) * 256) w0 ++ wordNums ((a : Int) * 256 + 64) w1 ++ wordNums ((a : Int) * 256 + 128) w2) := by
                rw [← HE.out, wordNums_zero, List.append_nil]
                exact HO.out
              have HFin2 := Lib.hid hfin
              have HT2 := HT
              have HBx2 := HBx
              have HF2 := HFo
              clear HO HE HT HFo HBx hfin hy
              go_wp2
              rw [rounds_succ]
              go_wp2_with fail
              go_loopw [1, 6] (fun o x wr => Mid w #[.int .i64 a, .int .u64 w0, .int .u64 w1, .int .u64 w2, .int .u64 w3] B v ((a : Int) * 256 + 192) (l ++ wordNums ((a : Int) * 256) w0 ++ wordNums ((a : Int) * 256 + 64) w1 ++ wordNums ((a : Int) * 256 + 128) w2 ++ wordNums ((a : Int) * 256 + 192) w3) o x wr) (fun _ x _ => (intOf x).toNat)
              case atStart => exact ⟨HBx2.out, w3, l ++ wordNums ((a : Int) * 256) w0 ++ wordNums ((a : Int) * 256 + 64) w1 ++ wordNums ((a : Int) * 256 + 128) w2, rfl, b3, HFin2.out, rfl, HT2.out, HF2.out⟩
              case round =>
                obtain ⟨hbox, y, l1, rfl, hy, ho, he, ht, hfoot⟩ := hrel
                have hcb : wr.cell? ⟨w.heap.size, 0, none⟩ = some (.int .i64 a) := cell_of_row wr w.heap.size 0 _ 139 (0, 0) hbox
                have HBx := Lib.hid hbox
                clear hbox
                have HO := Lib.hid ho
                have HE := Lib.hid he
                have HT := Lib.hid ht
                have HFo := Lib.hid hfoot
                clear ho he ht hfoot
                by_cases hy0 : y = 0
                · subst hy0
                  have hfin : OwnI wr B u1 (l ++ wordNums ((a : Int) * 256) w0 ++ wordNums ((a : Int) * 256 + 64) w1 ++ wordNums ((a : Int) * 256 + 128) w2 ++ wordNums ((a : Int) * 256 + 192) w3) := by
                    rw [← HE.out, wordNums_zero, List.append_nil]
                    exact HO.out
                  have HFin3 := Lib.hid hfin
                  have HT3 := HT
                  have HBx3 := HBx
                  have HF3 := HFo
                  clear HO HE HT HFo HBx hfin hy
                  go_wp2
                  rw [rounds_succ]
                  go_wp2
                  go_ret
                  refine ⟨_, rfl, ?_, HT3.out, HF3.out⟩
                  have := HFin3.out
                  simpa [Row.nums, List.append_assoc] using this
                · have hne : ((y : Int) != 0) = true := by simp; omega
                  obtain ⟨hstep, hless, hc⟩ := bitsL_step y hy hy0
                  have hand := and_pred_u64 y hy hy0
                  generalize hcz : Lib.ctz 64 y = c at *
                  generalize hnx : y &&& (y - 1) = z at *
                  have hst : wordNums ((a : Int) * 256 + 192) y = (((a : Int) * 256 + 192) + (c : Int)) :: wordNums ((a : Int) * 256 + 192) z := by
                    have := hstep
                    rw [← hnx] at this ⊢
                    exact wordNums_step this
                  have hlen : l1.length ≤ 1000000 * 2 := by
                    have h1 := congrArg List.length HE.out
                    simp only [List.length_append] at h1
                    have h2 := wordNums_length (a * 256) w0
                    have h3 := wordNums_length (a * 256 + 64) w1
                    have h4 := wordNums_length (a * 256 + 128) w2
                    have h5 := wordNums_length (a * 256 + 192) w3
                    omega
                  have HS := Lib.hid hst
                  have HTz := Lib.hid (tz_known y c hy hy0 hcz)
                  have HZ := Lib.hid hnx
                  have H1 := Lib.hid hstep
                  have H2 := Lib.hid hcz
                  have hsub : IntKind.u64.wrap ((y : Int) - 1) = (y : Int) - 1 := by rw [IntKind.wrap_u64]; omega
                  clear hst hstep hcz hnx
                  go_wp2_with (first
                    | (go_at_call 97; refine (HTz.out _ (HTab.out.turn HT.out H0F.out)).mono ?_; rintro e w' ⟨rfl, rfl⟩)
                    | (at_builtin; refine wpList_app1' rfl (.tmp 26) (.tmp 31) rfl wr B u1 l1 _ _ rfl HO.out rfl (by omega) (Nat.le_trans hB HT.out.size) ?_; intro v1 w1' hv1 ht1 hat1))
                  go_roundw
                  case rel =>
                    refine ⟨(ht1.heap HBx.out (fun hg => HO.out.ne_box HBx.out (by decide) (by simpa using hg))), z, l1 ++ [((a : Int) * 256 + 192) + (c : Int)], rfl, by omega, by exact hv1, ?_, HT.out.trans ht1 (fun g hg => HFo.out g (by simpa using hg)), ?_⟩
                    · rw [← HE.out, HS.out]; simp
                    · intro g hg
                      rcases hat1 with e1 | ⟨g', e1, hge⟩
                      · exact HFo.out g (e1 ▸ hg)
                      · rw [e1] at hg
                        injection hg with hg
                        subst hg
                        exact .inr (Nat.le_trans HT.out.size hge)
                  case measure => simp [intOf]; omega
            · have hne : ((y : Int) != 0) = true := by simp; omega
              obtain ⟨hstep, hless, hc⟩ := bitsL_step y hy hy0
              have hand := and_pred_u64 y hy hy0
              generalize hcz : Lib.ctz 64 y = c at *
              generalize hnx : y &&& (y - 1) = z at *
              have hst : wordNums ((a : Int) * 256 + 128) y = (((a : Int) * 256 + 128) + (c : Int)) :: wordNums ((a : Int) * 256 + 128) z := by
                have := hstep
                rw [← hnx] at this ⊢
                exact wordNums_step this
              have hlen : l1.length ≤ 1000000 * 2 := by
                have h1 := congrArg List.length HE.out
                simp only [List.length_append] at h1
                have h2 := wordNums_length (a * 256) w0
                have h3 := wordNums_length (a * 256 + 64) w1
                have h4 := wordNums_length (a * 256 + 128) w2
                have h5 := wordNums_length (a * 256 + 192) w3
                omega
              have HS := Lib.hid hst
              have HTz := Lib.hid (tz_known y c hy hy0 hcz)
              have HZ := Lib.hid hnx
              have H1 := Lib.hid hstep
              have H2 := Lib.hid hcz
              have hsub : IntKind.u64.wrap ((y : Int) - 1) = (y : Int) - 1 := by rw [IntKind.wrap_u64]; omega
              clear hst hstep hcz hnx
              go_wp2_with (first
                | (go_at_call 97; refine (HTz.out _ (HTab.out.turn HT.out H0F.out)).mono ?_; rintro e w' ⟨rfl, rfl⟩)
                | (at_builtin; refine wpList_app1' rfl (.tmp 26) (.tmp 31) rfl wr B u1 l1 _ _ rfl HO.out rfl (by omega) (Nat.le_trans hB HT.out.size) ?_; intro v1 w1' hv1 ht1 hat1))
              go_roundw
              case rel =>
                refine ⟨(ht1.heap HBx.out (fun hg => HO.out.ne_box HBx.out (by decide) (by simpa using hg))), z, l1 ++ [((a : Int) * 256 + 128) + (c : Int)], rfl, by omega, by exact hv1, ?_, HT.out.trans ht1 (fun g hg => HFo.out g (by simpa using hg)), ?_⟩
                · rw [← HE.out, HS.out]; simp
                · intro g hg
                  rcases hat1 with e1 | ⟨g', e1, hge⟩
                  · exact HFo.out g (e1 ▸ hg)
                  · rw [e1] at hg
                    injection hg with hg
                    subst hg
                    exact .inr (Nat.le_trans HT.out.size hge)
              case measure => simp [intOf]; omega
        · have hne : ((y : Int) != 0) = true := by simp; omega
          obtain ⟨hstep, hless, hc⟩ := bitsL_step y hy hy0
          have hand := and_pred_u64 y hy hy0
          generalize hcz : Lib.ctz 64 y = c at *
          generalize hnx : y &&& (y - 1) = z at *
          have hst : wordNums ((a : Int) * 256 + 64) y = (((a : Int) * 256 + 64) + (c : Int)) :: wordNums ((a : Int) * 256 + 64) z := by
            have := hstep
            rw [← hnx] at this ⊢
            exact wordNums_step this
          have hlen : l1.length ≤ 1000000 * 2 := by
            have h1 := congrArg List.length HE.out
            simp only [List.length_append] at h1
            have h2 := wordNums_length (a * 256) w0
            have h3 := wordNums_length (a * 256 + 64) w1
            have h4 := wordNums_length (a * 256 + 128) w2
            have h5 := wordNums_length (a * 256 + 192) w3
            omega
          have HS := Lib.hid hst
          have HTz := Lib.hid (tz_known y c hy hy0 hcz)
          have HZ := Lib.hid hnx
          have H1 := Lib.hid hstep
          have H2 := Lib.hid hcz
          have hsub : IntKind.u64.wrap ((y : Int) - 1) = (y : Int) - 1 := by rw [IntKind.wrap_u64]; omega
          clear hst hstep hcz hnx
          go_wp2_with (first
            | (go_at_call 97; refine (HTz.out _ (HTab.out.turn HT.out H0F.out)).mono ?_; rintro e w' ⟨rfl, rfl⟩)
            | (at_builtin; refine wpList_app1' rfl (.tmp 26) (.tmp 31) rfl wr B u1 l1 _ _ rfl HO.out rfl (by omega) (Nat.le_trans hB HT.out.size) ?_; intro v1 w1' hv1 ht1 hat1))
          go_roundw
          case rel =>
            refine ⟨(ht1.heap HBx.out (fun hg => HO.out.ne_box HBx.out (by decide) (by simpa using hg))), z, l1 ++ [((a : Int) * 256 + 64) + (c : Int)], rfl, by omega, by exact hv1, ?_, HT.out.trans ht1 (fun g hg => HFo.out g (by simpa using hg)), ?_⟩
            · rw [← HE.out, HS.out]; simp
            · intro g hg
              rcases hat1 with e1 | ⟨g', e1, hge⟩
              · exact HFo.out g (e1 ▸ hg)
              · rw [e1] at hg
                injection hg with hg
                subst hg
                exact .inr (Nat.le_trans HT.out.size hge)
          case measure => simp [intOf]; omega
    · have hne : ((y : Int) != 0) = true := by simp; omega
      obtain ⟨hstep, hless, hc⟩ := bitsL_step y hy hy0
      have hand := and_pred_u64 y hy hy0
      generalize hcz : Lib.ctz 64 y = c at *
      generalize hnx : y &&& (y - 1) = z at *
      have hst : wordNums ((a : Int) * 256) y = (((a : Int) * 256) + (c : Int)) :: wordNums ((a : Int) * 256) z := by
        have := hstep
        rw [← hnx] at this ⊢
        exact wordNums_step this
      have hlen : l1.length ≤ 1000000 * 2 := by
        have h1 := congrArg List.length HE.out
        simp only [List.length_append] at h1
        have h2 := wordNums_length (a * 256) w0
        have h3 := wordNums_length (a * 256 + 64) w1
        have h4 := wordNums_length (a * 256 + 128) w2
        have h5 := wordNums_length (a * 256 + 192) w3
        omega
      have HS := Lib.hid hst
      have HTz := Lib.hid (tz_known y c hy hy0 hcz)
      have HZ := Lib.hid hnx
      have H1 := Lib.hid hstep
      have H2 := Lib.hid hcz
      have hsub : IntKind.u64.wrap ((y : Int) - 1) = (y : Int) - 1 := by rw [IntKind.wrap_u64]; omega
      clear hst hstep hcz hnx
      go_wp2_with (first
        | (go_at_call 97; refine (HTz.out _ (HTab.out.turn HT.out H0F.out)).mono ?_; rintro e w' ⟨rfl, rfl⟩)
        | (at_builtin; refine wpList_app1' rfl (.tmp 26) (.tmp 31) rfl wr B u1 l1 _ _ rfl HO.out rfl (by omega) (Nat.le_trans hB HT.out.size) ?_; intro v1 w1' hv1 ht1 hat1))
      go_roundw
      case rel =>
        refine ⟨(ht1.heap HBx.out (fun hg => HO.out.ne_box HBx.out (by decide) (by simpa using hg))), z, l1 ++ [((a : Int) * 256) + (c : Int)], rfl, by omega, by exact hv1, ?_, HT.out.trans ht1 (fun g hg => HFo.out g (by simpa using hg)), ?_⟩
        · rw [← HE.out, HS.out]; simp
        · intro g hg
          rcases hat1 with e1 | ⟨g', e1, hge⟩
          · exact HFo.out g (e1 ▸ hg)
          · rw [e1] at hg
            injection hg with hg
            subst hg
            exact .inr (Nat.le_trans HT.out.size hge)
      case measure => simp [intOf]; omega
end Go.Proofs.YtbocejiclellfaaGreatDoor

/- Stage 1's text List: what stage 8 wants of it (printed by conv1.py). -/
set_option linter.unusedSimpArgs false
set_option linter.unusedVariables false
set_option maxRecDepth 100000
namespace Go.Proofs.YtbocejiclellfaaGreatDoor
open Go.RowKit

/-- All numbers of the rows, rising. -/
def nums (rs : List Row) : List Int := rs.flatMap Row.nums
theorem Row.nums_length (r : Row) : r.nums.length = r.count := by
  simp only [Row.nums, Row.count, wordNums, List.length_append, List.length_map, pop_bits]
theorem nums_length (rs : List Row) : (nums rs).length = total rs := by
  induction rs with
  | nil => rfl
  | cons r t ih =>
    simp only [nums, total, List.flatMap_cons, List.length_append, List.map_cons, List.sum_cons, Row.nums_length] at *
    omega
theorem nums_snoc {rs : List Row} {k : Nat} {r : Row} (h : rs[k]? = some r) : nums (rs.take (k + 1)) = nums (rs.take k) ++ r.nums := by
  rw [take_snoc h]; simp [nums]
theorem appendTo_any (r : Row) (B : Nat) (v : Value) (l : List Int) (w : World) (hr : r.Fits) (hv : OwnI w B v l) (hB : B ≤ w.heap.size) (hB0 : 0 < B) (hl : l.length ≤ 1100000) (hT : Tab w) :
    Calls Tryz.prog 91 #[r.val, v] w fun e w' => ∃ v', e = .returned v' ∧ OwnI w' B v' (l ++ r.nums) ∧ Turn v.ownBlock.toList w w' ∧ (∀ g, v'.ownBlock = some g → g ∈ v.ownBlock.toList ∨ w.heap.size ≤ g) :=
  appendTo_walk r.at_ r.w0 r.w1 r.w2 r.w3 B v l w hr.a hr.b0 hr.b1 hr.b2 hr.b3 hv hB hB0 hl hT
theorem total_take_le (rs : List Row) (k : Nat) : total (rs.take k) ≤ k * 256 := by
  have h1 := total_le (rs.take k)
  exact Nat.le_trans h1 (Nat.mul_le_mul_right _ (List.length_take_le _ _))
theorem Tab.pos {w : World} (h : Tab w) : 0 < w.heap.size := World.block_lt_of_cell? w ⟨0, 0, none⟩ (h 0 (by decide))
set_option maxHeartbeats 2000000 in
theorem list_any (p v : Value) (rs : List Row) (w : World) (h : SetV w p v rs) (hT : Tab w) : Calls Tryz.prog 82 #[p] w (OwnedPost w w.heap.size (nums rs)) := by
  obtain ⟨A, c, rfl, hrow, hc⟩ := h.form
  have hok := h.ok
  have hlen := hok.len
  have htot := hok.total
  have H := Lib.hid h
  have HR := Lib.hid hrow
  have HO := Lib.hid hok
  have HTab := Lib.hid hT
  have hpos := hT.pos
  clear h hrow hok hT
  generalize hm : total rs = m at *
  have HM := Lib.hid hm
  clear hm
  generalize hn : rs.length = n at *
  have HN := Lib.hid hn
  clear hn
  obtain ⟨i0, hi0, hz0, hz1, hz2⟩ := info_parts int_info
  go_enter Tryz.func82, Tryz.ntmps82
  go_wp2_with (first
    | (go_at_call 89; refine (len_any p _ rs _ H.out).mono ?_; rw [HM.out]; rintro e w' ⟨rfl, rfl⟩)
    | (at_make; (refine wpList_make_own w rfl (.const (.int .i64 0)) (.tmp 7) 63 rfl w.heap.size 3 i0 _ 1 Tryz.underlying63 hi0 hz0 hz1 .i64 .i64 _ m rfl rfl rfl (by rw [hz2]; omega) (by simp only [maxLen]; omega) (Nat.le_refl _) ?_); intro w1 hw1 hg1; have HW1 := Lib.hid hw1; have HG1 := Lib.hid ((Turn.refl [] w).grown hg1 (by simp)); clear hw1 hg1)
    | (go_at_call 90; refine (all_any p _ rs _ (H.out.turn' HG1.out)).mono ?_; rintro e w' ⟨rfl, rfl⟩))
  go_loopw [3, 12] (fun o i wr => ∃ k : Nat, k ≤ n ∧ i = .int .i64 k ∧ OwnI wr w.heap.size o (nums (rs.take k)) ∧ Turn [] w wr) (fun _ i _ => n - (intOf i).toNat)
  case atStart => exact ⟨0, Nat.zero_le _, rfl, HW1.out, HG1.out⟩
  case round =>
    obtain ⟨k, hk, rfl, ho, ht⟩ := hrel
    have HOw := Lib.hid ho
    have HT := Lib.hid ht
    clear ho ht
    by_cases hlt : k < n
    · obtain ⟨r, hr⟩ := at_lt (show k < rs.length by have := HN.out; omega)
      obtain ⟨g, rfl, hg, c0, c1, c2, c3, c4⟩ := (HR.out.turn' HT.out) k r hr
      have hfit := HO.out.fits r (List.mem_of_getElem? hr)
      have hs := nums_snoc hr
      have hle : (nums (rs.take k)).length ≤ 1100000 := by
        have h1 := nums_length (rs.take k)
        have h2 := total_take_le rs k
        omega
      have HS := Lib.hid hs
      have HRk := Lib.hid hr
      have HF := Lib.hid hfit
      clear hr hs hfit
      go_wp2_with (go_at_call 91; (refine (appendTo_any r w.heap.size u3 (nums (rs.take k)) _ HF.out (HOw.out.turn' (Turn.below (by go_grown))) (Nat.le_trans HT.out.size (by simp)) hpos hle (HTab.out.turn' (HT.out.trans' (Turn.below (by go_grown))))).mono ?_); rintro e w' ⟨v', rfl, ho1, ht1, hf1⟩)
      go_roundw
      case rel =>
        refine ⟨k + 1, by omega, by go_num, by rw [HS.out]; exact ho1, ?_⟩
        exact (HT.out.trans' (Turn.below (by go_grown))).trans ht1 (fun g hg => .inr (HOw.out.lt g (by simpa using hg)).1)
      case measure => simp [intOf]; omega
    · go_wp2
      go_ret
      refine ⟨u3, rfl, ?_, HT.out⟩
      have := HOw.out
      rw [List.take_of_length_le (by have := HN.out; omega)] at this
      exact this
end Go.Proofs.YtbocejiclellfaaGreatDoor

/- Stage 1's text Meet: what stage 8 wants of it (printed by conv1.py). -/
set_option linter.unusedSimpArgs false
set_option linter.unusedVariables false
set_option maxRecDepth 100000
namespace Go.Proofs.YtbocejiclellfaaGreatDoor
open Go.RowKit

/-- The five cells of a row that lies in a block of its own. -/
def Box (w : World) (b a w0 w1 w2 w3 : Nat) : Prop := w.cell? ⟨b, 0, none⟩ = some (.int .i64 a) ∧ w.cell? ⟨b, 1, none⟩ = some (.int .u64 w0) ∧ w.cell? ⟨b, 2, none⟩ = some (.int .u64 w1) ∧ w.cell? ⟨b, 3, none⟩ = some (.int .u64 w2) ∧ w.cell? ⟨b, 4, none⟩ = some (.int .u64 w3)
theorem Box.turn {F : List Nat} {w w' : World} {b a w0 w1 w2 w3 : Nat} (h : Box w b a w0 w1 w2 w3) (t : Turn F w w') (hb : b ∉ F) : Box w' b a w0 w1 w2 w3 := by
  have hl : b < w.heap.size := World.block_lt_of_cell? w ⟨b, 0, none⟩ h.1
  have k := fun o => t.cell (p := ⟨b, o, none⟩) hl hb
  exact ⟨(k 0).trans h.1, (k 1).trans h.2.1, (k 2).trans h.2.2.1, (k 3).trans h.2.2.2.1, (k 4).trans h.2.2.2.2⟩
end Go.Proofs.YtbocejiclellfaaGreatDoor

/- Stage 1's text Ins: what stage 8 wants of it (printed by conv1.py). -/
set_option linter.unusedSimpArgs false
set_option linter.unusedVariables false
set_option maxRecDepth 100000
namespace Go.Proofs.YtbocejiclellfaaGreatDoor
open Go.RowKit Go.Lib

theorem row_info : (Tryz.prog.info? 139).map (fun i => (i.zero, i.size, i.bytes)) = some (some (.agg #[.int .i64 0, .int .u64 0, .int .u64 0, .int .u64 0, .int .u64 0]), 5, 40) := by kernel_rfl
theorem Row.cells_one (r : Row) : ∀ u ∈ r.cells, u.oneCell' = true := by
  intro u hu
  simp only [Row.cells, List.mem_cons, List.not_mem_nil, or_false] at hu
  rcases hu with rfl | rfl | rfl | rfl | rfl <;> rfl
theorem flat_one (rs : List Row) : ∀ u ∈ rs.flatMap Row.cells, u.oneCell' = true := by
  intro u hu
  obtain ⟨r, _, h⟩ := List.mem_flatMap.1 hu
  exact r.cells_one u h
theorem flat_append (rs ss : List Row) : (rs ++ ss).flatMap Row.cells = rs.flatMap Row.cells ++ ss.flatMap Row.cells := List.flatMap_append
theorem flat_take (rs : List Row) (k : Nat) : (rs.take k).flatMap Row.cells = (rs.flatMap Row.cells).take (k * 5) := by
  induction rs generalizing k with
  | nil => simp
  | cons r t ih =>
    cases k with
    | zero => simp
    | succ k =>
      rw [List.take_succ_cons, flat_cons, flat_cons, ih, show (k + 1) * 5 = k * 5 + 5 by omega]
      simp only [List.take_succ_cons]
theorem flat_drop (rs : List Row) (k : Nat) : (rs.drop k).flatMap Row.cells = (rs.flatMap Row.cells).drop (k * 5) := by
  induction rs generalizing k with
  | nil => simp
  | cons r t ih =>
    cases k with
    | zero => simp
    | succ k =>
      rw [List.drop_succ_cons, flat_cons, ih, show (k + 1) * 5 = k * 5 + 5 by omega]
      simp only [List.drop_succ_cons]
/-- What Insert answers of one row. -/
def insR (rs : List Row) (i : Nat) (r : Row) : List Row := rs.take i ++ r :: rs.drop i
def InsPost (v : Value) (rs : List Row) (w : World) (e : Ending) (w' : World) : Prop :=
  ∃ v', e = .returned v' ∧ OwnR w' 0 v' rs ∧ Turn v.ownBlock.toList w w' ∧ (v'.ownBlock = v.ownBlock ∨ ∃ g, v'.ownBlock = some g ∧ w.heap.size ≤ g)
theorem block_cells {w : World} {b : Nat} {r : Row} (h : w.heap[b]? = some (.cells r.cells.toArray 139 (0, 0))) : ∀ j u, r.cells[j]? = some u → w.cell? ((⟨b, 0, none⟩ : Addr).add j) = some u := by
  intro j u hj
  rw [Addr.add_lit, Nat.zero_add, cell_of_row w b j _ 139 (0, 0) h]
  simpa using hj
set_option maxHeartbeats 1000000 in
theorem insert_end (v : Value) (rs : List Row) (r : Row) (vb vc : Nat) (w : World) (h : OwnR w 0 v rs) (hl : rs.length ≤ 100000) (hb : w.heap[vb]? = some (.cells r.cells.toArray 139 (0, 0))) :
    Calls Tryz.prog 86 #[v, .int .i64 rs.length, .slice (some ⟨vb, 0, none⟩) 1 vc] w (InsPost v (rs ++ [r]) w) := by
  obtain ⟨A, c, rfl, hrow, hc⟩ := h.form
  have H := Lib.hid h
  have HB := Lib.hid hb
  obtain ⟨i0, hi0, hz0, hz1, hz2⟩ := info_parts row_info
  have hnews := block_cells hb
  have HNw := Lib.hid hnews
  clear h hb hrow hnews
  generalize hn : rs.length = n at *
  have HN := Lib.hid hn
  clear hn
  by_cases hcn : c = n
  all_goals
    go_enter Tryz.func86, Tryz.ntmps86
    go_wp2_with (at_builtin; refine wpList_append_own_at w rfl (.tmp 23) (.tmp 24) 131 rfl 0 139 i0 _ 5 40 Tryz.underlying131 hi0 hz0 hz1 hz2 rfl (by omega) (.slice A n c) n (rs.flatMap Row.cells) rfl (by rw [← HN.out]; have := H.out; rw [← HN.out] at this; exact this) ⟨vb, 0, none⟩ 1 vc r.cells rfl rfl HNw.out r.cells_one (by simp only [maxLen]; omega) (by omega) (Nat.zero_le _) ?_; intro v' w' h1 h2 _ h4)
    go_ret
    refine ⟨v', rfl, ?_, (Turn.refl _ _).grown h2 (fun k hk => .inl (by simp [hk])), ?_⟩
    · unfold OwnR
      rw [List.length_append, flat_append, HN.out]
      simpa [List.flatMap_cons] using h1
    · rcases h4 with h4 | h4
      · exact .inl h4
      · exact .inr ⟨_, h4, Nat.le_refl _⟩
end Go.Proofs.YtbocejiclellfaaGreatDoor

/- Stage 1's text Ins2: what stage 8 wants of it (printed by conv1.py). -/
set_option linter.unusedSimpArgs false
set_option linter.unusedVariables false
set_option maxRecDepth 100000
namespace Go.Proofs.YtbocejiclellfaaGreatDoor
open Go.RowKit Go.Lib

/-- copy between slices of rows: the block behind it. -/
theorem run_copy5 (w : World) (ty : TypeId) (g o dLen dCap : Nat) (a : Addr) (sLen sCap k : Nat) (cur : List Value) (cs : List Value)
    (hg : w.heap[g]? = some (.cells cur.toArray 139 (0, 0))) (hk : k = Nat.min sLen dLen) (hn : cs.length = k * 5)
    (hsrc : ∀ j v, cs[j]? = some v → w.cell? (a.add j) = some v) (hfit : o + cs.length ≤ cur.length) (h1 : ∀ v ∈ cs, v.oneCell' = true) :
    (Builtin.copy_ #[131, 131] ty #[.slice (some ⟨g, o, none⟩) dLen dCap, .slice (some a) sLen sCap]).run Tryz.prog w = .ok (goInt k) (w.setRow g (splice cur o cs).toArray) := by
  have hl := run_loadCells_list (P := Tryz.prog) w a cs hsrc
  have hst := run_storeCells_at Tryz.prog g o 139 cs 0 cur.toArray w hg (by simpa using hfit) h1
  obtain ⟨i0, hi0, hz0, hz1, hz2⟩ := info_parts row_info
  simp [Builtin.copy_, run_underlying Tryz.underlying131, Builtin.lenOf, Builtin.firstCells, sizeOf, typeInfo, hi0, hz1, ← hk, ← hn, hl, hst, splice]
set_option maxHeartbeats 1000000 in
theorem insert_grow (g n c i vb vc : Nat) (rs : List Row) (r : Row) (w : World) (h : OwnR w 0 (.slice (some ⟨g, 0, none⟩) n c) rs) (hn : n = rs.length) (hl : n ≤ 100000) (hi : i < n) (hnc : n ≤ c) (hroom : c < n + 1)
    (hb : w.heap[vb]? = some (.cells r.cells.toArray 139 (0, 0))) :
    Calls Tryz.prog 86 #[.slice (some ⟨g, 0, none⟩) n c, .int .i64 i, .slice (some ⟨vb, 0, none⟩) 1 vc] w (InsPost (.slice (some ⟨g, 0, none⟩) n c) (insR rs i r) w) := by
  have hcn : c = n := by omega
  subst hcn
  have H := Lib.hid h
  have HB := Lib.hid hb
  have HN := Lib.hid hn
  obtain ⟨i0, hi0, hz0, hz1, hz2⟩ := info_parts row_info
  have hnews := block_cells hb
  have HNw := Lib.hid hnews
  clear h hb hnews hn hroom hnc
  have hz1' : ((i : Int) == (c : Int)) = false := by simp; omega
  have hci : ¬ (c = i) := by omega
  have hold : (Builtin.firstCells i0.size i (.slice (some ⟨g, 0, none⟩) i c)).run Tryz.prog w.drew = .ok ((rs.take i).flatMap Row.cells).toArray w.drew := by
    rw [hz1]
    refine run_firstCells_some w.drew 5 i ⟨g, 0, none⟩ i c _ (by rw [flat_length, List.length_take]; have := HN.out; omega) (fun j v hj => ?_)
    rw [Addr.add_lit, Nat.zero_add]
    rw [flat_take, List.getElem?_take] at hj
    split at hj
    · have hh := H.out
      have e := HN.out
      subst e
      exact (World.ownsRow.cellAt (cap := rs.length) hh j (by omega)).trans hj
    · cases hj
  obtain ⟨G, hG⟩ : ∃ G, G = grownCap w (c + 1) c 139 := ⟨_, rfl⟩
  obtain ⟨ROW, hROW⟩ : ∃ ROW : Array Value, ROW = ((rs.take i).flatMap Row.cells).toArray ++ Builtin.zeroCells (Value.agg #[.int .i64 0, .int .u64 0, .int .u64 0, .int .u64 0, .int .u64 0]).cells (c + 1 - i) ++ Builtin.zeroCells (Value.agg #[.int .i64 0, .int .u64 0, .int .u64 0, .int .u64 0, .int .u64 0]).cells (G - (c + 1)) := ⟨_, rfl⟩
  obtain ⟨W1, hW1⟩ : ∃ W1, W1 = w.drew.alloc (.cells ROW 139) := ⟨_, rfl⟩
  have hrz : ∀ ty, (Builtin.append_ #[131, 3] ty #[.slice (some ⟨g, 0, none⟩) i c, .int .i64 ((c : Int) + 1 - (i : Int))]).run Tryz.prog w = .ok (.slice (some ⟨w.heap.size, 0, none⟩) (c + 1) G) W1 := fun ty => by
    have h := Lib.run_append_grow_zeros w 131 3 ty 139 i0 _ .i64 .i64 Tryz.underlying131 Tryz.underlying3 hi0 hz0 (some ⟨g, 0, none⟩) i c _ hold (c + 1 - i) (by omega) (by omega) (by omega) (by omega) (by rw [hz2]; omega) (by rw [hz2, show i + (c + 1 - i) = c + 1 by omega]; exact growslice_fits (by omega) (by omega))
    rw [show i + (c + 1 - i) = c + 1 by omega] at h
    rw [show (c : Int) + 1 - (i : Int) = ((c + 1 - i : Nat) : Int) by omega, hW1, hROW, hG]
    exact h
  have hGc : c + 1 ≤ G := by rw [hG]; exact grownCap_ge w _ _ _
  have hGm : G ≤ 9223372036854775807 := by
    have := grownCap_le_maxLen w (c + 1) c 139 (by unfold maxLen; omega)
    rw [← hG] at this
    unfold maxLen at this
    omega
  have hfl : ((rs.take i).flatMap Row.cells).length = i * 5 := by rw [flat_length, List.length_take]; have := HN.out; omega
  have hRs : ROW.toList.length = G * 5 := by
    rw [hROW]
    simp only [Array.toList_append, List.length_append, hfl, Array.length_toList, size_zeroCells, Value.cells]
    simp
    omega
  have hRt : ROW.toList.take (i * 5) = (rs.take i).flatMap Row.cells := by
    rw [hROW]
    simp only [Array.toList_append, List.append_assoc]
    rw [List.take_append_of_le_length (by simp [hfl]), List.take_of_length_le (by simp [hfl])]
  have hblk : W1.heap[w.heap.size]? = some (.cells ROW.toList.toArray 139 (0, 0)) := by
    rw [hW1]
    exact heap_alloc_new w.drew _
  have hT1 : Turn [] w W1 := by rw [hW1]; exact ((Turn.refl [] w).drew).alloc _
  have hgl : g < w.heap.size := (H.out.lt g rfl).2
  have hvl : vb < w.heap.size := (Array.getElem?_eq_some_iff.1 HB.out).1
  obtain ⟨W2, hW2⟩ : ∃ W2, W2 = W1.setRow w.heap.size (splice ROW.toList (i * 5) r.cells).toArray := ⟨_, rfl⟩
  have hcpA : ∀ ty dc, (Builtin.copy_ #[131, 131] ty #[.slice (some ⟨w.heap.size, i * 5, none⟩) (c + 1 - i) dc, .slice (some ⟨vb, 0, none⟩) 1 vc]).run Tryz.prog W1 = .ok (goInt 1) W2 := fun ty dc => by
    rw [hW2]
    refine run_copy5 W1 ty w.heap.size (i * 5) (c + 1 - i) dc ⟨vb, 0, none⟩ 1 vc 1 ROW.toList r.cells hblk (by simp only [Nat.min_def]; split <;> omega) rfl (fun j u hj => ?_) (by rw [hRs]; simp [Row.cells]; omega) r.cells_one
    have hc := HNw.out j u hj
    rw [Addr.add_lit, Nat.zero_add] at hc ⊢
    exact (hT1.cell (p := ⟨vb, j, none⟩) hvl (by simp)).trans hc
  have hT2 : Turn [] w W2 := by
    rw [hW2]
    exact hT1.trans (G := [w.heap.size]) ⟨rfl, rfl, rfl, by simp [World.setRow], fun k hk hn => setRow_other W1 w.heap.size k _ (by simpa using hn)⟩ (fun g hg => .inr (by simp at hg; omega))
  have hcur2 : (splice ROW.toList (i * 5) r.cells).length = G * 5 := by rw [length_splice _ _ _ (by rw [hRs]; simp [Row.cells]; omega), hRs]
  have hblk2 : W2.heap[w.heap.size]? = some (.cells (splice ROW.toList (i * 5) r.cells).toArray 139 (0, 0)) := by
    rw [hW2]
    exact setRow_heap W1 w.heap.size _ _ 139 _ hblk
  obtain ⟨W3, hW3⟩ : ∃ W3, W3 = W2.drew.setRow w.heap.size (splice (splice ROW.toList (i * 5) r.cells) ((i + 1) * 5) ((rs.drop i).flatMap Row.cells)).toArray := ⟨_, rfl⟩
  have hdl : ((rs.drop i).flatMap Row.cells).length = (c - i) * 5 := by rw [flat_length, List.length_drop]; have := HN.out; omega
  have hcpB : ∀ ty dc sc, (Builtin.copy_ #[131, 131] ty #[.slice (some ⟨w.heap.size, (i + 1) * 5, none⟩) (c - i) dc, .slice (some ⟨g, i * 5, none⟩) (c - i) sc]).run Tryz.prog W2.drew = .ok (goInt (c - i : Nat)) W3 := fun ty dc sc => by
    rw [hW3]
    refine run_copy5 W2.drew ty w.heap.size ((i + 1) * 5) (c - i) dc ⟨g, i * 5, none⟩ (c - i) sc (c - i) _ _ hblk2 (by simp only [Nat.min_def]; split <;> omega) hdl (fun j u hj => ?_) (by rw [hcur2, hdl]; omega) (flat_one _)
    rw [flat_drop, List.getElem?_drop] at hj
    rw [Addr.add_lit]
    have hj' : i * 5 + j < c * 5 := by
      have h1 := (List.getElem?_eq_some_iff.1 hj).1
      rw [flat_length] at h1
      have := HN.out
      omega
    have hh := H.out
    have e := HN.out
    have hcl : w.cell? ⟨g, i * 5 + j, none⟩ = some u := by
      subst e
      exact (World.ownsRow.cellAt (cap := rs.length) hh (i * 5 + j) hj').trans hj
    exact (hT2.cell (p := ⟨g, i * 5 + j, none⟩) hgl (by simp)).trans hcl
  have HW3 := Lib.hid hW3
  have HT2 := Lib.hid hT2
  have Hcur2 := Lib.hid hcur2
  have Hblk2 := Lib.hid hblk2
  have Hdl := Lib.hid hdl
  clear hW3 hT2 hcur2 hblk2 hdl
  have HG := Lib.hid hG
  have HROW := Lib.hid hROW
  have HW1 := Lib.hid hW1
  have HW2 := Lib.hid hW2
  have HRt := Lib.hid hRt
  have HRs := Lib.hid hRs
  have Hblk := Lib.hid hblk
  have HT1 := Lib.hid hT1
  have Hrz := Lib.hid hrz
  have HcpA := Lib.hid hcpA
  have hGi : ¬ (G = i) := by omega
  have hGi1 : ¬ (G = i + 1) := by omega
  have hz2' : decide ((c : Int) < (c : Int) + 1) = true := by simp; omega
  clear hG hROW hW1 hW2 hRt hRs hblk hT1 hrz hfl hold
  go_enter Tryz.func86, Tryz.ntmps86
  go_wp2_with (first
    | (at_builtin; go_loud (refine Lib.wpList_append_run _ rfl (.tmp 34) (.tmp 39) 131 3 rfl _ _ rfl rfl _ _ (Hrz.out _) ?_)))
  have hw1 : IntKind.i64.wrap ((i : Int) + 1) = (i : Int) + 1 := by rw [IntKind.wrap_i64]; omega
  have hb1 : (0 : Int) ≤ (i : Int) + 1 := by omega
  have htn : ((i : Int) + 1).toNat = i + 1 := by omega
  have hb3 : (i : Int) ≤ (c : Int) := by omega
  have hb4 : (i : Int) + 1 ≤ (c : Int) + 1 := by omega
  go_region
  go_wp2
  go_ret
  have hW3 := HW3.out
  have hb := setRow_heap W2.drew w.heap.size _ (splice (splice ROW.toList (i * 5) r.cells) ((i + 1) * 5) ((rs.drop i).flatMap Row.cells)).toArray 139 _ Hblk2.out
  rw [← hW3] at hb
  have hT3 : Turn [] w W3 := by
    rw [hW3]
    exact (HT2.out.drew).trans (G := [w.heap.size]) ⟨rfl, rfl, rfl, by simp [World.setRow], fun k hk hn => setRow_other W2.drew w.heap.size k _ (by simpa using hn)⟩ (fun g hg => .inr (by simp at hg; omega))
  refine ⟨_, rfl, ?_, hT3.more (by simp), .inr ⟨w.heap.size, rfl, Nat.le_refl _⟩⟩
  have hlen : (insR rs i r).length = c + 1 := by
    have := HN.out
    simp only [insR, List.length_append, List.length_take, List.length_cons, List.length_drop]
    omega
  unfold OwnR
  rw [hlen]
  refine ⟨by rw [flat_length, hlen], .inr ⟨w.heap.size, G, _, rfl, Nat.zero_le _, hb, hGc, ?_, ?_, ?_⟩⟩
  · unfold maxLen; omega
  · rw [List.size_toArray, length_splice _ _ _ (by rw [Hcur2.out, Hdl.out]; omega), Hcur2.out]
  · have e1 : (splice ROW.toList (i * 5) r.cells).take ((i + 1) * 5) = (rs.take i).flatMap Row.cells ++ r.cells := by
      unfold splice
      have h5 : ((rs.take i).flatMap Row.cells ++ r.cells).length = (i + 1) * 5 := by
        rw [List.length_append, flat_length, List.length_take]
        have := HN.out
        simp [Row.cells]
        omega
      rw [HRt.out, ← List.append_assoc, List.take_append_of_le_length (by omega), List.take_of_length_le (by omega)]
    rw [List.toList_toArray]
    have e2 : splice (splice ROW.toList (i * 5) r.cells) ((i + 1) * 5) ((rs.drop i).flatMap Row.cells) = (insR rs i r).flatMap Row.cells ++ (splice ROW.toList (i * 5) r.cells).drop ((i + 1) * 5 + ((rs.drop i).flatMap Row.cells).length) := by
      rw [splice, e1, insR, flat_append, List.flatMap_cons]
      simp only [List.append_assoc]
    rw [e2, List.take_append_of_le_length (by rw [flat_length, hlen]; omega), List.take_of_length_le (by rw [flat_length, hlen]; omega)]
end Go.Proofs.YtbocejiclellfaaGreatDoor

/- Stage 1's text Ins3: what stage 8 wants of it (printed by conv1.py). -/
set_option linter.unusedSimpArgs false
set_option linter.unusedVariables false
set_option maxRecDepth 100000
namespace Go.Proofs.YtbocejiclellfaaGreatDoor
open Go.RowKit Go.Lib

theorem turn_setRow {F : List Nat} {w0 w : World} {g : Nat} (h : Turn F w0 w) (hg : g ∈ F ∨ w0.heap.size ≤ g) (cs : Array Value) : Turn F w0 (w.setRow g cs) :=
  h.trans (G := [g]) ⟨rfl, rfl, rfl, by simp [World.setRow], fun k hk hn => setRow_other w g k _ (by simpa using hn)⟩ (fun g' hg' => by
    have : g' = g := by simpa using hg'
    subst this
    exact hg)
set_option maxHeartbeats 1000000 in
theorem insert_room (g n c i vb vc : Nat) (rs : List Row) (r : Row) (w : World) (h : OwnR w 0 (.slice (some ⟨g, 0, none⟩) n c) rs) (hn : n = rs.length) (hl : n ≤ 100000) (hi : i < n) (hroom : n + 1 ≤ c)
    (hb : w.heap[vb]? = some (.cells r.cells.toArray 139 (0, 0))) (hvg : vb ≠ g) :
    Calls Tryz.prog 86 #[.slice (some ⟨g, 0, none⟩) n c, .int .i64 i, .slice (some ⟨vb, 0, none⟩) 1 vc] w (InsPost (.slice (some ⟨g, 0, none⟩) n c) (insR rs i r) w) := by
  subst hn
  generalize hn : rs.length = n at *
  obtain ⟨cur, hg, hcm, hcs, htake⟩ : ∃ cur : Array Value, w.heap[g]? = some (.cells cur 139 (0, 0)) ∧ c ≤ maxLen ∧ cur.size = c * 5 ∧ cur.toList.take (n * 5) = rs.flatMap Row.cells := by
    have h' := h
    unfold OwnR at h'
    rw [hn] at h'
    rcases h'.2 with ⟨h1, _⟩ | ⟨g', cap', cur, h1, _, hg, _, hcm, hcs, ht⟩
    · cases h1
    · simp only [Value.slice.injEq, Option.some.injEq, Addr.mk.injEq, and_true, true_and] at h1
      obtain ⟨rfl, rfl⟩ := h1
      exact ⟨cur, hg, hcm, hcs, ht⟩
  have HB := Lib.hid hb
  have HN := Lib.hid hn
  have hnews := block_cells hb
  have hc63 : c ≤ 9223372036854775807 := by unfold maxLen at hcm; omega
  have hcl : cur.toList.length = c * 5 := by simpa using hcs
  have hg' : w.heap[g]? = some (.cells cur.toList.toArray 139 (0, 0)) := by simpa using hg
  have hov : ∀ lb cb, (callFunc 95 #[.slice (some ⟨vb, 0, none⟩) 1 vc, .slice (some ⟨g, (i + 1) * 5, none⟩) lb cb]).run Tryz.prog w = .ok (.value (.bool false)) w := fun lb cb => by
    rw [run_callFunc_extern Tryz.func95 (by kernel_rfl) (by kernel_rfl) (by kernel_rfl) (e := Extern.SlicesOverlaps.overlaps #[131, 131] #[4]) (by kernel_rfl),
      Lib.run_overlaps_apart w 131 4 139 Tryz.underlying131 5 Tryz.sizeOf139 ⟨vb, 0, none⟩ ⟨g, (i + 1) * 5, none⟩ 1 vc lb cb hvg 139 139 5 (c * 5) (by simp [World.shape?, hb, Row.cells]) (by simp [World.shape?, hg, hcs]) (by omega)
        (frozen_of_row w vb 0 _ 139 hb) (frozen_of_row w vb 5 _ 139 hb)]
    rfl
  have hdl : ((rs.drop i).flatMap Row.cells).length = (n - i) * 5 := by rw [flat_length, List.length_drop, hn]
  obtain ⟨W1, hW1⟩ : ∃ W1, W1 = w.drew.setRow g (splice cur.toList ((i + 1) * 5) ((rs.drop i).flatMap Row.cells)).toArray := ⟨_, rfl⟩
  have hcp1 : ∀ ty dc sc, (Builtin.copy_ #[131, 131] ty #[.slice (some ⟨g, (i + 1) * 5, none⟩) (n - i) dc, .slice (some ⟨g, i * 5, none⟩) (n + 1 - i) sc]).run Tryz.prog w.drew = .ok (goInt (n - i : Nat)) W1 := fun ty dc sc => by
    rw [hW1]
    refine run_copy5 w.drew ty g ((i + 1) * 5) (n - i) dc ⟨g, i * 5, none⟩ (n + 1 - i) sc (n - i) _ _ hg' (by simp only [Nat.min_def]; split <;> omega) hdl (fun j u hj => ?_) (by rw [hcl, hdl]; omega) (flat_one _)
    rw [flat_drop, List.getElem?_drop] at hj
    rw [Addr.add_lit]
    have hj' : i * 5 + j < n * 5 := by
      have h1 := (List.getElem?_eq_some_iff.1 hj).1
      rw [flat_length] at h1
      omega
    refine (cell_of_row w g (i * 5 + j) cur 139 (0, 0) hg).trans ?_
    rw [← htake, List.getElem?_take, if_pos hj'] at hj
    simpa using hj
  have hT1 : Turn [g] w W1 := by rw [hW1]; exact turn_setRow ((Turn.refl [g] w).drew) (.inl (by simp)) _
  have hblk1 : W1.heap[g]? = some (.cells (splice cur.toList ((i + 1) * 5) ((rs.drop i).flatMap Row.cells)).toArray 139 (0, 0)) := by
    rw [hW1]
    exact setRow_heap w.drew g _ _ 139 _ hg'
  have hcl1 : (splice cur.toList ((i + 1) * 5) ((rs.drop i).flatMap Row.cells)).length = c * 5 := by rw [length_splice _ _ _ (by rw [hcl, hdl]; omega), hcl]
  have hvl : vb < w.heap.size := (Array.getElem?_eq_some_iff.1 hb).1
  obtain ⟨W2, hW2⟩ : ∃ W2, W2 = W1.setRow g (splice (splice cur.toList ((i + 1) * 5) ((rs.drop i).flatMap Row.cells)) (i * 5) r.cells).toArray := ⟨_, rfl⟩
  have hcp2 : ∀ ty dc, (Builtin.copy_ #[131, 131] ty #[.slice (some ⟨g, i * 5, none⟩) (n + 1 - i) dc, .slice (some ⟨vb, 0, none⟩) 1 vc]).run Tryz.prog W1 = .ok (goInt 1) W2 := fun ty dc => by
    rw [hW2]
    refine run_copy5 W1 ty g (i * 5) (n + 1 - i) dc ⟨vb, 0, none⟩ 1 vc 1 _ r.cells hblk1 (by simp only [Nat.min_def]; split <;> omega) rfl (fun j u hj => ?_) (by rw [hcl1]; simp [Row.cells]; omega) r.cells_one
    have hc := hnews j u hj
    rw [Addr.add_lit, Nat.zero_add] at hc ⊢
    exact (hT1.cell (p := ⟨vb, j, none⟩) hvl (by simpa using hvg)).trans hc
  have hT2 : Turn [g] w W2 := by rw [hW2]; exact turn_setRow hT1 (.inl (by simp)) _
  have hblk2 : W2.heap[g]? = some (.cells (splice (splice cur.toList ((i + 1) * 5) ((rs.drop i).flatMap Row.cells)) (i * 5) r.cells).toArray 139 (0, 0)) := by
    rw [hW2]
    exact setRow_heap W1 g _ _ 139 _ hblk1
  have hcl2 : (splice (splice cur.toList ((i + 1) * 5) ((rs.drop i).flatMap Row.cells)) (i * 5) r.cells).length = c * 5 := by rw [length_splice _ _ _ (by rw [hcl1]; simp [Row.cells]; omega), hcl1]
  have hlen : (insR rs i r).length = n + 1 := by
    simp only [insR, List.length_append, List.length_take, List.length_cons, List.length_drop, hn]
    omega
  have hfin : OwnR W2 0 (.slice (some ⟨g, 0, none⟩) (n + 1) c) (insR rs i r) := by
    unfold OwnR
    rw [hlen]
    refine ⟨by rw [flat_length, hlen], .inr ⟨g, c, _, rfl, Nat.zero_le _, hblk2, hroom, hcm, by rw [List.size_toArray, hcl2], ?_⟩⟩
    have ht1 : (splice cur.toList ((i + 1) * 5) ((rs.drop i).flatMap Row.cells)).take (i * 5) = (rs.take i).flatMap Row.cells := by
      unfold splice
      rw [List.take_append_of_le_length (by rw [List.length_take, hcl]; omega), List.take_take, Nat.min_eq_left (by omega), flat_take, ← htake, List.take_take, Nat.min_eq_left (by omega)]
    have ht2 : (splice cur.toList ((i + 1) * 5) ((rs.drop i).flatMap Row.cells)).drop (i * 5 + r.cells.length) = (rs.drop i).flatMap Row.cells ++ cur.toList.drop ((i + 1) * 5 + ((rs.drop i).flatMap Row.cells).length) := by
      unfold splice
      have h5 : r.cells.length = 5 := rfl
      rw [h5, show i * 5 + 5 = (cur.toList.take ((i + 1) * 5)).length by rw [List.length_take, hcl]; omega, List.drop_left]
    rw [List.toList_toArray]
    have e2 : splice (splice cur.toList ((i + 1) * 5) ((rs.drop i).flatMap Row.cells)) (i * 5) r.cells = (insR rs i r).flatMap Row.cells ++ cur.toList.drop ((i + 1) * 5 + ((rs.drop i).flatMap Row.cells).length) := by
      rw [splice, ht1, ht2, insR, flat_append, List.flatMap_cons]
      simp only [List.append_assoc]
    rw [e2, List.take_append_of_le_length (by rw [flat_length, hlen]; omega), List.take_of_length_le (by rw [flat_length, hlen]; omega)]
  have HFin := Lib.hid hfin
  have HT2 := Lib.hid hT2
  have hz1' : ((i : Int) == (n : Int)) = false := by simp; omega
  have hci : ¬ (c = i) := by omega
  have hci1 : ¬ (c = i + 1) := by omega
  have hz2' : decide ((c : Int) < (n : Int) + 1) = false := by simp; omega
  have hw1 : IntKind.i64.wrap ((i : Int) + 1) = (i : Int) + 1 := by rw [IntKind.wrap_i64]; omega
  have hb1 : (0 : Int) ≤ (i : Int) + 1 := by omega
  have htn : ((i : Int) + 1).toNat = i + 1 := by omega
  have hb3 : (i : Int) ≤ (n : Int) + 1 := by omega
  have hb4 : (i : Int) + 1 ≤ (n : Int) + 1 := by omega
  clear h hg hcm hcs htake hb hn hnews hcl hg' hdl hW1 hT1 hblk1 hcl1 hW2 hT2 hblk2 hcl2 hlen hfin
  go_enter Tryz.func86, Tryz.ntmps86
  go_wp2_with (simp only [hov])
  go_region
  go_wp2
  go_ret
  exact ⟨_, rfl, HFin.out, HT2.out, .inl rfl⟩
theorem insert_any (v : Value) (rs : List Row) (i : Nat) (r : Row) (vb vc : Nat) (w : World) (h : OwnR w 0 v rs) (hl : rs.length ≤ 100000) (hi : i ≤ rs.length) (hb : w.heap[vb]? = some (.cells r.cells.toArray 139 (0, 0))) (hv : v.ownBlock ≠ some vb) :
    Calls Tryz.prog 86 #[v, .int .i64 i, .slice (some ⟨vb, 0, none⟩) 1 vc] w (InsPost v (insR rs i r) w) := by
  by_cases e : i = rs.length
  · subst e
    have := insert_end v rs r vb vc w h hl hb
    simpa [insR] using this
  · have h2 := h.2
    rcases h2 with ⟨_, h0⟩ | ⟨g, cap, cur, rfl, _, _, hnc, _⟩
    · omega
    · by_cases hroom : rs.length + 1 ≤ cap
      · exact insert_room g _ cap i vb vc rs r w h rfl hl (by omega) hroom hb (fun e => hv (by rw [e]; rfl))
      · exact insert_grow g _ cap i vb vc rs r w h rfl hl (by omega) hnc (by omega) hb
end Go.Proofs.YtbocejiclellfaaGreatDoor

/- Stage 1's text Add: what stage 8 wants of it (printed by conv1.py). -/
set_option linter.unusedSimpArgs false
set_option linter.unusedVariables false
set_option maxRecDepth 100000
namespace Go.Proofs.YtbocejiclellfaaGreatDoor
open Go.RowKit

def Row.setWord (r : Row) (i x : Nat) : Row := match i with
  | 0 => { r with w0 := x }
  | 1 => { r with w1 := x }
  | 2 => { r with w2 := x }
  | _ => { r with w3 := x }
theorem flat_set1 {rs : List Row} {k : Nat} {r : Row} (h : rs[k]? = some r) (i x : Nat) (hi : i < 4) : (rs.flatMap Row.cells).set (k * 5 + 1 + i) (.int .u64 x) = (rs.set k (r.setWord i x)).flatMap Row.cells := by
  induction rs generalizing k with
  | nil => simp at h
  | cons s t ih =>
    cases k with
    | zero =>
      simp at h
      subst h
      rw [List.set_cons_zero, flat_cons, flat_cons]
      match i, hi with
      | 0, _ => rfl
      | 1, _ => rfl
      | 2, _ => rfl
      | 3, _ => rfl
    | succ k =>
      rw [List.set_cons_succ, flat_cons, flat_cons, ← ih (by simpa using h), show (k + 1) * 5 + 1 + i = (k * 5 + 1 + i) + 5 by omega]
      simp only [List.set_cons_succ]
theorem OwnR.word {w : World} {B g n cap : Nat} {rs : List Row} (h : OwnR w B (.slice (some ⟨g, 0, none⟩) n cap) rs) (hn : n = rs.length) {k : Nat} {r : Row} (hr : rs[k]? = some r) (i : Nat) (hi : i < 4) : w.cell? ⟨g, k * 5 + 1 + i, none⟩ = some (.int .u64 (r.word i)) := by
  obtain ⟨c0, c1, c2, c3, c4⟩ := h.cells hn hr
  match i, hi with
  | 0, _ => exact c1
  | 1, _ => exact c2
  | 2, _ => exact c3
  | 3, _ => exact c4
set_option maxHeartbeats 400000 in
theorem add_out (b : Nat) (n : Int) (w : World) (h : okB n = false) : Calls Tryz.prog 78 #[.pointer (some ⟨b, 0, none⟩), .int .i64 n] w fun e w' => e = .returned (.bool false) ∧ w = w' := by
  have H := Lib.hid h
  clear h
  go_enter Tryz.func78, Tryz.ntmps78
  go_wp2_with (go_at_call 83; refine (mayHold_any n _).mono ?_; rw [H.out]; rintro e w' ⟨rfl, rfl⟩)
  go_ret
  exact ⟨rfl, rfl⟩
set_option maxHeartbeats 400000 in
theorem add_has (b : Nat) (v : Value) (rs : List Row) (n : Nat) (w : World) (h : SetAt w b v rs) (hn : n < 1048576) (hh : hasN rs n = true) : Calls Tryz.prog 78 #[.pointer (some ⟨b, 0, none⟩), .int .i64 n] w fun e w' => e = .returned (.bool false) ∧ Turn [] w w' := by
  have hok : okB n = true := by simp [okB]; omega
  have HOk := Lib.hid hok
  have H := Lib.hid h
  have HH := Lib.hid hh
  clear h hok hh
  go_enter Tryz.func78, Tryz.ntmps78
  go_wp2_with (first
    | (go_at_call 83; refine (mayHold_any n _).mono ?_; rw [HOk.out]; rintro e w' ⟨rfl, rfl⟩)
    | (go_at_call 84; refine (has_in _ v rs n _ (.inr ⟨b, rfl, H.out⟩) hn).mono ?_; rw [HH.out]; rintro e w' ⟨rfl, ht⟩))
  go_ret
  exact ⟨rfl, ht⟩
/-- What has turned when a bit was laid into the row of its place, which was there, and counted. -/
def AddPost (b : Nat) (v : Value) (rs : List Row) (t i x : Nat) (w : World) (e : Ending) (w' : World) : Prop :=
  e = .returned (.bool true) ∧ ∃ k r v', Cut rs t k ∧ rs[k]? = some r ∧ r.at_ = t ∧ w'.heap[b]? = some (.cells #[v', .int .i64 ((total rs : Int) + 1)] 133 (0, 0)) ∧
    OwnR w' 0 v' (rs.set k (r.setWord i (r.word i ||| x))) ∧ Turn (b :: v.ownBlock.toList) w w' ∧ v' = v
theorem find_div (p v : Value) (rs : List Row) (n : Nat) (hn : n < 1048576) (W : World) (h : SetV W p v rs) : Calls Tryz.prog 85 #[p, .int .i64 ((n : Int) / 256)] W (FoundPost rs (n / 256) W) := by
  have := find_any p v rs (n / 256) W h (by omega)
  rwa [show (((n / 256 : Nat)) : Int) = (n : Int) / 256 by omega] at this
theorem word_lt {r : Row} (h : r.Fits) (i : Nat) : r.word i < 18446744073709551616 := by
  unfold Row.word
  split
  · exact h.b0
  · exact h.b1
  · exact h.b2
  · exact h.b3
/-- A bit laid into row k, and counted: what lies there then. -/
theorem add_tail (b g m c k i y : Nat) (tt : Int) (rs : List Row) (r : Row) (W : World) (hblk : W.heap[b]? = some (.cells #[.slice (some ⟨g, 0, none⟩) m c, .int .i64 tt] 133 (0, 0))) (hrow : OwnR W 0 (.slice (some ⟨g, 0, none⟩) m c) rs) (hm : m = rs.length) (hr : rs[k]? = some r) (hi : i < 4) (hgb : g ≠ b) :
    (((W.setCell ⟨g, k * 5 + 1 + i, none⟩ (.int .u64 y)).setCell ⟨b, 1, none⟩ (.int .i64 (tt + 1))).heap[b]? = some (.cells #[.slice (some ⟨g, 0, none⟩) m c, .int .i64 (tt + 1)] 133 (0, 0))) ∧
    OwnR ((W.setCell ⟨g, k * 5 + 1 + i, none⟩ (.int .u64 y)).setCell ⟨b, 1, none⟩ (.int .i64 (tt + 1))) 0 (.slice (some ⟨g, 0, none⟩) m c) (rs.set k (r.setWord i y)) ∧
    Turn [b, g] W ((W.setCell ⟨g, k * 5 + 1 + i, none⟩ (.int .u64 y)).setCell ⟨b, 1, none⟩ (.int .i64 (tt + 1))) := by
  subst hm
  obtain ⟨s1, t1⟩ := World.ownsRow.stored (cap := c) hrow (k * 5 + 1 + i) (.int .u64 (y : Int))
  rw [flat_set1 hr i y hi] at s1
  have hb1 : (W.setCell ⟨g, k * 5 + 1 + i, none⟩ (.int .u64 y)).heap[b]? = some (.cells #[.slice (some ⟨g, 0, none⟩) rs.length c, .int .i64 tt] 133 (0, 0)) :=
    (Below.heap_setCell W ⟨g, k * 5 + 1 + i, none⟩ _ b (fun e => hgb e.symm)).trans hblk
  refine ⟨heap_setCell_same _ b 1 _ 133 _ hb1, ?_, ?_⟩
  · have : OwnR (W.setCell ⟨g, k * 5 + 1 + i, none⟩ (.int .u64 y)) 0 (.slice (some ⟨g, 0, none⟩) rs.length c) (rs.set k (r.setWord i y)) := by
      unfold OwnR
      rw [List.length_set]
      exact s1
    exact this.turn ((Turn.refl [b] _).setCell (.inl (by simp)) _) (fun g' hg' => by
      simp [Value.ownBlock] at hg'
      subst hg'
      simpa using hgb)
  · exact ((Turn.refl [b, g] W).setCell (.inl (by simp)) _).setCell (.inl (by simp)) _
def BitAt (n i x : Nat) : Prop := ∀ W : World, Calls Tryz.prog 87 #[.int .i64 n] W fun e w' => e = .returned (.tuple #[.int .i64 i, .int .u64 x]) ∧ ∃ q, w' = W.drewN q
set_option maxHeartbeats 2000000 in
theorem add_found (b g m c : Nat) (rs : List Row) (n i x : Nat) (w : World) (h : SetAt w b (.slice (some ⟨g, 0, none⟩) m c) rs) (hn : n < 1048576) (hh : hasN rs n = false) (hm : m = rs.length)
    (hr : hasRow rs (n / 256) = true) (hi : i < 4) (hx : x < 18446744073709551616) (hbit : BitAt n i x) :
    Calls Tryz.prog 78 #[.pointer (some ⟨b, 0, none⟩), .int .i64 n] w (AddPost b (.slice (some ⟨g, 0, none⟩) m c) rs (n / 256) i x w) := by
  have hok : okB n = true := by simp [okB]; omega
  have HOk := Lib.hid hok
  have H := Lib.hid h
  have HH := Lib.hid hh
  have HM := Lib.hid hm
  have HR := Lib.hid hr
  have hml : m ≤ 4096 := by have := h.ok.len; omega
  clear h hok hh hm hr
  go_enter Tryz.func78, Tryz.ntmps78
  go_wp2_with (first
    | (go_at_call 83; refine (mayHold_any n _).mono ?_; rw [HOk.out]; rintro e w' ⟨rfl, rfl⟩)
    | (go_at_call 84; refine (has_in _ _ rs n _ (.inr ⟨b, rfl, H.out⟩) hn).mono ?_; rw [HH.out]; rintro e w1 ⟨rfl, ht1⟩; have HT1 := Lib.hid ht1; clear ht1)
    | fail)
  go_wp2_with fail
  refine (find_div _ _ rs n hn _ (.inr ⟨b, rfl, H.out.turn' HT1.out⟩)).mono ?_
  rintro e w2 ⟨k, hk, rfl, ht2⟩
  have HT2 := Lib.hid (HT1.out.trans' ht2)
  have hhit : hit rs (n / 256) k = true := (hit_eq hk H.out.ok.asc).trans HR.out
  obtain ⟨r, hrk, hra⟩ := hit_true hhit
  have hrow : OwnR w2 0 (.slice (some ⟨g, 0, none⟩) m c) rs := H.out.rows.turn' HT2.out
  have hword := hrow.word HM.out hrk i hi
  have hfro := hrow.frozen HM.out (k * 5 + 1 + i)
  have hset := H.out.turn' HT2.out
  have hc0 : w2.cell? ⟨b, 0, none⟩ = some (.slice (some ⟨g, 0, none⟩) m c) := cell_of_row w2 b 0 _ 133 (0, 0) hset.blk
  have hc1 : w2.cell? ⟨b, 1, none⟩ = some (.int .i64 (total rs)) := cell_of_row w2 b 1 _ 133 (0, 0) hset.blk
  have hf1 : w2.frozen? ⟨b, 1, none⟩ = false := frozen_of_row w2 b 1 _ 133 hset.blk
  have hgb : g ≠ b := fun e => hset.ne (by rw [e]; rfl)
  have hkm : k < m := by have := (List.getElem?_eq_some_iff.1 hrk).1; have := HM.out; omega
  have htot := H.out.ok.total
  have hor : bits BinOp.or IntKind.u64 ((r.word i : Nat) : Int) (x : Int) = ((r.word i ||| x : Nat) : Int) := u64_or_nat _ _ (word_lt (H.out.ok.fits r (List.mem_of_getElem? hrk)) i) hx
  generalize hwv : r.word i = wv at *
  generalize hy : wv ||| x = y at *
  have HK := Lib.hid hk
  have HRk := Lib.hid hrk
  have HRa := Lib.hid hra
  have HRow := Lib.hid hrow
  have HSet := Lib.hid hset
  have HHit := Lib.hid hhit
  have HWv := Lib.hid hwv
  have HY := Lib.hid hy
  generalize htt : total rs = tt at *
  have HTt := Lib.hid htt
  have hbit' := hbit
  have HBit := Lib.hid hbit
  rw [hhit]
  clear hk hrk hra hrow hset hhit hwv hy ht2 htt hbit hbit'
  go_wp2_with (go_at_call 87; refine (HBit.out _).mono ?_; rintro e w' ⟨rfl, q, rfl⟩)
  have hki : (k : Int) < (m : Int) := by omega
  have hii : (i : Int) < 4 := by omega
  go_region
  go_wp2
  go_ret
  obtain ⟨e1, e2, e3⟩ := add_tail b g m c k i y tt rs r (w2.drewN (q + 1)) (by have := HSet.out.blk; rw [HTt.out] at this; exact this) HRow.out HM.out HRk.out hi hgb
  refine ⟨rfl, k, r, _, HK.out, HRk.out, HRa.out, by rw [HTt.out]; exact e1, by rw [HWv.out, HY.out]; exact e2, ?_, rfl⟩
  exact ((HT2.out.drewN _).more (G := [b, g]) (by simp)).trans e3 (by simp)
end Go.Proofs.YtbocejiclellfaaGreatDoor

/- Stage 1's text Add2: what stage 8 wants of it (printed by conv1.py). -/
set_option linter.unusedSimpArgs false
set_option linter.unusedVariables false
set_option maxRecDepth 100000
namespace Go.Proofs.YtbocejiclellfaaGreatDoor
open Go.RowKit

def newRow (t : Nat) : Row := ⟨t, 0, 0, 0, 0⟩
theorem insR_at (rs : List Row) (k : Nat) (r : Row) (h : k ≤ rs.length) : (insR rs k r)[k]? = some r := by
  unfold insR
  rw [List.getElem?_append_right (by rw [List.length_take]; omega), List.length_take, Nat.min_eq_left h]
  simp
theorem insR_length (rs : List Row) (k : Nat) (r : Row) (h : k ≤ rs.length) : (insR rs k r).length = rs.length + 1 := by
  simp only [insR, List.length_append, List.length_take, List.length_cons, List.length_drop]
  omega
theorem newRow_word (t i : Nat) : (newRow t).word i = 0 := by
  unfold newRow Row.word
  split <;> rfl
/-- What has turned when a new row was laid, its bit set, and counted. -/
def AddPost2 (b : Nat) (v : Value) (rs : List Row) (t i x : Nat) (w : World) (e : Ending) (w' : World) : Prop :=
  e = .returned (.bool true) ∧ ∃ k v', Cut rs t k ∧ w'.heap[b]? = some (.cells #[v', .int .i64 ((total rs : Int) + 1)] 133 (0, 0)) ∧
    OwnR w' 0 v' ((insR rs k (newRow t)).set k ((newRow t).setWord i x)) ∧ Turn (b :: v.ownBlock.toList) w w' ∧ (v'.ownBlock = v.ownBlock ∨ ∃ g, v'.ownBlock = some g ∧ w.heap.size ≤ g)
set_option maxHeartbeats 2000000 in
theorem add_new (b : Nat) (A : Option Addr) (m c : Nat) (rs : List Row) (n i x : Nat) (w : World) (h : SetAt w b (.slice A m c) rs) (hn : n < 1048576) (hh : hasN rs n = false) (hm : m = rs.length)
    (hr : hasRow rs (n / 256) = false) (hi : i < 4) (hx : x < 18446744073709551616) (hbit : BitAt n i x) :
    Calls Tryz.prog 78 #[.pointer (some ⟨b, 0, none⟩), .int .i64 n] w (AddPost2 b (.slice A m c) rs (n / 256) i x w) := by
  have hok : okB n = true := by simp [okB]; omega
  have HOk := Lib.hid hok
  have H := Lib.hid h
  have HH := Lib.hid hh
  have HM := Lib.hid hm
  have HR := Lib.hid hr
  have hml : m ≤ 4096 := by have := h.ok.len; omega
  clear h hok hh hm hr
  go_enter Tryz.func78, Tryz.ntmps78
  go_wp2_with (first
    | (go_at_call 83; refine (mayHold_any n _).mono ?_; rw [HOk.out]; rintro e w' ⟨rfl, rfl⟩)
    | (go_at_call 84; refine (has_in _ _ rs n _ (.inr ⟨b, rfl, H.out⟩) hn).mono ?_; rw [HH.out]; rintro e w1 ⟨rfl, ht1⟩; have HT1 := Lib.hid ht1; clear ht1)
    | fail)
  go_wp2_with fail
  refine (find_div _ _ rs n hn _ (.inr ⟨b, rfl, H.out.turn' HT1.out⟩)).mono ?_
  rintro e w2 ⟨k, hk, rfl, ht2⟩
  have HT2 := Lib.hid (HT1.out.trans' ht2)
  have hhit : hit rs (n / 256) k = false := (hit_eq hk H.out.ok.asc).trans HR.out
  have hset := H.out.turn' HT2.out
  have hc0 : w2.cell? ⟨b, 0, none⟩ = some (.slice A m c) := cell_of_row w2 b 0 _ 133 (0, 0) hset.blk
  have hkl := hk.le
  have HK := Lib.hid hk
  have HSet := Lib.hid hset
  have htot := H.out.ok.total
  rw [hhit]
  have HHit := Lib.hid hhit
  have HBit := Lib.hid hbit
  clear hk hset hhit ht2 hbit
  go_wp2_with fail
  refine (insert_any (.slice A m c) rs k (newRow (n / 256)) w2.heap.size 1 _ (HSet.out.rows.turn' ((Turn.refl _ _).alloc _)) (by have := HM.out; omega) hkl ?_ ?_).mono ?_
  · refine (heap_alloc_new w2 _).trans ?_
    simp [newRow, Row.cells]
  · intro e
    have := (HSet.out.rows.lt _ e).2
    omega
  rintro e w3 ⟨v3, rfl, hown3, ht3, hat3⟩
  obtain ⟨A3, c3, hv3, _, hc3⟩ := hown3.form
  have hl3 := insR_length rs k (newRow (n / 256)) hkl
  have hat := insR_at rs k (newRow (n / 256)) hkl
  obtain ⟨g3, hg3⟩ : ∃ g3, v3 = .slice (some ⟨g3, 0, none⟩) (m + 1) c3 := by
    rcases hown3.2 with ⟨_, h0⟩ | ⟨g, cap, cur, h1, _⟩
    · omega
    · have := HM.out
      rw [h1] at hv3
      injection hv3 with e1 e2 e3
      exact ⟨g, by rw [h1, e3, hl3, this]⟩
  have hT3 : Turn (Value.slice A m c).ownBlock.toList w w3 := (HT2.out.more (by simp)).trans (((Turn.refl (Value.slice A m c).ownBlock.toList w2).alloc _).trans ht3 (fun g hg => .inl hg)) (fun g hg => .inl hg)
  have hb3 : w3.heap[b]? = some (.cells #[.slice A m c, .int .i64 (total rs)] 133 (0, 0)) := by
    refine ht3.heap ?_ (fun hg => HSet.out.ne (by simpa using hg))
    exact (Below.heap_alloc w2 _ b HSet.out.lt).trans HSet.out.blk
  have hgb : g3 ≠ b := by
    rintro rfl
    rcases hown3.2 with ⟨_, h0⟩ | ⟨g, cap, cur, h1, _, hg, _⟩
    · omega
    · rw [hg3] at h1
      injection h1 with e1
      injection e1 with e1
      injection e1 with e1
      subst e1
      rw [hb3] at hg
      simp at hg
  subst hg3
  have d0 : w3.cell? ⟨b, 0, none⟩ = some (.slice A m c) := cell_of_row w3 b 0 _ 133 (0, 0) hb3
  have d1 : w3.cell? ⟨b, 1, none⟩ = some (.int .i64 (total rs)) := cell_of_row w3 b 1 _ 133 (0, 0) hb3
  have f0 : w3.frozen? ⟨b, 0, none⟩ = false := frozen_of_row w3 b 0 _ 133 hb3
  have f1 : w3.frozen? ⟨b, 1, none⟩ = false := frozen_of_row w3 b 1 _ 133 hb3
  have hlen3 : m + 1 = (insR rs k (newRow (n / 256))).length := by have := HM.out; omega
  have hword := hown3.word hlen3 hat i hi
  rw [newRow_word] at hword
  have hfro := hown3.frozen hlen3 (k * 5 + 1 + i)
  have hor : bits BinOp.or IntKind.u64 ((0 : Nat) : Int) (x : Int) = ((x : Nat) : Int) := by rw [u64_or_nat _ _ (by omega) hx]; simp
  have hor' : bits BinOp.or IntKind.u64 0 (x : Int) = ((x : Nat) : Int) := hor
  have HOwn3 := Lib.hid hown3
  have HT3 := Lib.hid hT3
  have HB3 := Lib.hid hb3
  have HAt := Lib.hid hat
  have HAt3 := Lib.hid hat3
  have HL3 := Lib.hid hlen3
  have hsz3 : w2.heap.size ≤ w3.heap.size := by have := ht3.size; simp at this; omega
  generalize htt : total rs = tt at *
  have HTt := Lib.hid htt
  have hkm : k < m + 1 := by have := HM.out; omega
  have hki : (k : Int) < (m : Int) + 1 := by omega
  have hii : (i : Int) < 4 := by omega
  clear hown3 hT3 hb3 hat hat3 hlen3 ht3 hl3 hv3 htt
  go_wp2_with (go_at_call 87; refine (HBit.out _).mono ?_; rintro e w' ⟨rfl, q, rfl⟩)
  go_region
  go_wp2
  go_ret
  have hbb : (((w3.setCell ⟨b, 0, none⟩ (.slice (some ⟨g3, 0, none⟩) (m + 1) c3)).drewN (q + 1))).heap[b]? = some (.cells #[.slice (some ⟨g3, 0, none⟩) (m + 1) c3, .int .i64 tt] 133 (0, 0)) := heap_setCell_same w3 b 0 _ 133 _ HB3.out
  have hoo : OwnR ((w3.setCell ⟨b, 0, none⟩ (.slice (some ⟨g3, 0, none⟩) (m + 1) c3)).drewN (q + 1)) 0 (.slice (some ⟨g3, 0, none⟩) (m + 1) c3) (insR rs k (newRow (n / 256))) :=
    HOwn3.out.turn (((Turn.refl [b] _).setCell (.inl (by simp)) _).drewN _) (fun g' hg' => by
      simp [Value.ownBlock] at hg'
      subst hg'
      simpa using hgb)
  obtain ⟨e1, e2, e3⟩ := add_tail b g3 (m + 1) c3 k i x tt (insR rs k (newRow (n / 256))) (newRow (n / 256)) _ hbb hoo HL3.out HAt.out hi hgb
  refine ⟨rfl, k, _, HK.out, by rw [HTt.out]; exact e1, e2, ?_, ?_⟩
  · refine Turn.trans (((HT3.out.more (G := b :: (Value.slice A m c).ownBlock.toList) (fun g hg => .inl (List.mem_cons_of_mem _ hg))).setCell (p := ⟨b, 0, none⟩) (.inl (by simp)) _).drewN _) e3 ?_
    intro g hg
    rcases List.mem_cons.1 hg with hg | hg
    · exact .inl (by simp [hg])
    · have : g = g3 := by simpa using hg
      subst this
      rcases HAt3.out with e | ⟨g', e, hge⟩
      · exact .inl (List.mem_cons_of_mem _ (by rw [← e]; simp [Value.ownBlock]))
      · simp [Value.ownBlock] at e
        subst e
        have := HT2.out.size
        simp at hge
        exact .inr (by omega)
  · rcases HAt3.out with e | ⟨g', e, hge⟩
    · exact .inl e
    · have := HT2.out.size
      simp at hge
      exact .inr ⟨g', e, by omega⟩
end Go.Proofs.YtbocejiclellfaaGreatDoor

/- Stage 1's text Th: what stage 8 wants of it (printed by conv1.py). -/
set_option linter.unusedSimpArgs false
set_option linter.unusedVariables false
set_option maxRecDepth 100000
namespace Go.Proofs.YtbocejiclellfaaGreatDoor
open Go.RowKit

/-- Rising, each once. -/
def Sd (l : List Int) : Prop := l.Pairwise (· < ·)
theorem sd_ext {l t : List Int} (hl : Sd l) (ht : Sd t) (h : ∀ x, x ∈ l ↔ x ∈ t) : l = t := by
  induction l generalizing t with
  | nil =>
    cases t with
    | nil => rfl
    | cons y t => exact absurd ((h y).2 (by simp)) (by simp)
  | cons x l ih =>
    cases t with
    | nil => exact absurd ((h x).1 (by simp)) (by simp)
    | cons y t =>
      have h1 := List.pairwise_cons.1 hl
      have h2 := List.pairwise_cons.1 ht
      have e : x = y := by
        rcases List.mem_cons.1 ((h x).1 (by simp)) with e | e
        · exact e
        · rcases List.mem_cons.1 ((h y).2 (by simp)) with e' | e'
          · exact e'.symm
          · have a := h2.1 x e
            have b := h1.1 y e'
            omega
      subst e
      congr 1
      refine ih h1.2 h2.2 (fun z => ?_)
      constructor
      · intro hz
        rcases List.mem_cons.1 ((h z).1 (by simp [hz])) with e | e
        · subst e
          have := h1.1 z hz
          omega
        · exact e
      · intro hz
        rcases List.mem_cons.1 ((h z).2 (by simp [hz])) with e | e
        · subst e
          have := h2.1 z hz
          omega
        · exact e
theorem hasB_iff (l : List Int) (x : Int) : hasB l x = true ↔ x ∈ l := by simp [hasB]
theorem mem_putL (l : List Int) (n x : Int) : x ∈ putL l n ↔ x ∈ l ∨ (x = n ∧ okB n = true) := by
  unfold putL
  have h := List.takeWhile_append_dropWhile (p := fun y => decide (y < n)) (l := l)
  split
  · rename_i hc
    simp only [Bool.and_eq_true] at hc
    rw [List.mem_append, List.mem_cons]
    constructor
    · rintro (h1 | h1 | h1)
      · exact .inl (by rw [← h]; exact List.mem_append_left _ h1)
      · exact .inr ⟨h1, hc.1⟩
      · exact .inl (by rw [← h]; exact List.mem_append_right _ h1)
    · rintro (h1 | ⟨h1, _⟩)
      · rw [← h] at h1
        rcases List.mem_append.1 h1 with h2 | h2
        · exact .inl h2
        · exact .inr (.inr h2)
      · exact .inr (.inl h1)
  · rename_i hc
    constructor
    · exact .inl
    · rintro (h1 | ⟨rfl, h2⟩)
      · exact h1
      · simp only [h2, Bool.true_and, Bool.not_eq_true', Bool.not_eq_false] at hc
        exact (hasB_iff l x).1 hc
theorem of_takeWhile {p : Int → Bool} {l : List Int} {y : Int} (h : y ∈ l.takeWhile p) : p y = true := by
  induction l with
  | nil => simp at h
  | cons x t ih =>
    rw [List.takeWhile_cons] at h
    split at h
    · rcases List.mem_cons.1 h with e | e
      · subst e; assumption
      · exact ih e
    · simp at h
theorem sd_putL {l : List Int} (hl : Sd l) (n : Int) : Sd (putL l n) := by
  unfold putL
  split
  · rename_i hc
    simp only [Bool.and_eq_true, Bool.not_eq_true'] at hc
    have hn : n ∉ l := fun hm => by
      have := (hasB_iff l n).2 hm
      rw [this] at hc
      simp at hc
    have h := List.takeWhile_append_dropWhile (p := fun y => decide (y < n)) (l := l)
    have hp : Sd (l.takeWhile (fun y => decide (y < n)) ++ l.dropWhile (fun y => decide (y < n))) := by rw [h]; exact hl
    obtain ⟨p1, p2, p3⟩ := List.pairwise_append.1 hp
    have hlo : ∀ y ∈ l.takeWhile (fun y => decide (y < n)), y < n := fun y hy => by simpa using of_takeWhile hy
    have hhi : ∀ y ∈ l.dropWhile (fun y => decide (y < n)), n < y := by
      intro y hy
      have hym : y ∈ l := by rw [← h]; exact List.mem_append_right _ hy
      cases hd : l.dropWhile (fun y => decide (y < n)) with
      | nil => rw [hd] at hy; simp at hy
      | cons z t =>
        have hz : ¬ z < n := by
          have := List.head_dropWhile_not (fun y => decide (y < n)) (by rw [hd]; simp)
          simp [hd] at this
          omega
        have hzm : z ∈ l := by rw [← h, hd]; simp
        have hzn : z ≠ n := fun e => hn (e ▸ hzm)
        rw [hd] at hy p2
        rcases List.mem_cons.1 hy with e | e
        · omega
        · have := (List.pairwise_cons.1 p2).1 y e
          omega
    refine List.pairwise_append.2 ⟨p1, List.pairwise_cons.2 ⟨hhi, p2⟩, fun a ha c hc => ?_⟩
    rcases List.mem_cons.1 hc with e | e
    · subst e; exact hlo a ha
    · have h1 := hlo a ha
      have h2 := hhi c e
      omega
  · exact hl
theorem length_putL {l : List Int} {n : Int} : (putL l n).length = l.length + if okB n && !hasB l n then 1 else 0 := by
  unfold putL
  split
  · have h := congrArg List.length (List.takeWhile_append_dropWhile (p := fun y => decide (y < n)) (l := l))
    simp only [List.length_append, List.length_cons] at h ⊢
    omega
  · rfl

/- rows -/
theorem rowOf_mem {rs : List Row} (ha : Asc rs) {r : Row} (hr : r ∈ rs) : rowOf rs r.at_ = r := by
  induction rs with
  | nil => simp at hr
  | cons s t ih =>
    have h1 := List.pairwise_cons.1 ha
    unfold rowOf
    rw [List.find?_cons]
    rcases List.mem_cons.1 hr with e | e
    · subst e; simp
    · have hlt := h1.1 r e
      have hb : (s.at_ == r.at_) = false := by simp; omega
      rw [hb]
      exact ih h1.2 e
theorem rowOf_no {rs : List Row} {t : Nat} (h : ∀ r ∈ rs, r.at_ ≠ t) : rowOf rs t = newRow t := by
  have : rs.find? (fun r => r.at_ == t) = none := by
    rw [List.find?_eq_none]
    intro r hr
    simpa using h r hr
  simp [rowOf, this, newRow]
theorem rowOf_congr {rs ss : List Row} (ha : Asc rs) (hs : Asc ss) {t : Nat} (h : ∀ r : Row, r.at_ = t → (r ∈ rs ↔ r ∈ ss)) : rowOf rs t = rowOf ss t := by
  by_cases hx : ∃ r ∈ rs, r.at_ = t
  · obtain ⟨r, hr, rfl⟩ := hx
    rw [rowOf_mem ha hr, rowOf_mem hs ((h r rfl).1 hr)]
  · have h1 : ∀ r ∈ rs, r.at_ ≠ t := fun r hr e => hx ⟨r, hr, e⟩
    have h2 : ∀ r ∈ ss, r.at_ ≠ t := fun r hr e => hx ⟨r, (h r e).2 hr, e⟩
    rw [rowOf_no h1, rowOf_no h2]
theorem Row.bit_new (t j : Nat) : (newRow t).bit j = false := by simp [Row.bit, newRow_word]
/-- A number is one of a row's just if the row's bit is set. -/
theorem mem_wordNums (b : Int) (x : Nat) (y : Int) : y ∈ wordNums b x ↔ ∃ j : Nat, j < 64 ∧ x.testBit j = true ∧ y = b + (j : Int) := by
  unfold wordNums
  rw [List.mem_map]
  constructor
  · rintro ⟨j, hj, rfl⟩
    obtain ⟨h1, h2⟩ := (mem_bitsL x j).1 hj
    exact ⟨j, h1, h2, rfl⟩
  · rintro ⟨j, h1, h2, rfl⟩
    exact ⟨j, (mem_bitsL x j).2 ⟨h1, h2⟩, rfl⟩
theorem mem_rowNums (r : Row) (y : Int) : y ∈ r.nums ↔ ∃ j : Nat, j < 256 ∧ r.bit j = true ∧ y = r.at_ * 256 + (j : Int) := by
  unfold Row.nums
  rw [List.mem_append, List.mem_append, List.mem_append, mem_wordNums, mem_wordNums, mem_wordNums, mem_wordNums]
  unfold Row.bit
  constructor
  · rintro (((⟨j, hj, hb, rfl⟩ | ⟨j, hj, hb, rfl⟩) | ⟨j, hj, hb, rfl⟩) | ⟨j, hj, hb, rfl⟩)
    · exact ⟨j, by omega, by rw [show j / 64 = 0 by omega, show j % 64 = j by omega]; exact hb, rfl⟩
    · exact ⟨64 + j, by omega, by rw [show (64 + j) / 64 = 1 by omega, show (64 + j) % 64 = j by omega]; exact hb, by omega⟩
    · exact ⟨128 + j, by omega, by rw [show (128 + j) / 64 = 2 by omega, show (128 + j) % 64 = j by omega]; exact hb, by omega⟩
    · exact ⟨192 + j, by omega, by rw [show (192 + j) / 64 = 3 by omega, show (192 + j) % 64 = j by omega]; exact hb, by omega⟩
  · rintro ⟨j, hj, hb, rfl⟩
    have hc : j / 64 = 0 ∨ j / 64 = 1 ∨ j / 64 = 2 ∨ j / 64 = 3 := by omega
    rcases hc with e | e | e | e <;> rw [e] at hb
    · exact .inl (.inl (.inl ⟨j % 64, by omega, hb, by omega⟩))
    · exact .inl (.inl (.inr ⟨j % 64, by omega, hb, by omega⟩))
    · exact .inl (.inr ⟨j % 64, by omega, hb, by omega⟩)
    · exact .inr ⟨j % 64, by omega, hb, by omega⟩
theorem mem_nums {rs : List Row} (h : Ok rs) (y : Int) : y ∈ nums rs ↔ ∃ m : Nat, m < 1048576 ∧ hasN rs m = true ∧ y = (m : Int) := by
  unfold nums
  rw [List.mem_flatMap]
  constructor
  · rintro ⟨r, hr, hy⟩
    obtain ⟨j, hj, hb, rfl⟩ := (mem_rowNums r y).1 hy
    have ha := (h.fits r hr).a
    refine ⟨r.at_ * 256 + j, by omega, ?_, by omega⟩
    unfold hasN
    rw [show (r.at_ * 256 + j) / 256 = r.at_ by omega, show (r.at_ * 256 + j) % 256 = j by omega, rowOf_mem h.asc hr]
    exact hb
  · rintro ⟨m, hm, hb, rfl⟩
    unfold hasN at hb
    by_cases hx : ∃ r ∈ rs, r.at_ = m / 256
    · obtain ⟨r, hr, he⟩ := hx
      rw [← he, rowOf_mem h.asc hr] at hb
      exact ⟨r, hr, (mem_rowNums r m).2 ⟨m % 256, by omega, hb, by omega⟩⟩
    · rw [rowOf_no (fun r hr e => hx ⟨r, hr, e⟩), Row.bit_new] at hb
      cases hb
theorem sd_wordNums (b : Int) (x : Nat) : Sd (wordNums b x) := by
  unfold wordNums Sd
  rw [List.pairwise_map]
  exact (bitsL_sorted x).imp (fun h => by omega)
theorem sd_rowNums (r : Row) : Sd r.nums := by
  have hw : ∀ (b : Int) (x : Nat) (y : Int), y ∈ wordNums b x → b ≤ y ∧ y < b + 64 := by
    intro b x y hy
    obtain ⟨j, hj, _, rfl⟩ := (mem_wordNums b x y).1 hy
    omega
  unfold Row.nums Sd
  refine List.pairwise_append.2 ⟨List.pairwise_append.2 ⟨List.pairwise_append.2 ⟨sd_wordNums _ _, sd_wordNums _ _, ?_⟩, sd_wordNums _ _, ?_⟩, sd_wordNums _ _, ?_⟩
  · intro a ha c hc
    have h1 := hw _ _ _ ha
    have h2 := hw _ _ _ hc
    omega
  · intro a ha c hc
    have h2 := hw _ _ _ hc
    rcases List.mem_append.1 ha with ha | ha <;> (have h1 := hw _ _ _ ha; omega)
  · intro a ha c hc
    have h2 := hw _ _ _ hc
    rcases List.mem_append.1 ha with ha | ha
    · rcases List.mem_append.1 ha with ha | ha <;> (have h1 := hw _ _ _ ha; omega)
    · have h1 := hw _ _ _ ha
      omega
theorem sd_nums {rs : List Row} (ha : Asc rs) : Sd (nums rs) := by
  induction rs with
  | nil => exact List.Pairwise.nil
  | cons r t ih =>
    have h1 := List.pairwise_cons.1 ha
    unfold nums Sd
    rw [List.flatMap_cons]
    refine List.pairwise_append.2 ⟨sd_rowNums r, ih h1.2, fun a hA c hc => ?_⟩
    obtain ⟨j, hj, _, rfl⟩ := (mem_rowNums r a).1 hA
    obtain ⟨s, hs, hc'⟩ := List.mem_flatMap.1 hc
    obtain ⟨i, hi, _, rfl⟩ := (mem_rowNums s c).1 hc'
    have := h1.1 s hs
    omega
end Go.Proofs.YtbocejiclellfaaGreatDoor

/- Stage 1's text Th2: what stage 8 wants of it (printed by conv1.py). -/
set_option linter.unusedSimpArgs false
set_option linter.unusedVariables false
set_option maxRecDepth 100000
namespace Go.Proofs.YtbocejiclellfaaGreatDoor
open Go.RowKit

theorem asc_set {A C : List Row} {r s : Row} (h : Asc (A ++ r :: C)) (he : s.at_ = r.at_) : Asc (A ++ s :: C) := by
  obtain ⟨h1, h2, h3⟩ := List.pairwise_append.1 h
  obtain ⟨h4, h5⟩ := List.pairwise_cons.1 h2
  refine List.pairwise_append.2 ⟨h1, List.pairwise_cons.2 ⟨fun x hx => by rw [he]; exact h4 x hx, h5⟩, fun a ha c hc => ?_⟩
  rcases List.mem_cons.1 hc with e | e
  · subst e; rw [he]; exact h3 a ha r (by simp)
  · exact h3 a ha c (by simp [e])
theorem asc_ins {A C : List Row} {s : Row} (h : Asc (A ++ C)) (hA : ∀ r ∈ A, r.at_ < s.at_) (hC : ∀ r ∈ C, s.at_ < r.at_) : Asc (A ++ s :: C) := by
  obtain ⟨h1, h2, h3⟩ := List.pairwise_append.1 h
  refine List.pairwise_append.2 ⟨h1, List.pairwise_cons.2 ⟨hC, h2⟩, fun a ha c hc => ?_⟩
  rcases List.mem_cons.1 hc with e | e
  · subst e; exact hA a ha
  · exact h3 a ha c e
theorem rowOf_set {A C : List Row} {r s : Row} (h : Asc (A ++ r :: C)) (he : s.at_ = r.at_) (t : Nat) : rowOf (A ++ s :: C) t = if t = r.at_ then s else rowOf (A ++ r :: C) t := by
  have h' := asc_set h he
  split
  · rename_i e
    subst e
    rw [← he]
    exact rowOf_mem h' (by simp)
  · rename_i e
    refine rowOf_congr h' h (fun q hq => ?_)
    have n1 : q ≠ s := fun e2 => e (by rw [← hq, e2, he])
    have n2 : q ≠ r := fun e2 => e (by rw [← hq, e2])
    simp [n1, n2]
theorem rowOf_ins {A C : List Row} {s : Row} (h : Asc (A ++ C)) (hA : ∀ r ∈ A, r.at_ < s.at_) (hC : ∀ r ∈ C, s.at_ < r.at_) (t : Nat) : rowOf (A ++ s :: C) t = if t = s.at_ then s else rowOf (A ++ C) t := by
  have h' := asc_ins h hA hC
  split
  · rename_i e
    subst e
    exact rowOf_mem h' (by simp)
  · rename_i e
    refine rowOf_congr h' h (fun q hq => ?_)
    have n1 : q ≠ s := fun e2 => e (by rw [← hq, e2])
    simp [n1]
theorem word_setWord (r : Row) (i j x : Nat) (hi : i < 4) (hj : j < 4) : (r.setWord i x).word j = if j = i then x else r.word j := by
  match i, hi with
  | 0, _ => match j, hj with
    | 0, _ => rfl
    | 1, _ => rfl
    | 2, _ => rfl
    | 3, _ => rfl
  | 1, _ => match j, hj with
    | 0, _ => rfl
    | 1, _ => rfl
    | 2, _ => rfl
    | 3, _ => rfl
  | 2, _ => match j, hj with
    | 0, _ => rfl
    | 1, _ => rfl
    | 2, _ => rfl
    | 3, _ => rfl
  | 3, _ => match j, hj with
    | 0, _ => rfl
    | 1, _ => rfl
    | 2, _ => rfl
    | 3, _ => rfl
theorem at_setWord (r : Row) (i x : Nat) : (r.setWord i x).at_ = r.at_ := by
  unfold Row.setWord
  split <;> rfl
theorem fits_setWord {r : Row} (h : r.Fits) (i x : Nat) (hx : x < 18446744073709551616) : (r.setWord i x).Fits := by
  obtain ⟨a, b0, b1, b2, b3⟩ := h
  unfold Row.setWord
  split <;> constructor <;> assumption
theorem count_pos {r : Row} {j : Nat} (hj : j < 256) (hb : r.bit j = true) : 0 < r.count := by
  rw [← Row.nums_length]
  have : (r.at_ * 256 + (j : Int)) ∈ r.nums := (mem_rowNums r _).2 ⟨j, hj, hb, rfl⟩
  exact List.length_pos_of_mem this
/-- The row with the bit of a number set. -/
def Row.put (r : Row) (n : Nat) : Row := r.setWord (n % 256 / 64) (r.word (n % 256 / 64) ||| 2 ^ (n % 64))
theorem bit_put (r : Row) (n j : Nat) (hj : j < 256) : (r.put n).bit j = (r.bit j || decide (j = n % 256)) := by
  unfold Row.put Row.bit
  rw [word_setWord r _ _ _ (by omega) (by omega)]
  split
  · rename_i e
    rw [e, Nat.testBit_or, Nat.testBit_two_pow]
    congr 1
    rw [decide_eq_decide]
    omega
  · rename_i e
    have : ¬ j = n % 256 := fun e2 => e (by rw [e2])
    simp [this]
theorem fits_put {r : Row} (h : r.Fits) (n : Nat) : (r.put n).Fits := fits_setWord h _ _ (Nat.or_lt_two_pow (n := 64) (word_lt h _) (pow_lt64 n))
theorem count_put (r : Row) (n : Nat) : 0 < (r.put n).count := count_pos (j := n % 256) (by omega) (by rw [bit_put r n _ (by omega)]; simp)
theorem at_put (r : Row) (n : Nat) : (r.put n).at_ = r.at_ := at_setWord _ _ _
/-- Rows that are a set's, with one number more. -/
structure Put (rs ss : List Row) (n : Nat) : Prop where
  ok : Ok ss
  has : ∀ m, hasN ss m = (hasN rs m || decide (m = n))
theorem put_set {A C : List Row} {r : Row} {n : Nat} (h : Ok (A ++ r :: C)) (he : r.at_ = n / 256) : Put (A ++ r :: C) (A ++ r.put n :: C) n := by
  constructor
  · refine ⟨asc_set h.asc (at_put r n), fun s hs => ?_, fun s hs => ?_⟩
    · rcases List.mem_append.1 hs with hs | hs
      · exact h.fits s (by simp [hs])
      · rcases List.mem_cons.1 hs with e | e
        · subst e; exact fits_put (h.fits r (by simp)) n
        · exact h.fits s (by simp [e])
    · rcases List.mem_append.1 hs with hs | hs
      · exact h.some_ s (by simp [hs])
      · rcases List.mem_cons.1 hs with e | e
        · subst e; exact count_put r n
        · exact h.some_ s (by simp [e])
  · intro m
    unfold hasN
    rw [rowOf_set h.asc (at_put r n)]
    split
    · rename_i e
      rw [e, rowOf_mem h.asc (r := r) (by simp), bit_put r n _ (by omega)]
      congr 1
      rw [decide_eq_decide]
      omega
    · rename_i e
      have : ¬ m = n := fun e2 => e (by rw [e2, he])
      simp [this]
theorem put_ins {A C : List Row} {n : Nat} (h : Ok (A ++ C)) (hn : n < 1048576) (hA : ∀ r ∈ A, r.at_ < n / 256) (hC : ∀ r ∈ C, n / 256 < r.at_) : Put (A ++ C) (A ++ (newRow (n / 256)).put n :: C) n := by
  have hat : ((newRow (n / 256)).put n).at_ = n / 256 := at_put _ _
  have hf : (newRow (n / 256)).Fits := ⟨by show n / 256 < 4096; omega, by show 0 < _; omega, by show 0 < _; omega, by show 0 < _; omega, by show 0 < _; omega⟩
  have hA' : ∀ r ∈ A, r.at_ < ((newRow (n / 256)).put n).at_ := fun r hr => by rw [hat]; exact hA r hr
  have hC' : ∀ r ∈ C, ((newRow (n / 256)).put n).at_ < r.at_ := fun r hr => by rw [hat]; exact hC r hr
  constructor
  · refine ⟨asc_ins h.asc hA' hC', fun s hs => ?_, fun s hs => ?_⟩
    · rcases List.mem_append.1 hs with hs | hs
      · exact h.fits s (by simp [hs])
      · rcases List.mem_cons.1 hs with e | e
        · subst e; exact fits_put hf n
        · exact h.fits s (by simp [e])
    · rcases List.mem_append.1 hs with hs | hs
      · exact h.some_ s (by simp [hs])
      · rcases List.mem_cons.1 hs with e | e
        · subst e; exact count_put _ n
        · exact h.some_ s (by simp [e])
  · intro m
    unfold hasN
    rw [rowOf_ins h.asc hA' hC', hat]
    split
    · rename_i e
      have hno : rowOf (A ++ C) (m / 256) = newRow (m / 256) := rowOf_no (fun r hr e2 => by
        rcases List.mem_append.1 hr with hr | hr
        · have := hA r hr; omega
        · have := hC r hr; omega)
      rw [hno, Row.bit_new, bit_put _ n _ (by omega), Row.bit_new]
      simp only [Bool.false_or, decide_eq_decide]
      omega
    · rename_i e
      have : ¬ m = n := fun e2 => e (by rw [e2])
      simp [this]
theorem nums_ext {rs : List Row} {l : List Int} (h : Ok rs) (hl : Sd l) (he : ∀ y, y ∈ l ↔ ∃ m : Nat, m < 1048576 ∧ hasN rs m = true ∧ y = (m : Int)) : nums rs = l :=
  sd_ext (sd_nums h.asc) hl (fun y => (mem_nums h y).trans (he y).symm)
theorem Put.nums {rs ss : List Row} {n : Nat} (h : Ok rs) (p : Put rs ss n) (hn : n < 1048576) : nums ss = putL (nums rs) n := by
  refine nums_ext p.ok (sd_putL (sd_nums h.asc) n) (fun y => ?_)
  rw [mem_putL, mem_nums h]
  constructor
  · rintro (⟨m, hm, hb, rfl⟩ | ⟨rfl, _⟩)
    · exact ⟨m, hm, by rw [p.has, hb]; rfl, rfl⟩
    · exact ⟨n, hn, by rw [p.has]; simp, rfl⟩
  · rintro ⟨m, hm, hb, rfl⟩
    rw [p.has] at hb
    simp only [Bool.or_eq_true, decide_eq_true_eq] at hb
    rcases hb with hb | rfl
    · exact .inl ⟨m, hm, hb, rfl⟩
    · exact .inr ⟨rfl, by simp [okB]; omega⟩
theorem hasB_nums {rs : List Row} (h : Ok rs) {n : Nat} (hn : n < 1048576) : hasB (nums rs) n = hasN rs n := by
  rw [Bool.eq_iff_iff, hasB_iff, mem_nums h]
  constructor
  · rintro ⟨m, _, hb, e⟩
    have : n = m := by omega
    subst this
    exact hb
  · intro hb
    exact ⟨n, hn, hb, rfl⟩
end Go.Proofs.YtbocejiclellfaaGreatDoor

/- Stage 1's text Of: what stage 8 wants of it (printed by conv1.py). -/
set_option linter.unusedSimpArgs false
set_option linter.unusedVariables false
set_option maxRecDepth 100000
namespace Go.Proofs.YtbocejiclellfaaGreatDoor
open Go.RowKit

/-- A new slice lies where the old one lay, or in new memory. -/
def Moved (w : World) (v v' : Value) : Prop := v'.ownBlock = v.ownBlock ∨ ∃ g, v'.ownBlock = some g ∧ w.heap.size ≤ g
theorem Moved.refl (w : World) (v : Value) : Moved w v v := .inl rfl
def AddsPost (b : Nat) (v : Value) (rs : List Row) (n : Int) (w : World) (e : Ending) (w' : World) : Prop :=
  e = .returned (.bool (okB n && !hasB (nums rs) n)) ∧ ∃ v' rs', SetAt w' b v' rs' ∧ nums rs' = putL (nums rs) n ∧ Turn (b :: v.ownBlock.toList) w w' ∧ Moved w v v'
theorem total_put {rs ss : List Row} {n : Nat} (h : Ok rs) (p : Put rs ss n) (hn : n < 1048576) (hh : hasN rs n = false) : total ss = total rs + 1 := by
  have h1 := congrArg List.length (p.nums h hn)
  rw [length_putL, hasB_nums h hn, hh, nums_length, nums_length] at h1
  have : okB n = true := by simp [okB]; omega
  simpa [this] using h1
theorem split_row {rs : List Row} {k : Nat} {r : Row} (h : rs[k]? = some r) : rs = rs.take k ++ r :: rs.drop (k + 1) := by
  obtain ⟨hk, rfl⟩ := List.getElem?_eq_some_iff.1 h
  rw [List.getElem_cons_drop, List.take_append_drop]
theorem set_row {rs : List Row} {k : Nat} {r s : Row} (h : rs[k]? = some r) : rs.set k s = rs.take k ++ s :: rs.drop (k + 1) := by
  obtain ⟨hk, _⟩ := List.getElem?_eq_some_iff.1 h
  exact List.set_eq_take_append_cons_drop.trans (by rw [if_pos hk])
theorem insR_set (rs : List Row) (k : Nat) (r s : Row) (h : k ≤ rs.length) : (insR rs k r).set k s = insR rs k s := by
  unfold insR
  rw [List.set_append_right _ _ (by rw [List.length_take]; omega), List.length_take, Nat.min_eq_left h, Nat.sub_self]
  rfl
theorem cut_sides {rs : List Row} {t k : Nat} (hc : Cut rs t k) (ha : Asc rs) (hm : hasRow rs t = false) : (∀ r ∈ rs.take k, r.at_ < t) ∧ (∀ r ∈ rs.drop k, t < r.at_) := by
  have hno : ∀ r ∈ rs, r.at_ ≠ t := no_row hc ha ((hit_eq hc ha).trans hm)
  constructor
  · intro r hr
    obtain ⟨i, hi⟩ := List.getElem?_of_mem hr
    rw [List.getElem?_take] at hi
    split at hi
    · exact hc.lo i r (by assumption) hi
    · cases hi
  · intro r hr
    obtain ⟨i, hi⟩ := List.getElem?_of_mem hr
    rw [List.getElem?_drop] at hi
    have h1 := hc.hi (k + i) r (by omega) hi
    have h2 := hno r (List.mem_of_getElem? hi)
    omega
theorem bit_known (n : Nat) (hn : n < 1048576) : BitAt n (n % 256 / 64) (2 ^ (n % 64)) := fun W => bitOf_walk n W hn
theorem add_any (b : Nat) (v : Value) (rs : List Row) (n : Int) (w : World) (h : SetAt w b v rs) : Calls Tryz.prog 78 #[.pointer (some ⟨b, 0, none⟩), .int .i64 n] w (AddsPost b v rs n w) := by
  cases hok : okB n
  · refine (add_out b n w hok).mono ?_
    rintro e w' ⟨rfl, rfl⟩
    exact ⟨by rw [hok]; rfl, v, rs, h, by rw [putL_no (by simp [hok])], Turn.refl _ _, Moved.refl _ _⟩
  · obtain ⟨h0, h1⟩ := okB_lo hok
    obtain ⟨m, rfl⟩ := Int.eq_ofNat_of_zero_le h0
    have hm : m < 1048576 := by omega
    have hb := hasB_nums h.ok hm
    cases hh : hasN rs m
    · have hret : (okB (m : Int) && !hasB (nums rs) m) = true := by rw [hok, hb, hh]; rfl
      obtain ⟨A, c, hv, _, _⟩ := h.rows.form
      cases hr : hasRow rs (m / 256)
      · subst hv
        refine (add_new b A rs.length c rs m _ _ w h hm hh rfl hr (by omega) (pow_lt64 m) (bit_known m hm)).mono ?_
        rintro e w' ⟨rfl, k, v', hk, hblk, hown, ht, hmv⟩
        obtain ⟨hA, hC⟩ := cut_sides hk h.ok.asc hr
        have hp : Put rs (insR rs k ((newRow (m / 256)).put m)) m := by
          have hok' := h.ok
          rw [← List.take_append_drop k rs] at hok'
          have := put_ins hok' hm hA hC
          rwa [List.take_append_drop] at this
        have hrows : (insR rs k (newRow (m / 256))).set k ((newRow (m / 256)).setWord (m % 256 / 64) (2 ^ (m % 64))) = insR rs k ((newRow (m / 256)).put m) := by
          rw [insR_set _ _ _ _ hk.le]
          unfold Row.put
          rw [newRow_word, Nat.zero_or]
        rw [hrows] at hown
        have htot := total_put h.ok hp hm hh
        refine ⟨by rw [hret], v', _, ⟨?_, hown, hp.ok⟩, hp.nums h.ok hm, ht, hmv⟩
        rw [htot]
        exact hblk
      · have hg : ∃ g, v = .slice (some ⟨g, 0, none⟩) rs.length c := by
          rcases h.rows.2 with ⟨_, h0⟩ | ⟨g, cap, cur, e, _⟩
          · rw [List.eq_nil_of_length_eq_zero h0] at hr
            simp [hasRow] at hr
          · rw [e] at hv
            injection hv with e1 e2 e3
            exact ⟨g, by rw [e, e3]⟩
        obtain ⟨g, rfl⟩ := hg
        refine (add_found b g rs.length c rs m _ _ w h hm hh rfl hr (by omega) (pow_lt64 m) (bit_known m hm)).mono ?_
        rintro e w' ⟨rfl, k, r, v', hk, hrk, hra, hblk, hown, ht, rfl⟩
        have hp : Put rs (rs.set k (r.put m)) m := by
          have hok' := h.ok
          rw [split_row hrk] at hok'
          have := put_set hok' hra
          rw [← split_row hrk] at this
          rwa [set_row hrk]
        have htot := total_put h.ok hp hm hh
        refine ⟨by rw [hret], _, rs.set k (r.put m), ⟨?_, hown, hp.ok⟩, hp.nums h.ok hm, ht, Moved.refl _ _⟩
        rw [htot]
        exact hblk
    · refine (add_has b v rs m w h hm hh).mono ?_
      rintro e w' ⟨rfl, ht⟩
      exact ⟨by rw [hok, hb, hh]; rfl, v, rs, h.turn' ht, by rw [putL_no (by rw [hb, hh]; simp)], ht.more (by simp), Moved.refl _ _⟩
end Go.Proofs.YtbocejiclellfaaGreatDoor

/- Slices in memory: what they read as, append onto one of the program's own. -/
set_option linter.unusedSimpArgs false
set_option linter.unusedVariables false
set_option maxRecDepth 100000
namespace Go.Proofs.YtbocejiclellfaaGreatDoor
open Go.RowKit

theorem spot_none {W : World} {a : Addr} {v : Value} (h : W.cell? (a.add 0) = some v) : a.spot = none := by
  obtain ⟨b, off, spot⟩ := a
  cases spot with
  | none => rfl
  | some s => simp [Addr.add, World.cell?] at h; split at h <;> simp at h
theorem cell_lt {w : World} {g o : Nat} {v : Value} (h : w.cell? ⟨g, o, none⟩ = some v) : g < w.heap.size := by
  by_cases hh : g < w.heap.size
  · exact hh
  · simp only [World.cell?] at h
    rw [Array.getElem?_eq_none (by omega)] at h
    cases h

/-- F' has blocks of F, and such from n on. -/
def Foot (n : Nat) (F F' : List Nat) : Prop := ∀ g ∈ F', g ∈ F ∨ n ≤ g
theorem Foot.refl (n : Nat) (F : List Nat) : Foot n F F := fun g h => .inl h
theorem Foot.trans {n m : Nat} {F F' F'' : List Nat} (h : Foot n F F') (k : Foot m F' F'') (hm : n ≤ m) : Foot n F F'' := fun g hg => by
  rcases k g hg with h1 | h1
  · exact h g h1
  · exact .inr (by omega)

/-- The slice at A, m things of sz cells each, reads as the cells xs. -/
def Rws (w : World) (sz : Nat) (A : Option Addr) (m : Nat) (xs : List Value) : Prop :=
  xs.length = m * sz ∧ (m = 0 ∨ ∃ b off, A = some ⟨b, off, none⟩ ∧ b < w.heap.size ∧ ∀ j u, xs[j]? = some u → w.cell? ⟨b, off + j, none⟩ = some u)
theorem Rws.none (w : World) (sz : Nat) (A : Option Addr) : Rws w sz A 0 [] := ⟨by simp, .inl rfl⟩
theorem Rws.turn {w w' : World} {sz m : Nat} {A : Option Addr} {xs : List Value} {F : List Nat} (h : Rws w sz A m xs) (t : Turn F w w') (hF : ∀ b off, A = some ⟨b, off, Option.none⟩ → b ∉ F) : Rws w' sz A m xs := by
  refine ⟨h.1, ?_⟩
  rcases h.2 with h0 | ⟨b, off, rfl, hb, hc⟩
  · exact .inl h0
  · exact .inr ⟨b, off, rfl, Nat.lt_of_lt_of_le hb t.size, fun j u hu => (t.cell (p := ⟨b, off + j, Option.none⟩) hb (hF b off rfl)).trans (hc j u hu)⟩
theorem Rws.turn' {w w' : World} {sz m : Nat} {A : Option Addr} {xs : List Value} (h : Rws w sz A m xs) (t : Turn [] w w') : Rws w' sz A m xs := h.turn t (by simp)
theorem Rws.of_owns {w : World} {B e sz n : Nat} {A : Option Addr} {l c : Nat} {xs : List Value} (h : w.ownsRow B e sz (.slice A l c) n xs) : l = n ∧ n ≤ c ∧ Rws w sz A n xs := by
  rcases h.2 with ⟨hv, rfl⟩ | ⟨g, cap, cur, hv, hb, hg, hnc, hcm, hcs, ht⟩
  · injection hv with h1 h2 h3
    subst h1 h2 h3
    exact ⟨rfl, Nat.le_refl _, h.1, .inl rfl⟩
  · injection hv with h1 h2 h3
    subst h1 h2 h3
    refine ⟨rfl, hnc, h.1, .inr ⟨g, 0, rfl, (Array.getElem?_eq_some_iff.1 hg).1, fun j u hu => ?_⟩⟩
    have hj : j < l * sz := by
      have := (List.getElem?_eq_some_iff.1 hu).1
      rw [h.1] at this
      exact this
    rw [Nat.zero_add, World.ownsRow.cellAt h j hj]
    exact hu
theorem owns_form {w : World} {B e sz n : Nat} {v : Value} {xs : List Value} (h : w.ownsRow B e sz v n xs) : ∃ A c, v = .slice A n c ∧ n ≤ c ∧ c ≤ maxLen := by
  rcases h.2 with ⟨rfl, rfl⟩ | ⟨g, cap, cur, rfl, hb, hg, hnc, hcm, _⟩
  · exact ⟨_, _, rfl, Nat.le_refl _, Nat.zero_le _⟩
  · exact ⟨_, _, rfl, hnc, hcm⟩
theorem owns_lt {w : World} {B e sz n : Nat} {v : Value} {xs : List Value} (h : w.ownsRow B e sz v n xs) {g : Nat} (hg : v.ownBlock = some g) : g < w.heap.size ∧ ∃ cs, w.heap[g]? = some (.cells cs e (0, 0)) := by
  rcases h.2 with ⟨rfl, _⟩ | ⟨g', cap, cur, rfl, _, hb, _⟩
  · cases hg
  · injection hg with hg
    subst hg
    exact ⟨(Array.getElem?_eq_some_iff.1 hb).1, _, hb⟩

section
variable {P : Program}
/-- append of whatever lies in a slice onto one of the program's own. -/
theorem run_appR (w : World) (t ty e : TypeId) (i : TypeInfo) (z : Value) (size bytes : Nat) (ht : P.underlying t = some (.slice e)) (hi : P.info? e = some i) (hz : i.zero = some z)
    (hsize : i.size = size) (hby : i.bytes = bytes) (hzs : z.cells.size = size) (hsz : 0 < size)
    (v : Value) (n : Nat) (xs : List Value) (hown : w.ownsRow 0 e size v n xs)
    (A : Option Addr) (m c : Nat) (news : List Value) (hr : Rws w size A m news) (h1 : ∀ u ∈ news, u.oneCell' = true)
    (h63 : n + m ≤ maxLen) (hbytes : (n + m) * bytes ≤ 140737488355328) :
    ∃ v' w', (Builtin.append_ #[t, t] ty #[v, .slice A m c]).run P w = .ok v' w' ∧ w'.ownsRow 0 e size v' (n + m) (xs ++ news) ∧ Turn v.ownBlock.toList w w' ∧
      (v'.ownBlock = v.ownBlock ∨ v'.ownBlock = some w.heap.size) := by
  have hT : ∀ w' : World, w.grownBy w' v.ownBlock → Turn v.ownBlock.toList w w' := fun w' hg => (Turn.refl _ w).grown hg (fun k hk => .inl (by simp [hk]))
  by_cases hm : m = 0
  · subst hm
    have hn : news = [] := List.eq_nil_of_length_eq_zero (by rw [hr.1]; simp)
    subst hn
    obtain ⟨A', c', rfl, hle, _⟩ := owns_form hown
    refine ⟨_, w, ?_, by simpa using hown, Turn.refl _ _, .inl rfl⟩
    cases A' <;> cases A <;> simp [Builtin.append_, run_underlying ht, sizeOf, typeInfo, hi, Builtin.lenOf, Builtin.firstCells, hle, loadCells, loadCellsFrom, storeCells]
  · rcases hr.2 with h0 | ⟨b, off, rfl, hb, hc⟩
    · exact absurd h0 hm
    · obtain ⟨v', w', e1, e2, e3, _, e5⟩ := run_append_own_at (P := P) w 0 t ty e i z size bytes ht hi hz hsize hby hzs hsz v n xs hown ⟨b, off, none⟩ m c news hr.1 (fun j u hj => by rw [Addr.add_lit]; exact hc j u hj) h1 h63 hbytes (Nat.zero_le _)
      exact ⟨v', w', e1, e2, hT w' e3, e5⟩
/-- The same at the operation. -/
theorem wpList_appR {ops : Array Oper} {rest : List Oper} {o : Oper} {a : Act} {Q : Exit → Act → World → Prop} (hgd : o.guard = none) (s x : Operand) (t : TypeId)
    (ho : o.op = .call { callee := .builtin .append, args := #[s, x], argTypes := #[t, t] })
    (w : World) (e : TypeId) (z : Value) (size bytes : Nat) (ht : P.underlying t = some (.slice e)) (hi : (P.info? e).map (fun i => (i.zero, i.size, i.bytes)) = some (some z, size, bytes))
    (hzs : z.cells.size = size) (hsz : 0 < size)
    (v : Value) (n : Nat) (xs : List Value) (hs : a.eval s = v) (hown : w.ownsRow 0 e size v n xs)
    (A : Option Addr) (m c : Nat) (news : List Value) (hx : a.eval x = .slice A m c) (hr : Rws w size A m news) (h1 : ∀ u ∈ news, u.oneCell' = true)
    (h63 : n + m ≤ maxLen) (hbytes : (n + m) * bytes ≤ 140737488355328)
    (h : ∀ v' w', w'.ownsRow 0 e size v' (n + m) (xs ++ news) → Turn v.ownBlock.toList w w' → (v'.ownBlock = v.ownBlock ∨ v'.ownBlock = some w.heap.size) → wpList P ops Q rest (a.put o.dst v') w') :
    wpList P ops Q (o :: rest) a w := by
  obtain ⟨i, hi0, hz0, hz1, hz2⟩ := info_parts hi
  refine wpList_plain hgd fun K hK => ?_
  obtain ⟨v', w', hrun, h2, h3, h5⟩ := run_appR (P := P) w t o.type e i z size bytes ht hi0 hz0 hz1 hz2 hzs hsz v n xs hown A m c news hr h1 h63 hbytes
  unfold Oper.wp execOp
  simp only [ho, resolve, invoke, builtin, Sem.run_bind, Sem.run_pure, Result.andThen_ok, List.map_toArray, List.map_cons, List.map_nil, hs, hx, hrun]
  exact hK _ _ (h v' w' h2 h3 h5)
/-- The same inside a region that draws its order. -/
theorem step_appR {ops : Array Oper} {o : Oper} {a : Act} {K : Act → World → Prop} {Q : Exit → Act → World → Prop} {E : Prop} (hgd : o.guard = none) (s x : Operand) (t : TypeId)
    (ho : o.op = .call { callee := .builtin .append, args := #[s, x], argTypes := #[t, t] })
    (w : World) (e : TypeId) (z : Value) (size bytes : Nat) (ht : P.underlying t = some (.slice e)) (hi : (P.info? e).map (fun i => (i.zero, i.size, i.bytes)) = some (some z, size, bytes))
    (hzs : z.cells.size = size) (hsz : 0 < size)
    (v : Value) (n : Nat) (xs : List Value) (hs : a.eval s = v) (hown : w.ownsRow 0 e size v n xs)
    (A : Option Addr) (m c : Nat) (news : List Value) (hx : a.eval x = .slice A m c) (hr : Rws w size A m news) (h1 : ∀ u ∈ news, u.oneCell' = true)
    (h63 : n + m ≤ maxLen) (hbytes : (n + m) * bytes ≤ 140737488355328)
    (h : ∀ v' w', w'.ownsRow 0 e size v' (n + m) (xs ++ news) → Turn v.ownBlock.toList w w' → (v'.ownBlock = v.ownBlock ∨ v'.ownBlock = some w.heap.size) → K (a.put o.dst v') w') :
    if Region.wanted o (yielded ops a.tmps) = true then Oper.wp P o a w K Q else E := by
  have hw : Region.wanted o (yielded ops a.tmps) = true := by simp [Region.wanted, hgd]
  rw [if_pos hw]
  obtain ⟨i, hi0, hz0, hz1, hz2⟩ := info_parts hi
  obtain ⟨v', w', hrun, h2, h3, h5⟩ := run_appR (P := P) w t o.type e i z size bytes ht hi0 hz0 hz1 hz2 hzs hsz v n xs hown A m c news hr h1 h63 hbytes
  unfold Oper.wp execOp
  simp only [ho, resolve, invoke, builtin, Sem.run_bind, Sem.run_pure, Result.andThen_ok, List.map_toArray, List.map_cons, List.map_nil, hs, hx, hrun]
  exact h v' w' h2 h3 h5
end
end Go.Proofs.YtbocejiclellfaaGreatDoor

/- Lists of things of the program's own making: how their cells read as data, append. -/
set_option linter.unusedSimpArgs false
set_option linter.unusedVariables false
set_option maxRecDepth 100000
namespace Go.Proofs.YtbocejiclellfaaGreatDoor
open Go.RowKit

/-- How cells read as a thing, all that it leads to in blocks that A allows. -/
abbrev Rdg (α : Type) := (Nat → Prop) → World → List Value → α → Prop
structure GoodR {α : Type} (sz : Nat) (R : Rdg α) : Prop where
  turn : ∀ {A : Nat → Prop} {w w' : World} {F : List Nat} {cs : List Value} {x : α}, R A w cs x → Turn F w w' → (∀ g ∈ F, ¬ A g) → R A w' cs x
  mono : ∀ {A B : Nat → Prop} {w : World} {cs : List Value} {x : α}, R A w cs x → (∀ g, A g → g < w.heap.size → B g) → R B w cs x
  len : ∀ {A : Nat → Prop} {w : World} {cs : List Value} {x : α}, R A w cs x → cs.length = sz
  one : ∀ {A : Nat → Prop} {w : World} {cs : List Value} {x : α}, R A w cs x → ∀ u ∈ cs, u.oneCell' = true

/-- The slice v reads as the things l. -/
def RdV {α : Type} (sz : Nat) (R : Rdg α) (A : Nat → Prop) (w : World) (v : Value) (l : List α) : Prop :=
  ∃ P c, v = .slice P l.length c ∧ l.length ≤ c ∧ (l = [] ∨ ∃ b, P = some ⟨b, 0, none⟩ ∧ A b ∧ b < w.heap.size ∧
    ∀ (i : Nat) x, l[i]? = some x → ∃ cs : List Value, (∀ k y, cs[k]? = some y → w.cell? ⟨b, i * sz + k, none⟩ = some y) ∧ R A w cs x)
/-- It is of the program's own making, too. -/
def OwnL {α : Type} (e sz : Nat) (R : Rdg α) (A : Nat → Prop) (w : World) (v : Value) (l : List α) : Prop :=
  ∃ css : List (List Value), css.length = l.length ∧ w.ownsRow 0 e sz v l.length css.flatten ∧ (∀ g, v.ownBlock = some g → A g) ∧
    ∀ (i : Nat) (cs : List Value) (x : α), css[i]? = some cs → l[i]? = some x → R (fun g => A g ∧ v.ownBlock ≠ some g) w cs x

section
variable {α : Type} {e sz : Nat} {R : Rdg α} {A B : Nat → Prop} {w w' : World} {v : Value} {l : List α}
theorem RdV.nil (R : Rdg α) (A : Nat → Prop) (w : World) : RdV sz R A w (.slice none 0 0) [] := ⟨none, 0, rfl, Nat.le_refl _, .inl rfl⟩
theorem RdV.turn {F : List Nat} (hR : GoodR sz R) (h : RdV sz R A w v l) (t : Turn F w w') (hF : ∀ g ∈ F, ¬ A g) : RdV sz R A w' v l := by
  obtain ⟨P, c, e1, e2, h⟩ := h
  refine ⟨P, c, e1, e2, ?_⟩
  rcases h with h | ⟨b, eb, hA, hb, h⟩
  · exact .inl h
  · refine .inr ⟨b, eb, hA, Nat.lt_of_lt_of_le hb t.size, fun i x hx => ?_⟩
    obtain ⟨cs, hc, hr⟩ := h i x hx
    exact ⟨cs, fun k y hy => (t.cell (p := ⟨b, i * sz + k, none⟩) hb (fun hg => hF b hg hA)).trans (hc k y hy), hR.turn hr t hF⟩
theorem RdV.mono (hR : GoodR sz R) (h : RdV sz R A w v l) (hB : ∀ g, A g → g < w.heap.size → B g) : RdV sz R B w v l := by
  obtain ⟨P, c, e1, e2, h⟩ := h
  refine ⟨P, c, e1, e2, ?_⟩
  rcases h with h | ⟨b, eb, hA, hb, h⟩
  · exact .inl h
  · refine .inr ⟨b, eb, hB b hA hb, hb, fun i x hx => ?_⟩
    obtain ⟨cs, hc, hr⟩ := h i x hx
    exact ⟨cs, hc, hR.mono hr hB⟩

theorem OwnL.nil (R : Rdg α) (A : Nat → Prop) (w : World) : OwnL e sz R A w (.slice none 0 0) [] :=
  ⟨[], rfl, World.ownsRow_nil w 0 e sz, (by intro g h; cases h), (by intro i cs x h; simp at h)⟩
theorem OwnL.turn {F : List Nat} (hR : GoodR sz R) (h : OwnL e sz R A w v l) (t : Turn F w w') (hF : ∀ g ∈ F, ¬ A g) : OwnL e sz R A w' v l := by
  obtain ⟨css, h1, h2, h3, h4⟩ := h
  exact ⟨css, h1, Turn.owns t h2 (fun g hg hf => hF g hf (h3 g hg)), h3, fun i cs x hc hx => hR.turn (h4 i cs x hc hx) t (fun g hg ha => hF g hg ha.1)⟩
theorem OwnL.mono (hR : GoodR sz R) (h : OwnL e sz R A w v l) (hB : ∀ g, A g → g < w.heap.size → B g) : OwnL e sz R B w v l := by
  obtain ⟨css, h1, h2, h3, h4⟩ := h
  exact ⟨css, h1, h2, fun g hg => hB g (h3 g hg) (owns_lt h2 hg).1, fun i cs x hc hx => hR.mono (h4 i cs x hc hx) (fun g ha hg => ⟨hB g ha.1 hg, ha.2⟩)⟩
theorem OwnL.lt (h : OwnL e sz R A w v l) {g : Nat} (hg : v.ownBlock = some g) : g < w.heap.size ∧ A g := by
  obtain ⟨css, h1, h2, h3, h4⟩ := h
  exact ⟨(owns_lt h2 hg).1, h3 g hg⟩
theorem flat_at {β : Type} {sz : Nat} : ∀ {css : List (List β)} {i : Nat} {cs : List β}, (∀ c ∈ css, c.length = sz) → css[i]? = some cs → ∀ k y, cs[k]? = some y → css.flatten[i * sz + k]? = some y
  | [], i, cs, _, h => by simp at h
  | c :: css, 0, cs, hl, h => by
    intro k y hy
    simp at h
    subst h
    rw [List.flatten_cons, Nat.zero_mul, Nat.zero_add, List.getElem?_append_left (List.getElem?_eq_some_iff.1 hy).1]
    exact hy
  | c :: css, i + 1, cs, hl, h => by
    intro k y hy
    have hc := hl c (by simp)
    rw [List.flatten_cons, List.getElem?_append_right (by rw [hc, Nat.add_mul]; omega), hc, show (i + 1) * sz + k - sz = i * sz + k by rw [Nat.add_mul]; omega]
    exact flat_at (fun c hc => hl c (by simp [hc])) (by simpa using h) k y hy
theorem OwnL.lens (hR : GoodR sz R) {css : List (List Value)} (h1 : css.length = l.length) (h4 : ∀ (i : Nat) (cs : List Value) (x : α), css[i]? = some cs → l[i]? = some x → R A w cs x) : ∀ c ∈ css, c.length = sz := by
  intro c hc
  obtain ⟨i, hi, rfl⟩ := List.mem_iff_getElem.1 hc
  have hl : i < l.length := by omega
  exact hR.len (h4 i css[i] l[i] (List.getElem?_eq_getElem hi) (List.getElem?_eq_getElem hl))
theorem OwnL.rdv (hR : GoodR sz R) (h : OwnL e sz R A w v l) : RdV sz R A w v l := by
  obtain ⟨css, h1, h2, h3, h4⟩ := h
  have hlens := OwnL.lens hR h1 h4
  have h2' := h2
  rcases h2.2 with ⟨rfl, hn⟩ | ⟨g, cap, cur, rfl, hb, hg, hnc, _, _, ht⟩
  · refine ⟨none, 0, by rw [hn], by omega, .inl (List.eq_nil_of_length_eq_zero hn)⟩
  · refine ⟨_, cap, rfl, hnc, .inr ⟨g, rfl, h3 g rfl, (Array.getElem?_eq_some_iff.1 hg).1, fun i x hx => ?_⟩⟩
    have hil : i < l.length := (List.getElem?_eq_some_iff.1 hx).1
    have hic : i < css.length := by omega
    have hcs : css[i]? = some css[i] := List.getElem?_eq_getElem hic
    refine ⟨css[i], fun k y hy => ?_, hR.mono (h4 i _ x hcs hx) (fun g ha _ => ha.1)⟩
    have hk : k < sz := by
      have := (List.getElem?_eq_some_iff.1 hy).1
      rw [hlens css[i] (List.getElem_mem hic)] at this
      exact this
    have hlt : i * sz + k < l.length * sz := by
      calc i * sz + k < i * sz + sz := by omega
        _ = (i + 1) * sz := by rw [Nat.add_mul]; omega
        _ ≤ l.length * sz := Nat.mul_le_mul_right _ hil
    rw [World.ownsRow.cellAt (cap := cap) h2' _ hlt]
    exact flat_at hlens hcs k y hy
end

section
variable {P : Program} {α : Type}
/-- append of one thing, laid in a block of its own, onto a list of the program's own. -/
theorem wpList_appL {ops : Array Oper} {rest : List Oper} {o : Oper} {a : Act} {Q : Exit → Act → World → Prop} (hgd : o.guard = none) (s x : Operand) (t : TypeId)
    (ho : o.op = .call { callee := .builtin .append, args := #[s, x], argTypes := #[t, t] })
    (W : World) (e sz bytes : Nat) (z : Value) (R : Rdg α) (hR : GoodR sz R) (A : Nat → Prop) (ht : P.underlying t = some (.slice e)) (hi : (P.info? e).map (fun i => (i.zero, i.size, i.bytes)) = some (some z, sz, bytes))
    (hzs : z.cells.size = sz) (hsz : 0 < sz) (hby : bytes ≤ 1000)
    (v : Value) (l : List α) (hs : a.eval s = v) (hown : OwnL e sz R A W v l) (C : Array Value) (cs : List Value) (y : α) (c : Nat) (hC : C = cs.toArray) (hr : R (fun g => A g ∧ v.ownBlock ≠ some g) W cs y)
    (hx : a.eval x = .slice (some ⟨W.heap.size, 0, none⟩) 1 c) (hl : l.length ≤ 1000000) (hA : A (W.heap.size + 1))
    (h : ∀ v' w', OwnL e sz R A w' v' (l ++ [y]) → Turn v.ownBlock.toList W w' → (v'.ownBlock = v.ownBlock ∨ ∃ g, v'.ownBlock = some g ∧ W.heap.size ≤ g) → wpList P ops Q rest (a.put o.dst v') w') :
    wpList P ops Q (o :: rest) a (W.alloc (.cells C e)) := by
  subst hC
  obtain ⟨css, h1, h2, h3, h4⟩ := hown
  have hal : Turn [] W (W.alloc (.cells cs.toArray e)) := (Turn.refl [] W).alloc _
  have hlen := hR.len hr
  refine wpList_appR hgd s x t ho (W.alloc (.cells cs.toArray e)) e z sz bytes ht hi hzs hsz v l.length css.flatten hs (Turn.owns hal h2 (by simp)) _ 1 c cs hx ?_ (hR.one hr) (by simp only [maxLen]; omega) ?_ ?_
  · refine ⟨by rw [hlen]; omega, .inr ⟨W.heap.size, 0, rfl, by simp, fun j u hj => ?_⟩⟩
    rw [Nat.zero_add, cell_of_row _ W.heap.size _ _ _ _ (heap_alloc_new W _)]
    simpa using hj
  · have : (l.length + 1) * bytes ≤ 1000001 * 1000 := Nat.mul_le_mul (by omega) hby
    omega
  · intro v' w' k1 k2 k3
    have t2 : Turn v.ownBlock.toList W w' := by
      refine (hal.more (by simp)).trans k2 (fun g hg => .inl hg)
    have hne : v'.ownBlock = v.ownBlock ∨ v'.ownBlock = some (W.heap.size + 1) := by
      rcases k3 with k3 | k3
      · exact .inl k3
      · right; rw [k3]; simp
    refine h v' w' ⟨css ++ [cs], by simp [h1], ?_, ?_, ?_⟩ t2 ?_
    · rw [List.length_append, List.flatten_append]
      simpa using k1
    · intro g hg
      rcases hne with k | k
      · exact h3 g (by rw [← k]; exact hg)
      · rw [k] at hg; injection hg with hg; rw [← hg]; exact hA
    · have hold : ∀ cs' x', R (fun g => A g ∧ v.ownBlock ≠ some g) W cs' x' → R (fun g => A g ∧ v'.ownBlock ≠ some g) w' cs' x' := fun cs' x' hr' => by
        have hm : R (fun g => (A g ∧ v.ownBlock ≠ some g) ∧ g < W.heap.size) W cs' x' := hR.mono hr' (fun g ha hg => ⟨ha, hg⟩)
        refine hR.mono (hR.turn hm t2 (fun g hg ha => ha.1.2 (by simpa using hg))) (fun g ha _ => ⟨ha.1.1, fun e => ?_⟩)
        rcases hne with k | k
        · exact ha.1.2 (by rw [← k]; exact e)
        · rw [k] at e; injection e with e; have := ha.2; omega
      intro i cs' x' hc hx'
      by_cases hi' : i < l.length
      · rw [List.getElem?_append_left (by omega)] at hc
        rw [List.getElem?_append_left hi'] at hx'
        exact hold _ _ (h4 i cs' x' hc hx')
      · have hil : i = l.length := by
          have := (List.getElem?_eq_some_iff.1 hx').1
          rw [List.length_append] at this
          simp at this
          omega
        subst hil
        rw [List.getElem?_append_right (by omega), h1] at hc
        rw [List.getElem?_append_right (Nat.le_refl _)] at hx'
        simp at hc hx'
        subst hc hx'
        exact hold _ _ hr
    · rcases hne with k | k
      · exact .inl k
      · exact .inr ⟨_, k, by omega⟩
end
end Go.Proofs.YtbocejiclellfaaGreatDoor

/- append of one thing onto a list of the program's own, at a step of a region that draws its order. -/
set_option linter.unusedSimpArgs false
set_option linter.unusedVariables false
set_option maxRecDepth 100000
namespace Go.Proofs.YtbocejiclellfaaGreatDoor
open Go.RowKit

section
variable {P : Program} {α : Type}
theorem step_appL {ops : Array Oper} {o : Oper} {a : Act} {K : Act → World → Prop} {Q : Exit → Act → World → Prop} {E : Prop} (hgd : o.guard = none) (s x : Operand) (t : TypeId)
    (ho : o.op = .call { callee := .builtin .append, args := #[s, x], argTypes := #[t, t] })
    (W : World) (e sz bytes : Nat) (z : Value) (R : Rdg α) (hR : GoodR sz R) (A : Nat → Prop) (ht : P.underlying t = some (.slice e)) (hi : (P.info? e).map (fun i => (i.zero, i.size, i.bytes)) = some (some z, sz, bytes))
    (hzs : z.cells.size = sz) (hsz : 0 < sz) (hby : bytes ≤ 1000)
    (v : Value) (l : List α) (hs : a.eval s = v) (hown : OwnL e sz R A W v l) (vb c : Nat) (cs : List Value) (y : α) (hb : W.heap[vb]? = some (.cells cs.toArray e (0, 0))) (hr : R (fun g => A g ∧ v.ownBlock ≠ some g) W cs y)
    (hx : a.eval x = .slice (some ⟨vb, 0, none⟩) 1 c) (hl : l.length ≤ 1000000) (hA : A W.heap.size)
    (h : ∀ v' w', OwnL e sz R A w' v' (l ++ [y]) → Turn v.ownBlock.toList W w' → K (a.put o.dst v') w') :
    if Region.wanted o (yielded ops a.tmps) = true then Oper.wp P o a W K Q else E := by
  obtain ⟨css, h1, h2, h3, h4⟩ := hown
  have hlen := hR.len hr
  refine step_appR hgd s x t ho W e z sz bytes ht hi hzs hsz v l.length css.flatten hs h2 _ 1 c cs hx ?_ (hR.one hr) (by simp only [maxLen]; omega) ?_ ?_
  · refine ⟨by rw [hlen]; omega, .inr ⟨vb, 0, rfl, (Array.getElem?_eq_some_iff.1 hb).1, fun j u hj => ?_⟩⟩
    rw [Nat.zero_add, cell_of_row _ vb _ _ _ _ hb]
    simpa using hj
  · have : (l.length + 1) * bytes ≤ 1000001 * 1000 := Nat.mul_le_mul (by omega) hby
    omega
  · intro v' w' k1 k2 hne
    refine h v' w' ⟨css ++ [cs], by simp [h1], ?_, ?_, ?_⟩ k2
    · rw [List.length_append, List.flatten_append]
      simpa using k1
    · intro g hg
      rcases hne with k | k
      · exact h3 g (by rw [← k]; exact hg)
      · rw [k] at hg; injection hg with hg; rw [← hg]; exact hA
    · have hold : ∀ cs' x', R (fun g => A g ∧ v.ownBlock ≠ some g) W cs' x' → R (fun g => A g ∧ v'.ownBlock ≠ some g) w' cs' x' := fun cs' x' hr' => by
        have hm : R (fun g => (A g ∧ v.ownBlock ≠ some g) ∧ g < W.heap.size) W cs' x' := hR.mono hr' (fun g ha hg => ⟨ha, hg⟩)
        refine hR.mono (hR.turn hm k2 (fun g hg ha => ha.1.2 (by simpa using hg))) (fun g ha _ => ⟨ha.1.1, fun e => ?_⟩)
        rcases hne with k | k
        · exact ha.1.2 (by rw [← k]; exact e)
        · rw [k] at e; injection e with e; have := ha.2; omega
      intro i cs' x' hc hx'
      by_cases hi' : i < l.length
      · rw [List.getElem?_append_left (by omega)] at hc
        rw [List.getElem?_append_left hi'] at hx'
        exact hold _ _ (h4 i cs' x' hc hx')
      · have hil : i = l.length := by
          have := (List.getElem?_eq_some_iff.1 hx').1
          rw [List.length_append] at this
          simp at this
          omega
        subst hil
        rw [List.getElem?_append_right (by omega), h1] at hc
        rw [List.getElem?_append_right (Nat.le_refl _)] at hx'
        simp at hc hx'
        subst hc hx'
        exact hold _ _ hr
end
end Go.Proofs.YtbocejiclellfaaGreatDoor

/- The program's wide sets: of numbers below 2^20 (at most one of package ints' sets). Printed by mkwid.py. -/
set_option linter.unusedSimpArgs false
set_option linter.unusedVariables false
set_option maxRecDepth 100000
namespace Go.Proofs.YtbocejiclellfaaGreatDoor
open Go.RowKit

theorem of_none (w : World) : Calls Tryz.prog 77 #[.slice none 0 0] w fun e w' => e = .returned (.pointer (some ⟨w.heap.size, 0, none⟩)) ∧ w' = w.alloc (.cells #[.slice none 0 0, .int .i64 0] 133) := by
  go_enter Tryz.func77, Tryz.ntmps77
  go_wp2
  refine wp_loop_rounds 1 ?_
  rw [rounds_succ]
  go_wp2
  go_ret
  exact ⟨rfl, rfl⟩
theorem pSet_info : (Tryz.prog.info? 126).map (fun i => (i.zero, i.size, i.bytes)) = some (some (.pointer none), 1, 8) := by kernel_rfl

/-- Block b is a wide set of the numbers l, all of it in the blocks F. -/
def Wd (w : World) (b : Nat) (F : List Nat) (l : List Int) : Prop :=
  (w.heap[b]? = some (.cells #[.slice none 0 0] 110 (0, 0)) ∧ l = [] ∧ F = [b]) ∨
  ∃ g c sb v rs, w.heap[b]? = some (.cells #[.slice (some ⟨g, 0, none⟩) 1 c] 110 (0, 0)) ∧ g < w.heap.size ∧ w.cell? ⟨g, 0, none⟩ = some (.pointer (some ⟨sb, 0, none⟩)) ∧ SetAt w sb v rs ∧ nums rs = l ∧
    F = b :: g :: sb :: v.ownBlock.toList ∧ b ≠ g ∧ b ≠ sb ∧ g ≠ sb ∧ (∀ x, v.ownBlock = some x → x ≠ b ∧ x ≠ g)
theorem Wd.turn {w w' : World} {b : Nat} {F G : List Nat} {l : List Int} (h : Wd w b F l) (t : Turn G w w') (hG : ∀ g ∈ G, g ∉ F) : Wd w' b F l := by
  rcases h with ⟨h1, h2, rfl⟩ | ⟨g, c, sb, v, rs, h1, h2, h3, h4, h5, rfl, h6, h7, h8, h9⟩
  · exact .inl ⟨t.heap h1 (fun hg => hG b hg (by simp)), h2, rfl⟩
  · exact .inr ⟨g, c, sb, v, rs, t.heap h1 (fun hg => hG b hg (by simp)), Nat.lt_of_lt_of_le h2 t.size, (t.cell (p := ⟨g, 0, none⟩) h2 (fun hg => hG g hg (by simp))).trans h3,
      h4.turn t (fun hg => hG sb hg (by simp)) (fun x hx hg => hG x hg (by simp [hx])), h5, rfl, h6, h7, h8, h9⟩
theorem Wd.lt {w : World} {b : Nat} {F : List Nat} {l : List Int} (h : Wd w b F l) : b ∈ F ∧ ∀ g ∈ F, g < w.heap.size := by
  rcases h with ⟨h1, h2, rfl⟩ | ⟨g, c, sb, v, rs, h1, h2, h3, h4, h5, rfl, h6, h7, h8, h9⟩
  · have := (Array.getElem?_eq_some_iff.1 h1).1
    exact ⟨by simp, by simp; exact this⟩
  · have hb := (Array.getElem?_eq_some_iff.1 h1).1
    have hs := h4.lt
    refine ⟨by simp, fun x hx => ?_⟩
    simp at hx
    rcases hx with rfl | rfl | rfl | hx
    · exact hb
    · exact h2
    · exact hs
    · exact (h4.rows.lt x hx).2
theorem Wd.new (w : World) : Wd (w.alloc (.cells #[.slice none 0 0] 110)) w.heap.size [w.heap.size] [] := .inl ⟨heap_alloc_new w _, rfl, rfl⟩
/-- Is there no set yet? -/
def noSet (w : World) (b : Nat) : Nat := match w.cell? ⟨b, 0, none⟩ with
  | some (.slice none _ _) => 1
  | _ => 0

theorem wd_made {w wr W5 w6 : World} {b r : Nat} {F F' : List Nat} {l : List Int} {v6 : Value} (hbl : b < wr.heap.size) (hl : l = [] ∧ F' = [b]) (hT : Turn F w wr) (hF : Foot w.heap.size F F') (h6 : Turn [] wr w6) (h5 : wr.heap.size ≤ W5.heap.size)
    (hb : w6.heap[b]? = some (.cells #[.slice none 0 0] 110 (0, 0))) (hs : w6.heap[r]? = some (.cells #[.slice none 0 0, .int .i64 0] 133 (0, 0))) (ho : w6.ownsRow 0 126 1 v6 (0 + 1) ([] ++ [.pointer (some ⟨r, 0, none⟩)]))
    (hm : v6.ownBlock = (Value.slice none 0 0).ownBlock ∨ v6.ownBlock = some W5.heap.size) (hzr : wr.heap.size = r) :
    ∃ F'', Wd (w6.setCell ⟨b, 0, none⟩ v6) b F'' l ∧ Turn F w (w6.setCell ⟨b, 0, none⟩ v6) ∧ Foot w.heap.size F F'' := by
  obtain ⟨rfl, rfl⟩ := hl
  have ho2 := ho
  rcases ho.2 with ⟨_, h0⟩ | ⟨g, cap, cur, rfl, _, hg, hnc, hcm, hcs, ht⟩
  · simp at h0
  have hgl : g < w6.heap.size := (Array.getElem?_eq_some_iff.1 hg).1
  have hgb : g ≠ b := fun e => by rw [e, hb] at hg; injection hg with hg; injection hg with _ hg _; cases hg
  have hgr : g ≠ r := fun e => by rw [e, hs] at hg; injection hg with hg; injection hg with _ hg _; cases hg
  have hrb : r ≠ b := by omega
  have hgw : wr.heap.size ≤ g := by
    rcases hm with hm | hm
    · cases hm
    · have hm' : some g = some W5.heap.size := hm
      injection hm' with hm'
      omega
  have hcell : w6.cell? ⟨g, 0, none⟩ = some (.pointer (some ⟨r, 0, none⟩)) := by
    rcases (Rws.of_owns ho2).2.2.2 with h | ⟨b', off, e, _, hc⟩
    · simp at h
    · injection e with e
      injection e with e1 e2
      subst e1 e2
      exact hc 0 _ rfl
  have ts : Turn [b] w6 (w6.setCell ⟨b, 0, none⟩ (.slice (some ⟨g, 0, none⟩) (0 + 1) cap)) := (Turn.refl [b] w6).setCell (.inl (by simp)) _
  have hwr := hT.size
  refine ⟨b :: g :: r :: (Value.slice none 0 0).ownBlock.toList, .inr ⟨g, cap, r, .slice none 0 0, [], heap_setCell_same w6 b 0 _ _ _ hb, Nat.lt_of_lt_of_le hgl ts.size, (ts.cell (p := ⟨g, 0, none⟩) hgl (by simpa using hgb)).trans hcell, ⟨ts.heap hs (by simpa using hrb), World.ownsRow_nil _ 0 139 5, Ok.nil⟩, rfl, rfl, fun e => hgb e.symm, fun e => hrb e.symm, hgr, fun x hx => by cases hx⟩, (hT.trans' h6).setCell (hF b (by simp)) _, ?_⟩
  intro x hx
  simp [Value.ownBlock] at hx
  rcases hx with rfl | rfl | rfl
  · exact hF _ (by simp)
  · exact .inr (by omega)
  · exact .inr (by omega)
theorem wd_less {wr w6 : World} {b : Nat} {v6 : Value} {xs : List Value} (h : wr.heap[b]? = some (.cells #[.slice none 0 0] 110 (0, 0))) (h6 : w6.heap[b]? = some (.cells #[.slice none 0 0] 110 (0, 0))) (ho : w6.ownsRow 0 126 1 v6 (0 + 1) xs) :
    noSet (w6.setCell ⟨b, 0, none⟩ v6) b < noSet wr b := by
  rcases ho.2 with ⟨_, h0⟩ | ⟨g, cap, cur, rfl, _⟩
  · simp at h0
  have e1 : noSet wr b = 1 := by unfold noSet; rw [cell_of_row wr b 0 _ _ _ h]; rfl
  have e2 : noSet (w6.setCell ⟨b, 0, none⟩ (.slice (some ⟨g, 0, none⟩) (0 + 1) cap)) b = 0 := by
    unfold noSet
    rw [cell_of_row _ b 0 _ _ _ (heap_setCell_same w6 b 0 _ _ _ h6)]
    rfl
  omega
theorem wd_added {w wr w1 : World} {b g c sb : Nat} {v v' : Value} {rs' : List Row} {F F' : List Nat} (hT : Turn F w wr) (hF : Foot w.heap.size F F')
    (hX : wr.heap[b]? = some (.cells #[.slice (some ⟨g, 0, none⟩) 1 c] 110 (0, 0)) ∧ g < wr.heap.size ∧ wr.cell? ⟨g, 0, none⟩ = some (.pointer (some ⟨sb, 0, none⟩)) ∧ F' = b :: g :: sb :: v.ownBlock.toList ∧ b ≠ g ∧ b ≠ sb ∧ g ≠ sb ∧ (∀ x, v.ownBlock = some x → x ≠ b ∧ x ≠ g))
    (hs : SetAt w1 sb v' rs') (t : Turn (sb :: v.ownBlock.toList) wr w1) (hm : Moved wr v v') :
    ∃ F'', Wd w1 b F'' (nums rs') ∧ Turn F w w1 ∧ Foot w.heap.size F F'' := by
  obtain ⟨hb, hg, hc, rfl, n1, n2, n3, n4⟩ := hX
  have hbl := (Array.getElem?_eq_some_iff.1 hb).1
  have hnb : b ∉ sb :: v.ownBlock.toList := by
    simp
    exact ⟨n2, fun h => (n4 b h).1 rfl⟩
  have hng : g ∉ sb :: v.ownBlock.toList := by
    simp
    exact ⟨n3, fun h => (n4 g h).2 rfl⟩
  have hv' : ∀ x, v'.ownBlock = some x → (v.ownBlock = some x ∨ wr.heap.size ≤ x) := fun x hx => by
    rcases hm with hm | ⟨y, hy, hle⟩
    · exact .inl (by rw [← hm]; exact hx)
    · rw [hx] at hy
      injection hy with hy
      subst hy
      exact .inr hle
  refine ⟨b :: g :: sb :: v'.ownBlock.toList, .inr ⟨g, c, sb, v', rs', t.heap hb hnb, Nat.lt_of_lt_of_le hg t.size, (t.cell (p := ⟨g, 0, none⟩) hg hng).trans hc, hs, rfl, rfl, n1, n2, n3, ?_⟩, ?_, ?_⟩
  · intro x hx
    rcases hv' x hx with h | h
    · exact n4 x h
    · exact ⟨by omega, by omega⟩
  · refine hT.trans t (fun x hx => ?_)
    have : x ∈ b :: g :: sb :: v.ownBlock.toList := by simp at hx ⊢; rcases hx with rfl | hx <;> simp_all
    exact hF x this
  · intro x hx
    simp at hx
    rcases hx with rfl | rfl | rfl | hx
    · exact hF _ (by simp)
    · exact hF _ (by simp)
    · exact hF _ (by simp)
    · rcases hv' x hx with h | h
      · exact hF x (by simp [h])
      · exact .inr (Nat.le_trans hT.size h)

set_option maxHeartbeats 6400000 in
theorem wadd_any (b : Nat) (F : List Nat) (l : List Int) (n : Nat) (hn : n < 1048576) (w : World) (h : Wd w b F l) :
    Calls Tryz.prog 60 #[.pointer (some ⟨b, 0, none⟩), .int .i64 (n : Int)] w fun e w' => e = .returned (.bool (!hasB l n)) ∧ ∃ F', Wd w' b F' (putL l n) ∧ Turn F w w' ∧ Foot w.heap.size F F' := by
  have d0 : Int.tdiv (n : Int) 1048576 = 0 := Int.tdiv_eq_zero_of_lt (by omega) (by omega)
  have d1 : Int.tmod (n : Int) 1048576 = (n : Int) := Int.tmod_eq_of_lt (by omega) (by omega)
  have d2 : (n : Int) / 1048576 = 0 := by omega
  have d3 : (n : Int) % 1048576 = (n : Int) := by omega
  have HH := Lib.hid h
  clear h
  go_enter Tryz.func60, Tryz.ntmps60
  go_wp2_with fail
  go_loopw [12] (fun _ wr => Hid (∃ F', Wd wr b F' l ∧ Turn F w wr ∧ Foot w.heap.size F F')) (fun _ wr => noSet wr b)
  case atStart => exact Lib.hid ⟨F, HH.out, Turn.refl _ _, Foot.refl _ _⟩
  case round =>
    have HR := hrel
    clear hrel
    obtain ⟨F', hW, hT, hF⟩ := HR.out
    have HT := Lib.hid hT
    have HF := Lib.hid hF
    clear hT hF HR
    rcases hW with ⟨hb, hl, hF'⟩ | ⟨g, c, sb, v, rs, hb, hg, hc, hs, hnums, hF', n1, n2, n3, n4⟩
    · have c0 : wr.cell? ⟨b, 0, none⟩ = some (.slice none 0 0) := cell_of_row wr b 0 _ _ _ hb
      have hbl : b < wr.heap.size := (Array.getElem?_eq_some_iff.1 hb).1
      have HB := Lib.hid hb
      have HL := Lib.hid (And.intro hl hF')
      obtain ⟨r, hr⟩ : ∃ r, wr.heap.size = r := ⟨_, rfl⟩
      have t4 : Turn [] wr (wr.drew.alloc (.cells #[.slice none 0 0, .int .i64 0] 133)) := ((Turn.refl [] wr).drew).alloc _
      have c4 : (wr.drew.alloc (.cells #[.slice none 0 0, .int .i64 0] 133)).cell? ⟨b, 0, none⟩ = some (.slice none 0 0) := (t4.cell (p := ⟨b, 0, none⟩) hbl (by simp)).trans c0
      obtain ⟨W4, hW4⟩ : ∃ W, wr.drew.alloc (.cells #[.slice none 0 0, .int .i64 0] 133) = W := ⟨_, rfl⟩
      have hs4 : W4.heap.size = r + 1 := by rw [← hW4, ← hr]; simp
      have b4 : W4.heap[r]? = some (.cells #[.slice none 0 0, .int .i64 0] 133 (0, 0)) := by rw [← hW4, ← hr]; exact heap_alloc_new wr.drew _
      rw [hW4] at t4 c4
      have HO : Hid (Calls Tryz.prog 77 #[.slice none 0 0] wr.drew fun e w' => e = .returned (.pointer (some ⟨r, 0, none⟩)) ∧ w' = W4) := Lib.hid ((of_none wr.drew).mono fun e w' h => by rw [← hr, ← hW4]; exact h)
      obtain ⟨W5, hW5⟩ : ∃ W, W4.alloc (.cells #[.pointer (some ⟨r, 0, none⟩)] 126) = W := ⟨_, rfl⟩
      have t5 : Turn [] W4 W5 := by rw [← hW5]; exact (Turn.refl [] W4).alloc _
      have c5 : W5.cell? ⟨b, 0, none⟩ = some (.slice none 0 0) := (t5.cell (p := ⟨b, 0, none⟩) (show b < W4.heap.size by omega) (by simp)).trans c4
      have b5 : W5.heap[r]? = some (.cells #[.slice none 0 0, .int .i64 0] 133 (0, 0)) := t5.heap b4 (by simp)
      have p5 : W5.heap[r + 1]? = some (.cells #[.pointer (some ⟨r, 0, none⟩)] 126 (0, 0)) := by rw [← hW5, ← hs4]; exact heap_alloc_new W4 _
      have c6 : (W4.alloc (.cells #[.pointer (some ⟨r, 0, none⟩)] 126)).cell? ⟨b, 0, none⟩ = some (.slice none 0 0) := by rw [hW5]; exact c5
      have HT5 := Lib.hid (t4.trans' t5)
      have HW5 := Lib.hid hW5
      have HB5 := Lib.hid (And.intro b5 p5)
      have HSZ := Lib.hid (And.intro hs4 hr)
      clear hb hl hF' hW4 hW5 t4 t5 b4 b5 p5
      go_wp2_with fail
      refine wp_region_held_drew (S := fun w' => True) (by kernel_rfl) ?_ (fun hHeld => ?_)
      · trivial
      refine wpAnyH_take (i := 0) (oi := { dst := some 13, op := Op.move (Operand.tmp 0), type := 125, pos := _, after := #[], guard := none }) (v := ?_) rfl (by kernel_rfl) (by kernel_rfl) (by kernel_rfl) (fun _ _ _ h => h) (Or.inl ⟨by rfl, ?_⟩) (by assumption) ?_
      rotate_left
      · intro w hSw; (try dsimp only at hSw); go_simp; (try with_reducible rfl)
      try simp only [Act.put, List.setIfInBounds_toArray, List.set_cons_zero, List.set_cons_succ]
      refine wpAnyH_take (i := 1) (oi := { dst := some 14, op := Op.move (Operand.tmp 0), type := 125, pos := _, after := #[], guard := none }) (v := ?_) rfl (by kernel_rfl) (by kernel_rfl) (by kernel_rfl) (fun _ _ _ h => h) (Or.inl ⟨by rfl, ?_⟩) (by assumption) ?_
      rotate_left
      · intro w hSw; (try dsimp only at hSw); go_simp; (try with_reducible rfl)
      try simp only [Act.put, List.setIfInBounds_toArray, List.set_cons_zero, List.set_cons_succ]
      refine wpAnyH_take (i := 2) (oi := { dst := some 15, op := Op.nilCheck (Operand.tmp 14), type := 0, pos := _, after := #[{ on := 1, ground := Ground.data }], guard := none }) (v := ?_) rfl (by kernel_rfl) (by kernel_rfl) (by kernel_rfl) (fun _ _ _ h => h) (Or.inl ⟨by rfl, ?_⟩) (by assumption) ?_
      rotate_left
      · intro w hSw; (try dsimp only at hSw); go_simp; (try with_reducible rfl)
      try simp only [Act.put, List.setIfInBounds_toArray, List.set_cons_zero, List.set_cons_succ]
      refine wpAnyH_take (i := 3) (oi := { dst := some 16, op := Op.fieldAddr 110 (Operand.tmp 15) 0, type := 0, pos := _, after := #[{ on := 2, ground := Ground.data }], guard := none }) (v := ?_) rfl (by kernel_rfl) (by kernel_rfl) (by kernel_rfl) (fun _ _ _ h => h) (Or.inl ⟨by rfl, ?_⟩) (by assumption) ?_
      rotate_left
      · intro w hSw; (try dsimp only at hSw); go_simp; (try with_reducible rfl)
      try simp only [Act.put, List.setIfInBounds_toArray, List.set_cons_zero, List.set_cons_succ]
      refine wpAnyH_ready (rs := [4, 5]) (by kernel_rfl) (by simp) ?_
      refine AllReadyH.cons (o := { dst := some 17, op := Op.load 108 (Operand.tmp 16), type := 108, pos := _, after := #[{ on := 3, ground := Ground.data }], guard := none }) rfl (fun K hK => ?_) (AllReadyH.cons (o := { dst := some 18, op := Op.call { callee := Callee.value (Operand.func 77), args := #[Operand.const (Value.slice none 0 0)], argTypes := #[63] }, type := 126, pos := _, after := #[], guard := none }) rfl (fun K hK => ?_) AllReadyH.nil)
      · go_simp
        refine hK.out _ _ ?_ (fun hHeld => ?_)
        · trivial
        clear hK K
        try simp only [Act.put, List.setIfInBounds_toArray, List.set_cons_zero, List.set_cons_succ]
        refine wpAnyH_ready (rs := [5]) (by kernel_rfl) (by simp) ?_
        refine AllReadyH.cons (o := { dst := some 18, op := Op.call { callee := Callee.value (Operand.func 77), args := #[Operand.const (Value.slice none 0 0)], argTypes := #[63] }, type := 126, pos := _, after := #[], guard := none }) rfl (fun K hK => ?_) AllReadyH.nil
        go_simp
        go_at_call 77
        (with_reducible refine HO.out.mono ?_)
        rintro e4 w4 ⟨rfl, hw4⟩
        obtain rfl := hw4.symm
        try go_wp2_with fail
        refine hK.out _ _ ?_ (fun hHeld => ?_)
        · trivial
        clear hK K
        try simp only [Act.put, List.setIfInBounds_toArray, List.set_cons_zero, List.set_cons_succ]
        refine wpAnyH_ready (rs := [6]) (by kernel_rfl) (by simp) ?_
        refine AllReadyH.cons (o := { dst := some 19, op := Op.buildSlice 108 1 #[(0, Operand.tmp 18)], type := 108, pos := _, after := #[{ on := 5, ground := Ground.data }], guard := none }) rfl (fun K hK => ?_) AllReadyH.nil
        go_simp
        refine hK.out _ _ ?_ (fun hHeld => ?_)
        · trivial
        clear hK K
        try simp only [Act.put, List.setIfInBounds_toArray, List.set_cons_zero, List.set_cons_succ]
        refine wpAnyH_ready (rs := [7]) (by kernel_rfl) (by simp) ?_
        refine AllReadyH.cons (o := { dst := some 20, op := Op.call { callee := Callee.builtin Builtin.append, args := #[Operand.tmp 17, Operand.tmp 19], argTypes := #[108, 108] }, type := 108, pos := _, after := #[{ on := 4, ground := Ground.data }, { on := 6, ground := Ground.data }, { on := 5, ground := Ground.chain }], guard := none }) rfl (fun K hK => ?_) AllReadyH.nil
        rw [HW5.out]
        refine step_appR rfl (.tmp 17) (.tmp 19) 108 rfl W5 126 (.pointer none) 1 8 Tryz.underlying108 pSet_info rfl (by omega) (.slice none 0 0) 0 [] (by simp [Act.eval, Act.put]) (World.ownsRow_nil W5 0 126 1) (some ⟨W4.heap.size, 0, none⟩) 1 1 [.pointer (some ⟨r, 0, none⟩)] (by simp [Act.eval, Act.put]) ⟨rfl, .inr ⟨W4.heap.size, 0, rfl, by rw [HSZ.out.1]; exact (Array.getElem?_eq_some_iff.1 HB5.out.2).1, fun j u hj => by rw [HSZ.out.1, Nat.zero_add, cell_of_row W5 (r + 1) j _ _ _ HB5.out.2]; simpa using hj⟩⟩ (by intro u hu; simp at hu; subst hu; rfl) (by decide) (by decide) ?_
        intro v6 w6 ho6 t6 hm6
        obtain ⟨A6, q6, rfl, _, _⟩ := owns_form ho6
        have t6' : Turn [] W5 w6 := t6
        have d4 : w6.cell? ⟨b, 0, none⟩ = some (.slice none 0 0) := (t6'.cell (p := ⟨b, 0, none⟩) (show b < W5.heap.size by have := HT5.out.size; omega) (by simp)).trans c5
        have HT6 := Lib.hid (HT5.out.trans' t6')
        have hb6 := HT6.out.heap HB.out (by simp)
        have df : w6.frozen? ⟨b, 0, none⟩ = false := frozen_of_row w6 b 0 _ _ hb6
        have HS6 := Lib.hid (t6'.heap HB5.out.1 (by simp))
        have HO6 := Lib.hid (And.intro ho6 hm6)
        have HB6 := Lib.hid hb6
        have HT56 := Lib.hid t6'
        clear ho6 t6 hm6 hb6 t6'
        refine hK.out _ _ ?_ (fun hHeld => ?_)
        · trivial
        clear hK K
        try simp only [Act.put, List.setIfInBounds_toArray, List.set_cons_zero, List.set_cons_succ]
        refine wpAnyH_take (i := 8) (oi := { dst := some 21, op := Op.nilCheck (Operand.tmp 13), type := 0, pos := _, after := #[{ on := 0, ground := Ground.data }, { on := 0, ground := Ground.phase }, { on := 1, ground := Ground.phase }, { on := 2, ground := Ground.phase }, { on := 3, ground := Ground.phase }, { on := 4, ground := Ground.phase }, { on := 5, ground := Ground.phase }, { on := 6, ground := Ground.phase }, { on := 7, ground := Ground.phase }], guard := none }) (v := ?_) rfl (by kernel_rfl) (by kernel_rfl) (by kernel_rfl) (fun _ _ _ h => h) (Or.inl ⟨by rfl, ?_⟩) (by assumption) ?_
        rotate_left
        · intro w hSw; (try dsimp only at hSw); go_simp; (try with_reducible rfl)
        try simp only [Act.put, List.setIfInBounds_toArray, List.set_cons_zero, List.set_cons_succ]
        refine wpAnyH_take (i := 9) (oi := { dst := some 22, op := Op.fieldAddr 110 (Operand.tmp 21) 0, type := 0, pos := _, after := #[{ on := 8, ground := Ground.data }, { on := 0, ground := Ground.phase }, { on := 1, ground := Ground.phase }, { on := 2, ground := Ground.phase }, { on := 3, ground := Ground.phase }, { on := 4, ground := Ground.phase }, { on := 5, ground := Ground.phase }, { on := 6, ground := Ground.phase }, { on := 7, ground := Ground.phase }], guard := none }) (v := ?_) rfl (by kernel_rfl) (by kernel_rfl) (by kernel_rfl) (fun _ _ _ h => h) (Or.inl ⟨by rfl, ?_⟩) (by assumption) ?_
        rotate_left
        · intro w hSw; (try dsimp only at hSw); go_simp; (try with_reducible rfl)
        try simp only [Act.put, List.setIfInBounds_toArray, List.set_cons_zero, List.set_cons_succ]
        refine wpAnyH_ready (rs := [10]) (by kernel_rfl) (by simp) ?_
        refine AllReadyH.cons (o := { dst := none, op := Op.store 108 (Operand.tmp 22) (Operand.tmp 20), type := 0, pos := _, after := #[{ on := 9, ground := Ground.data }, { on := 7, ground := Ground.data }, { on := 7, ground := Ground.chain }, { on := 0, ground := Ground.phase }, { on := 1, ground := Ground.phase }, { on := 2, ground := Ground.phase }, { on := 3, ground := Ground.phase }, { on := 4, ground := Ground.phase }, { on := 5, ground := Ground.phase }, { on := 6, ground := Ground.phase }, { on := 7, ground := Ground.phase }], guard := none }) rfl (fun K hK => ?_) AllReadyH.nil
        go_simp
        refine hK.out _ _ ?_ (fun hHeld => ?_)
        · trivial
        clear hK K
        try simp only [Act.put, List.setIfInBounds_toArray, List.set_cons_zero, List.set_cons_succ]
        refine wpAnyH_done (by kernel_rfl) ?_ _
        go_wp2_with fail
        go_roundw
        case rel => exact Lib.hid (wd_made hbl HL.out HT.out HF.out HT6.out HT5.out.size HB6.out HS6.out HO6.out.1 HO6.out.2 HSZ.out.2)
        case measure => exact wd_less HB.out HB6.out HO6.out.1
      · go_simp
        go_at_call 77
        (with_reducible refine HO.out.mono ?_)
        rintro e4 w4 ⟨rfl, hw4⟩
        obtain rfl := hw4.symm
        try go_wp2_with fail
        refine hK.out _ _ ?_ (fun hHeld => ?_)
        · trivial
        clear hK K
        try simp only [Act.put, List.setIfInBounds_toArray, List.set_cons_zero, List.set_cons_succ]
        refine wpAnyH_ready (rs := [4, 6]) (by kernel_rfl) (by simp) ?_
        refine AllReadyH.cons (o := { dst := some 17, op := Op.load 108 (Operand.tmp 16), type := 108, pos := _, after := #[{ on := 3, ground := Ground.data }], guard := none }) rfl (fun K hK => ?_) (AllReadyH.cons (o := { dst := some 19, op := Op.buildSlice 108 1 #[(0, Operand.tmp 18)], type := 108, pos := _, after := #[{ on := 5, ground := Ground.data }], guard := none }) rfl (fun K hK => ?_) AllReadyH.nil)
        · go_simp
          refine hK.out _ _ ?_ (fun hHeld => ?_)
          · trivial
          clear hK K
          try simp only [Act.put, List.setIfInBounds_toArray, List.set_cons_zero, List.set_cons_succ]
          refine wpAnyH_ready (rs := [6]) (by kernel_rfl) (by simp) ?_
          refine AllReadyH.cons (o := { dst := some 19, op := Op.buildSlice 108 1 #[(0, Operand.tmp 18)], type := 108, pos := _, after := #[{ on := 5, ground := Ground.data }], guard := none }) rfl (fun K hK => ?_) AllReadyH.nil
          go_simp
          refine hK.out _ _ ?_ (fun hHeld => ?_)
          · trivial
          clear hK K
          try simp only [Act.put, List.setIfInBounds_toArray, List.set_cons_zero, List.set_cons_succ]
          refine wpAnyH_ready (rs := [7]) (by kernel_rfl) (by simp) ?_
          refine AllReadyH.cons (o := { dst := some 20, op := Op.call { callee := Callee.builtin Builtin.append, args := #[Operand.tmp 17, Operand.tmp 19], argTypes := #[108, 108] }, type := 108, pos := _, after := #[{ on := 4, ground := Ground.data }, { on := 6, ground := Ground.data }, { on := 5, ground := Ground.chain }], guard := none }) rfl (fun K hK => ?_) AllReadyH.nil
          rw [HW5.out]
          refine step_appR rfl (.tmp 17) (.tmp 19) 108 rfl W5 126 (.pointer none) 1 8 Tryz.underlying108 pSet_info rfl (by omega) (.slice none 0 0) 0 [] (by simp [Act.eval, Act.put]) (World.ownsRow_nil W5 0 126 1) (some ⟨W4.heap.size, 0, none⟩) 1 1 [.pointer (some ⟨r, 0, none⟩)] (by simp [Act.eval, Act.put]) ⟨rfl, .inr ⟨W4.heap.size, 0, rfl, by rw [HSZ.out.1]; exact (Array.getElem?_eq_some_iff.1 HB5.out.2).1, fun j u hj => by rw [HSZ.out.1, Nat.zero_add, cell_of_row W5 (r + 1) j _ _ _ HB5.out.2]; simpa using hj⟩⟩ (by intro u hu; simp at hu; subst hu; rfl) (by decide) (by decide) ?_
          intro v6 w6 ho6 t6 hm6
          obtain ⟨A6, q6, rfl, _, _⟩ := owns_form ho6
          have t6' : Turn [] W5 w6 := t6
          have d4 : w6.cell? ⟨b, 0, none⟩ = some (.slice none 0 0) := (t6'.cell (p := ⟨b, 0, none⟩) (show b < W5.heap.size by have := HT5.out.size; omega) (by simp)).trans c5
          have HT6 := Lib.hid (HT5.out.trans' t6')
          have hb6 := HT6.out.heap HB.out (by simp)
          have df : w6.frozen? ⟨b, 0, none⟩ = false := frozen_of_row w6 b 0 _ _ hb6
          have HS6 := Lib.hid (t6'.heap HB5.out.1 (by simp))
          have HO6 := Lib.hid (And.intro ho6 hm6)
          have HB6 := Lib.hid hb6
          have HT56 := Lib.hid t6'
          clear ho6 t6 hm6 hb6 t6'
          refine hK.out _ _ ?_ (fun hHeld => ?_)
          · trivial
          clear hK K
          try simp only [Act.put, List.setIfInBounds_toArray, List.set_cons_zero, List.set_cons_succ]
          refine wpAnyH_take (i := 8) (oi := { dst := some 21, op := Op.nilCheck (Operand.tmp 13), type := 0, pos := _, after := #[{ on := 0, ground := Ground.data }, { on := 0, ground := Ground.phase }, { on := 1, ground := Ground.phase }, { on := 2, ground := Ground.phase }, { on := 3, ground := Ground.phase }, { on := 4, ground := Ground.phase }, { on := 5, ground := Ground.phase }, { on := 6, ground := Ground.phase }, { on := 7, ground := Ground.phase }], guard := none }) (v := ?_) rfl (by kernel_rfl) (by kernel_rfl) (by kernel_rfl) (fun _ _ _ h => h) (Or.inl ⟨by rfl, ?_⟩) (by assumption) ?_
          rotate_left
          · intro w hSw; (try dsimp only at hSw); go_simp; (try with_reducible rfl)
          try simp only [Act.put, List.setIfInBounds_toArray, List.set_cons_zero, List.set_cons_succ]
          refine wpAnyH_take (i := 9) (oi := { dst := some 22, op := Op.fieldAddr 110 (Operand.tmp 21) 0, type := 0, pos := _, after := #[{ on := 8, ground := Ground.data }, { on := 0, ground := Ground.phase }, { on := 1, ground := Ground.phase }, { on := 2, ground := Ground.phase }, { on := 3, ground := Ground.phase }, { on := 4, ground := Ground.phase }, { on := 5, ground := Ground.phase }, { on := 6, ground := Ground.phase }, { on := 7, ground := Ground.phase }], guard := none }) (v := ?_) rfl (by kernel_rfl) (by kernel_rfl) (by kernel_rfl) (fun _ _ _ h => h) (Or.inl ⟨by rfl, ?_⟩) (by assumption) ?_
          rotate_left
          · intro w hSw; (try dsimp only at hSw); go_simp; (try with_reducible rfl)
          try simp only [Act.put, List.setIfInBounds_toArray, List.set_cons_zero, List.set_cons_succ]
          refine wpAnyH_ready (rs := [10]) (by kernel_rfl) (by simp) ?_
          refine AllReadyH.cons (o := { dst := none, op := Op.store 108 (Operand.tmp 22) (Operand.tmp 20), type := 0, pos := _, after := #[{ on := 9, ground := Ground.data }, { on := 7, ground := Ground.data }, { on := 7, ground := Ground.chain }, { on := 0, ground := Ground.phase }, { on := 1, ground := Ground.phase }, { on := 2, ground := Ground.phase }, { on := 3, ground := Ground.phase }, { on := 4, ground := Ground.phase }, { on := 5, ground := Ground.phase }, { on := 6, ground := Ground.phase }, { on := 7, ground := Ground.phase }], guard := none }) rfl (fun K hK => ?_) AllReadyH.nil
          go_simp
          refine hK.out _ _ ?_ (fun hHeld => ?_)
          · trivial
          clear hK K
          try simp only [Act.put, List.setIfInBounds_toArray, List.set_cons_zero, List.set_cons_succ]
          refine wpAnyH_done (by kernel_rfl) ?_ _
          go_wp2_with fail
          go_roundw
          case rel => exact Lib.hid (wd_made hbl HL.out HT.out HF.out HT6.out HT5.out.size HB6.out HS6.out HO6.out.1 HO6.out.2 HSZ.out.2)
          case measure => exact wd_less HB.out HB6.out HO6.out.1
        · go_simp
          refine hK.out _ _ ?_ (fun hHeld => ?_)
          · trivial
          clear hK K
          try simp only [Act.put, List.setIfInBounds_toArray, List.set_cons_zero, List.set_cons_succ]
          refine wpAnyH_ready (rs := [4]) (by kernel_rfl) (by simp) ?_
          refine AllReadyH.cons (o := { dst := some 17, op := Op.load 108 (Operand.tmp 16), type := 108, pos := _, after := #[{ on := 3, ground := Ground.data }], guard := none }) rfl (fun K hK => ?_) AllReadyH.nil
          go_simp
          refine hK.out _ _ ?_ (fun hHeld => ?_)
          · trivial
          clear hK K
          try simp only [Act.put, List.setIfInBounds_toArray, List.set_cons_zero, List.set_cons_succ]
          refine wpAnyH_ready (rs := [7]) (by kernel_rfl) (by simp) ?_
          refine AllReadyH.cons (o := { dst := some 20, op := Op.call { callee := Callee.builtin Builtin.append, args := #[Operand.tmp 17, Operand.tmp 19], argTypes := #[108, 108] }, type := 108, pos := _, after := #[{ on := 4, ground := Ground.data }, { on := 6, ground := Ground.data }, { on := 5, ground := Ground.chain }], guard := none }) rfl (fun K hK => ?_) AllReadyH.nil
          rw [HW5.out]
          refine step_appR rfl (.tmp 17) (.tmp 19) 108 rfl W5 126 (.pointer none) 1 8 Tryz.underlying108 pSet_info rfl (by omega) (.slice none 0 0) 0 [] (by simp [Act.eval, Act.put]) (World.ownsRow_nil W5 0 126 1) (some ⟨W4.heap.size, 0, none⟩) 1 1 [.pointer (some ⟨r, 0, none⟩)] (by simp [Act.eval, Act.put]) ⟨rfl, .inr ⟨W4.heap.size, 0, rfl, by rw [HSZ.out.1]; exact (Array.getElem?_eq_some_iff.1 HB5.out.2).1, fun j u hj => by rw [HSZ.out.1, Nat.zero_add, cell_of_row W5 (r + 1) j _ _ _ HB5.out.2]; simpa using hj⟩⟩ (by intro u hu; simp at hu; subst hu; rfl) (by decide) (by decide) ?_
          intro v6 w6 ho6 t6 hm6
          obtain ⟨A6, q6, rfl, _, _⟩ := owns_form ho6
          have t6' : Turn [] W5 w6 := t6
          have d4 : w6.cell? ⟨b, 0, none⟩ = some (.slice none 0 0) := (t6'.cell (p := ⟨b, 0, none⟩) (show b < W5.heap.size by have := HT5.out.size; omega) (by simp)).trans c5
          have HT6 := Lib.hid (HT5.out.trans' t6')
          have hb6 := HT6.out.heap HB.out (by simp)
          have df : w6.frozen? ⟨b, 0, none⟩ = false := frozen_of_row w6 b 0 _ _ hb6
          have HS6 := Lib.hid (t6'.heap HB5.out.1 (by simp))
          have HO6 := Lib.hid (And.intro ho6 hm6)
          have HB6 := Lib.hid hb6
          have HT56 := Lib.hid t6'
          clear ho6 t6 hm6 hb6 t6'
          refine hK.out _ _ ?_ (fun hHeld => ?_)
          · trivial
          clear hK K
          try simp only [Act.put, List.setIfInBounds_toArray, List.set_cons_zero, List.set_cons_succ]
          refine wpAnyH_take (i := 8) (oi := { dst := some 21, op := Op.nilCheck (Operand.tmp 13), type := 0, pos := _, after := #[{ on := 0, ground := Ground.data }, { on := 0, ground := Ground.phase }, { on := 1, ground := Ground.phase }, { on := 2, ground := Ground.phase }, { on := 3, ground := Ground.phase }, { on := 4, ground := Ground.phase }, { on := 5, ground := Ground.phase }, { on := 6, ground := Ground.phase }, { on := 7, ground := Ground.phase }], guard := none }) (v := ?_) rfl (by kernel_rfl) (by kernel_rfl) (by kernel_rfl) (fun _ _ _ h => h) (Or.inl ⟨by rfl, ?_⟩) (by assumption) ?_
          rotate_left
          · intro w hSw; (try dsimp only at hSw); go_simp; (try with_reducible rfl)
          try simp only [Act.put, List.setIfInBounds_toArray, List.set_cons_zero, List.set_cons_succ]
          refine wpAnyH_take (i := 9) (oi := { dst := some 22, op := Op.fieldAddr 110 (Operand.tmp 21) 0, type := 0, pos := _, after := #[{ on := 8, ground := Ground.data }, { on := 0, ground := Ground.phase }, { on := 1, ground := Ground.phase }, { on := 2, ground := Ground.phase }, { on := 3, ground := Ground.phase }, { on := 4, ground := Ground.phase }, { on := 5, ground := Ground.phase }, { on := 6, ground := Ground.phase }, { on := 7, ground := Ground.phase }], guard := none }) (v := ?_) rfl (by kernel_rfl) (by kernel_rfl) (by kernel_rfl) (fun _ _ _ h => h) (Or.inl ⟨by rfl, ?_⟩) (by assumption) ?_
          rotate_left
          · intro w hSw; (try dsimp only at hSw); go_simp; (try with_reducible rfl)
          try simp only [Act.put, List.setIfInBounds_toArray, List.set_cons_zero, List.set_cons_succ]
          refine wpAnyH_ready (rs := [10]) (by kernel_rfl) (by simp) ?_
          refine AllReadyH.cons (o := { dst := none, op := Op.store 108 (Operand.tmp 22) (Operand.tmp 20), type := 0, pos := _, after := #[{ on := 9, ground := Ground.data }, { on := 7, ground := Ground.data }, { on := 7, ground := Ground.chain }, { on := 0, ground := Ground.phase }, { on := 1, ground := Ground.phase }, { on := 2, ground := Ground.phase }, { on := 3, ground := Ground.phase }, { on := 4, ground := Ground.phase }, { on := 5, ground := Ground.phase }, { on := 6, ground := Ground.phase }, { on := 7, ground := Ground.phase }], guard := none }) rfl (fun K hK => ?_) AllReadyH.nil
          go_simp
          refine hK.out _ _ ?_ (fun hHeld => ?_)
          · trivial
          clear hK K
          try simp only [Act.put, List.setIfInBounds_toArray, List.set_cons_zero, List.set_cons_succ]
          refine wpAnyH_done (by kernel_rfl) ?_ _
          go_wp2_with fail
          go_roundw
          case rel => exact Lib.hid (wd_made hbl HL.out HT.out HF.out HT6.out HT5.out.size HB6.out HS6.out HO6.out.1 HO6.out.2 HSZ.out.2)
          case measure => exact wd_less HB.out HB6.out HO6.out.1
    · have hnn : 0 < rs.length ∨ True := .inr trivial
      have c0 : wr.cell? ⟨b, 0, none⟩ = some (.slice (some ⟨g, 0, none⟩) 1 c) := cell_of_row wr b 0 _ _ _ hb
      have hc0 : wr.cell? ⟨g, 0, none⟩ = some (.pointer (some ⟨sb, 0, none⟩)) := hc
      have HA := Lib.hid (add_any sb v rs (n : Int) wr hs)
      have hok : okB (n : Int) = true := by simp [okB]; omega
      have HN := Lib.hid (And.intro hnums hok)
      have HX := Lib.hid (And.intro hb (And.intro hg (And.intro hc (And.intro hF' (And.intro n1 (And.intro n2 (And.intro n3 n4)))))))
      have hgl : g < wr.heap.size := hg
      clear hb hg hc hs hnums hF' n1 n2 n3 n4 hok hnn
      go_wp2_with fail
      refine HA.out.mono ?_
      rintro e w1 ⟨rfl, v', rs', hs', hn', t', hm⟩
      go_wp2_with fail
      go_ret
      refine ⟨ret_bool (by rw [HN.out.2, HN.out.1]; rfl), ?_⟩
      rw [← HN.out.1, ← hn']
      exact wd_added HT.out HF.out HX.out hs' t' hm
end Go.Proofs.YtbocejiclellfaaGreatDoor
