/- The row's numbers, appended to a list. -/
import Derived.Test.YtclofjlonncnlaaDoorHas
import Derived.Test.YtclofjlonncnlaaDoorBl
set_option linter.unusedSimpArgs false
set_option linter.unusedVariables false
namespace Go.Proofs.YtclofjlonncnlaaDoor
open Go.RowKit
attribute [local go_sem] idx44_0 idx44_1 idx44_2 idx44_3

/-- math/bits' table lies in its variable. -/
def Tab (w : World) : Prop := TabAt 0 Lib.deBruijn64tab w
theorem Tab.turn {F : List Nat} {w w' : World} (h : Tab w) (t : Turn F w w') (h0 : 0 ∉ F) : Tab w' := fun j hj => by
  have hc := h j hj
  have hl : 0 < w.heap.size := World.block_lt_of_cell? w ⟨0, j, none⟩ hc
  exact (t.cell (p := ⟨0, j, none⟩) hl h0).trans hc
theorem Tab.turn' {w w' : World} (h : Tab w) (t : Turn [] w w') : Tab w' := h.turn t (by simp)
def wordNums (base : Int) (x : Nat) : List Int := (bitsL x).map (fun j : Nat => base + (j : Int))
/-- The row's numbers, rising. -/
def Row.nums (r : Row) : List Int := wordNums (r.at_ * 256) r.w0 ++ wordNums (r.at_ * 256 + 64) r.w1 ++ wordNums (r.at_ * 256 + 128) r.w2 ++ wordNums (r.at_ * 256 + 192) r.w3
theorem wordNums_length (b : Int) (x : Nat) : (wordNums b x).length ≤ 64 := by
  have := bitsL_length x
  simpa [wordNums] using this
theorem wordNums_step {b : Int} {x c : Nat} (h : bitsL x = c :: bitsL (x &&& (x - 1))) : wordNums b x = (b + (c : Int)) :: wordNums b (x &&& (x - 1)) := by simp [wordNums, h]
theorem wordNums_zero (b : Int) : wordNums b 0 = [] := by simp [wordNums, bitsL_zero]
/-- Half way through a word: o is the list so far, y what is left of the word. -/
def Mid (w : World) (box : Array Value) (B : Nat) (v : Value) (base : Int) (tgt : List Int) (o x : Value) (wr : World) : Prop :=
  wr.heap[w.heap.size]? = some (.cells box 46 (0, 0)) ∧ ∃ (y : Nat) (l : List Int), x = .int .u64 y ∧ y < 18446744073709551616 ∧ OwnI wr B o l ∧ l ++ wordNums base y = tgt ∧ Turn v.ownBlock.toList w wr ∧ (∀ g, o.ownBlock = some g → g ∈ v.ownBlock.toList ∨ w.heap.size ≤ g)
theorem OwnI.ne_box {w : World} {B b : Nat} {v : Value} {l : List Int} {cs : Array Value} {f : Nat × Nat} {t : TypeId} (h : OwnI w B v l) (hb : w.heap[b]? = some (.cells cs t f)) (ht : t ≠ 3) : v.ownBlock ≠ some b := by
  intro e
  rcases h.2 with ⟨rfl, _⟩ | ⟨g, cap, cur, rfl, _, hg, _⟩
  · simp [Value.ownBlock] at e
  · simp [Value.ownBlock] at e
    subst e
    rw [hb] at hg
    injection hg with hg
    injection hg with _ e _
    exact ht e
theorem and_pred_u64 (y : Nat) (hy : y < 18446744073709551616) (h0 : y ≠ 0) : bits BinOp.and IntKind.u64 (y : Int) ((y : Int) - 1) = ((y &&& (y - 1) : Nat) : Int) := by
  rw [show (y : Int) - 1 = ((y - 1 : Nat) : Int) by omega, u64_and_nat _ _ hy (by omega)]
theorem tz_known (y c : Nat) (hy : y < 18446744073709551616) (h0 : y ≠ 0) (hc : Lib.ctz 64 y = c) (W : World) (hT : Tab W) : Calls Tryd.prog 40 #[.int .u64 y] W fun e w' => e = .returned (.int .i64 c) ∧ W = w' := by
  subst hc
  exact tz64_any y hy h0 W hT

set_option maxHeartbeats 2000000 in
theorem appendTo_walk (a w0 w1 w2 w3 B : Nat) (v : Value) (l : List Int) (w : World) (ha : a < 4096) (b0 : w0 < 18446744073709551616) (b1 : w1 < 18446744073709551616) (b2 : w2 < 18446744073709551616) (b3 : w3 < 18446744073709551616)
    (hv : OwnI w B v l) (hB : B ≤ w.heap.size) (hB0 : 0 < B) (hl : l.length ≤ 1100000) (hT : Tab w) :
    Calls Tryd.prog 30 #[.agg #[.int .i64 a, .int .u64 w0, .int .u64 w1, .int .u64 w2, .int .u64 w3], v] w fun e w' => ∃ v', e = .returned v' ∧ OwnI w' B v' (l ++ (Row.mk a w0 w1 w2 w3).nums) ∧ Turn v.ownBlock.toList w w' ∧ (∀ g, v'.ownBlock = some g → g ∈ v.ownBlock.toList ∨ w.heap.size ≤ g) := by
  have HV := Lib.hid hv
  have HTab := Lib.hid hT
  have h0F : 0 ∉ v.ownBlock.toList := by
    intro h
    have := (hv.lt 0 (by simpa using h)).1
    omega
  have H0F := Lib.hid h0F
  clear hv hT h0F
  go_enter Tryd.func30, Tryd.ntmps30
  go_wp2_with fail
  refine wp_loop_rounds 5 ?_
  rw [rounds_succ]
  go_wp2_with fail
  go_loopw [1, 6] (fun o x wr => Mid w #[.int .i64 a, .int .u64 w0, .int .u64 w1, .int .u64 w2, .int .u64 w3] B v ((a : Int) * 256) (l ++ wordNums ((a : Int) * 256) w0) o x wr) (fun _ x _ => (intOf x).toNat)
  case atStart => exact ⟨heap_alloc_new w _, w0, l, rfl, b0, HV.out.turn' ((Turn.refl _ _).alloc _), rfl, (Turn.refl _ _).alloc _, fun g hg => .inl (by simpa using hg)⟩
  case round =>
    obtain ⟨hbox, y, l1, rfl, hy, ho, he, ht, hfoot⟩ := hrel
    have hcb : wr.cell? ⟨w.heap.size, 0, none⟩ = some (.int .i64 a) := cell_of_row wr w.heap.size 0 _ 46 (0, 0) hbox
    have HBx := Lib.hid hbox
    clear hbox
    have HO := Lib.hid ho
    have HE := Lib.hid he
    have HT := Lib.hid ht
    have HFo := Lib.hid hfoot
    clear ho he ht hfoot
    by_cases hy0 : y = 0
    · subst hy0
      have hfin : OwnI wr B u1 (l ++ wordNums ((a : Int) * 256) w0) := by
        rw [← HE.out, wordNums_zero, List.append_nil]
        exact HO.out
      have HFin0 := Lib.hid hfin
      have HT0 := HT
      have HBx0 := HBx
      have HF0 := HFo
      clear HO HE HT HFo HBx hfin hy
      go_wp2
      rw [rounds_succ]
      go_wp2_with fail
      go_loopw [1, 6] (fun o x wr => Mid w #[.int .i64 a, .int .u64 w0, .int .u64 w1, .int .u64 w2, .int .u64 w3] B v ((a : Int) * 256 + 64) (l ++ wordNums ((a : Int) * 256) w0 ++ wordNums ((a : Int) * 256 + 64) w1) o x wr) (fun _ x _ => (intOf x).toNat)
      case atStart => exact ⟨HBx0.out, w1, l ++ wordNums ((a : Int) * 256) w0, rfl, b1, HFin0.out, rfl, HT0.out, HF0.out⟩
      case round =>
        obtain ⟨hbox, y, l1, rfl, hy, ho, he, ht, hfoot⟩ := hrel
        have hcb : wr.cell? ⟨w.heap.size, 0, none⟩ = some (.int .i64 a) := cell_of_row wr w.heap.size 0 _ 46 (0, 0) hbox
        have HBx := Lib.hid hbox
        clear hbox
        have HO := Lib.hid ho
        have HE := Lib.hid he
        have HT := Lib.hid ht
        have HFo := Lib.hid hfoot
        clear ho he ht hfoot
        by_cases hy0 : y = 0
        · subst hy0
          have hfin : OwnI wr B u1 (l ++ wordNums ((a : Int) * 256) w0 ++ wordNums ((a : Int) * 256 + 64) w1) := by
            rw [← HE.out, wordNums_zero, List.append_nil]
            exact HO.out
          have HFin1 := Lib.hid hfin
          have HT1 := HT
          have HBx1 := HBx
          have HF1 := HFo
          clear HO HE HT HFo HBx hfin hy
          go_wp2
          rw [rounds_succ]
          go_wp2_with fail
          go_loopw [1, 6] (fun o x wr => Mid w #[.int .i64 a, .int .u64 w0, .int .u64 w1, .int .u64 w2, .int .u64 w3] B v ((a : Int) * 256 + 128) (l ++ wordNums ((a : Int) * 256) w0 ++ wordNums ((a : Int) * 256 + 64) w1 ++ wordNums ((a : Int) * 256 + 128) w2) o x wr) (fun _ x _ => (intOf x).toNat)
          case atStart => exact ⟨HBx1.out, w2, l ++ wordNums ((a : Int) * 256) w0 ++ wordNums ((a : Int) * 256 + 64) w1, rfl, b2, HFin1.out, rfl, HT1.out, HF1.out⟩
          case round =>
            obtain ⟨hbox, y, l1, rfl, hy, ho, he, ht, hfoot⟩ := hrel
            have hcb : wr.cell? ⟨w.heap.size, 0, none⟩ = some (.int .i64 a) := cell_of_row wr w.heap.size 0 _ 46 (0, 0) hbox
            have HBx := Lib.hid hbox
            clear hbox
            have HO := Lib.hid ho
            have HE := Lib.hid he
            have HT := Lib.hid ht
            have HFo := Lib.hid hfoot
            clear ho he ht hfoot
            by_cases hy0 : y = 0
            · subst hy0
              have hfin : OwnI wr B u1 (l ++ wordNums ((a : Int) * 256) w0 ++ wordNums ((a : Int) * 256 + 64) w1 ++ wordNums ((a : Int) * 256 + 128) w2) := by
                rw [← HE.out, wordNums_zero, List.append_nil]
                exact HO.out
              have HFin2 := Lib.hid hfin
              have HT2 := HT
              have HBx2 := HBx
              have HF2 := HFo
              clear HO HE HT HFo HBx hfin hy
              go_wp2
              rw [rounds_succ]
              go_wp2_with fail
              go_loopw [1, 6] (fun o x wr => Mid w #[.int .i64 a, .int .u64 w0, .int .u64 w1, .int .u64 w2, .int .u64 w3] B v ((a : Int) * 256 + 192) (l ++ wordNums ((a : Int) * 256) w0 ++ wordNums ((a : Int) * 256 + 64) w1 ++ wordNums ((a : Int) * 256 + 128) w2 ++ wordNums ((a : Int) * 256 + 192) w3) o x wr) (fun _ x _ => (intOf x).toNat)
              case atStart => exact ⟨HBx2.out, w3, l ++ wordNums ((a : Int) * 256) w0 ++ wordNums ((a : Int) * 256 + 64) w1 ++ wordNums ((a : Int) * 256 + 128) w2, rfl, b3, HFin2.out, rfl, HT2.out, HF2.out⟩
              case round =>
                obtain ⟨hbox, y, l1, rfl, hy, ho, he, ht, hfoot⟩ := hrel
                have hcb : wr.cell? ⟨w.heap.size, 0, none⟩ = some (.int .i64 a) := cell_of_row wr w.heap.size 0 _ 46 (0, 0) hbox
                have HBx := Lib.hid hbox
                clear hbox
                have HO := Lib.hid ho
                have HE := Lib.hid he
                have HT := Lib.hid ht
                have HFo := Lib.hid hfoot
                clear ho he ht hfoot
                by_cases hy0 : y = 0
                · subst hy0
                  have hfin : OwnI wr B u1 (l ++ wordNums ((a : Int) * 256) w0 ++ wordNums ((a : Int) * 256 + 64) w1 ++ wordNums ((a : Int) * 256 + 128) w2 ++ wordNums ((a : Int) * 256 + 192) w3) := by
                    rw [← HE.out, wordNums_zero, List.append_nil]
                    exact HO.out
                  have HFin3 := Lib.hid hfin
                  have HT3 := HT
                  have HBx3 := HBx
                  have HF3 := HFo
                  clear HO HE HT HFo HBx hfin hy
                  go_wp2
                  rw [rounds_succ]
                  go_wp2
                  go_ret
                  refine ⟨_, rfl, ?_, HT3.out, HF3.out⟩
                  have := HFin3.out
                  simpa [Row.nums, List.append_assoc] using this
                · have hne : ((y : Int) != 0) = true := by simp; omega
                  obtain ⟨hstep, hless, hc⟩ := bitsL_step y hy hy0
                  have hand := and_pred_u64 y hy hy0
                  generalize hcz : Lib.ctz 64 y = c at *
                  generalize hnx : y &&& (y - 1) = z at *
                  have hst : wordNums ((a : Int) * 256 + 192) y = (((a : Int) * 256 + 192) + (c : Int)) :: wordNums ((a : Int) * 256 + 192) z := by
                    have := hstep
                    rw [← hnx] at this ⊢
                    exact wordNums_step this
                  have hlen : l1.length ≤ 1000000 * 2 := by
                    have h1 := congrArg List.length HE.out
                    simp only [List.length_append] at h1
                    have h2 := wordNums_length (a * 256) w0
                    have h3 := wordNums_length (a * 256 + 64) w1
                    have h4 := wordNums_length (a * 256 + 128) w2
                    have h5 := wordNums_length (a * 256 + 192) w3
                    omega
                  have HS := Lib.hid hst
                  have HTz := Lib.hid (tz_known y c hy hy0 hcz)
                  have HZ := Lib.hid hnx
                  have H1 := Lib.hid hstep
                  have H2 := Lib.hid hcz
                  have hsub : IntKind.u64.wrap ((y : Int) - 1) = (y : Int) - 1 := by rw [IntKind.wrap_u64]; omega
                  clear hst hstep hcz hnx
                  go_wp2_with (first
                    | (go_at_call 40; refine (HTz.out _ (HTab.out.turn HT.out H0F.out)).mono ?_; rintro e w' ⟨rfl, rfl⟩)
                    | (at_builtin; refine wpList_app1' rfl (.tmp 26) (.tmp 31) rfl wr B u1 l1 _ _ rfl HO.out rfl (by omega) (Nat.le_trans hB HT.out.size) ?_; intro v1 w1' hv1 ht1 hat1))
                  go_roundw
                  case rel =>
                    refine ⟨(ht1.heap HBx.out (fun hg => HO.out.ne_box HBx.out (by decide) (by simpa using hg))), z, l1 ++ [((a : Int) * 256 + 192) + (c : Int)], rfl, by omega, by exact hv1, ?_, HT.out.trans ht1 (fun g hg => HFo.out g (by simpa using hg)), ?_⟩
                    · rw [← HE.out, HS.out]; simp
                    · intro g hg
                      rcases hat1 with e1 | ⟨g', e1, hge⟩
                      · exact HFo.out g (e1 ▸ hg)
                      · rw [e1] at hg
                        injection hg with hg
                        subst hg
                        exact .inr (Nat.le_trans HT.out.size hge)
                  case measure => simp [intOf]; omega
            · have hne : ((y : Int) != 0) = true := by simp; omega
              obtain ⟨hstep, hless, hc⟩ := bitsL_step y hy hy0
              have hand := and_pred_u64 y hy hy0
              generalize hcz : Lib.ctz 64 y = c at *
              generalize hnx : y &&& (y - 1) = z at *
              have hst : wordNums ((a : Int) * 256 + 128) y = (((a : Int) * 256 + 128) + (c : Int)) :: wordNums ((a : Int) * 256 + 128) z := by
                have := hstep
                rw [← hnx] at this ⊢
                exact wordNums_step this
              have hlen : l1.length ≤ 1000000 * 2 := by
                have h1 := congrArg List.length HE.out
                simp only [List.length_append] at h1
                have h2 := wordNums_length (a * 256) w0
                have h3 := wordNums_length (a * 256 + 64) w1
                have h4 := wordNums_length (a * 256 + 128) w2
                have h5 := wordNums_length (a * 256 + 192) w3
                omega
              have HS := Lib.hid hst
              have HTz := Lib.hid (tz_known y c hy hy0 hcz)
              have HZ := Lib.hid hnx
              have H1 := Lib.hid hstep
              have H2 := Lib.hid hcz
              have hsub : IntKind.u64.wrap ((y : Int) - 1) = (y : Int) - 1 := by rw [IntKind.wrap_u64]; omega
              clear hst hstep hcz hnx
              go_wp2_with (first
                | (go_at_call 40; refine (HTz.out _ (HTab.out.turn HT.out H0F.out)).mono ?_; rintro e w' ⟨rfl, rfl⟩)
                | (at_builtin; refine wpList_app1' rfl (.tmp 26) (.tmp 31) rfl wr B u1 l1 _ _ rfl HO.out rfl (by omega) (Nat.le_trans hB HT.out.size) ?_; intro v1 w1' hv1 ht1 hat1))
              go_roundw
              case rel =>
                refine ⟨(ht1.heap HBx.out (fun hg => HO.out.ne_box HBx.out (by decide) (by simpa using hg))), z, l1 ++ [((a : Int) * 256 + 128) + (c : Int)], rfl, by omega, by exact hv1, ?_, HT.out.trans ht1 (fun g hg => HFo.out g (by simpa using hg)), ?_⟩
                · rw [← HE.out, HS.out]; simp
                · intro g hg
                  rcases hat1 with e1 | ⟨g', e1, hge⟩
                  · exact HFo.out g (e1 ▸ hg)
                  · rw [e1] at hg
                    injection hg with hg
                    subst hg
                    exact .inr (Nat.le_trans HT.out.size hge)
              case measure => simp [intOf]; omega
        · have hne : ((y : Int) != 0) = true := by simp; omega
          obtain ⟨hstep, hless, hc⟩ := bitsL_step y hy hy0
          have hand := and_pred_u64 y hy hy0
          generalize hcz : Lib.ctz 64 y = c at *
          generalize hnx : y &&& (y - 1) = z at *
          have hst : wordNums ((a : Int) * 256 + 64) y = (((a : Int) * 256 + 64) + (c : Int)) :: wordNums ((a : Int) * 256 + 64) z := by
            have := hstep
            rw [← hnx] at this ⊢
            exact wordNums_step this
          have hlen : l1.length ≤ 1000000 * 2 := by
            have h1 := congrArg List.length HE.out
            simp only [List.length_append] at h1
            have h2 := wordNums_length (a * 256) w0
            have h3 := wordNums_length (a * 256 + 64) w1
            have h4 := wordNums_length (a * 256 + 128) w2
            have h5 := wordNums_length (a * 256 + 192) w3
            omega
          have HS := Lib.hid hst
          have HTz := Lib.hid (tz_known y c hy hy0 hcz)
          have HZ := Lib.hid hnx
          have H1 := Lib.hid hstep
          have H2 := Lib.hid hcz
          have hsub : IntKind.u64.wrap ((y : Int) - 1) = (y : Int) - 1 := by rw [IntKind.wrap_u64]; omega
          clear hst hstep hcz hnx
          go_wp2_with (first
            | (go_at_call 40; refine (HTz.out _ (HTab.out.turn HT.out H0F.out)).mono ?_; rintro e w' ⟨rfl, rfl⟩)
            | (at_builtin; refine wpList_app1' rfl (.tmp 26) (.tmp 31) rfl wr B u1 l1 _ _ rfl HO.out rfl (by omega) (Nat.le_trans hB HT.out.size) ?_; intro v1 w1' hv1 ht1 hat1))
          go_roundw
          case rel =>
            refine ⟨(ht1.heap HBx.out (fun hg => HO.out.ne_box HBx.out (by decide) (by simpa using hg))), z, l1 ++ [((a : Int) * 256 + 64) + (c : Int)], rfl, by omega, by exact hv1, ?_, HT.out.trans ht1 (fun g hg => HFo.out g (by simpa using hg)), ?_⟩
            · rw [← HE.out, HS.out]; simp
            · intro g hg
              rcases hat1 with e1 | ⟨g', e1, hge⟩
              · exact HFo.out g (e1 ▸ hg)
              · rw [e1] at hg
                injection hg with hg
                subst hg
                exact .inr (Nat.le_trans HT.out.size hge)
          case measure => simp [intOf]; omega
    · have hne : ((y : Int) != 0) = true := by simp; omega
      obtain ⟨hstep, hless, hc⟩ := bitsL_step y hy hy0
      have hand := and_pred_u64 y hy hy0
      generalize hcz : Lib.ctz 64 y = c at *
      generalize hnx : y &&& (y - 1) = z at *
      have hst : wordNums ((a : Int) * 256) y = (((a : Int) * 256) + (c : Int)) :: wordNums ((a : Int) * 256) z := by
        have := hstep
        rw [← hnx] at this ⊢
        exact wordNums_step this
      have hlen : l1.length ≤ 1000000 * 2 := by
        have h1 := congrArg List.length HE.out
        simp only [List.length_append] at h1
        have h2 := wordNums_length (a * 256) w0
        have h3 := wordNums_length (a * 256 + 64) w1
        have h4 := wordNums_length (a * 256 + 128) w2
        have h5 := wordNums_length (a * 256 + 192) w3
        omega
      have HS := Lib.hid hst
      have HTz := Lib.hid (tz_known y c hy hy0 hcz)
      have HZ := Lib.hid hnx
      have H1 := Lib.hid hstep
      have H2 := Lib.hid hcz
      have hsub : IntKind.u64.wrap ((y : Int) - 1) = (y : Int) - 1 := by rw [IntKind.wrap_u64]; omega
      clear hst hstep hcz hnx
      go_wp2_with (first
        | (go_at_call 40; refine (HTz.out _ (HTab.out.turn HT.out H0F.out)).mono ?_; rintro e w' ⟨rfl, rfl⟩)
        | (at_builtin; refine wpList_app1' rfl (.tmp 26) (.tmp 31) rfl wr B u1 l1 _ _ rfl HO.out rfl (by omega) (Nat.le_trans hB HT.out.size) ?_; intro v1 w1' hv1 ht1 hat1))
      go_roundw
      case rel =>
        refine ⟨(ht1.heap HBx.out (fun hg => HO.out.ne_box HBx.out (by decide) (by simpa using hg))), z, l1 ++ [((a : Int) * 256) + (c : Int)], rfl, by omega, by exact hv1, ?_, HT.out.trans ht1 (fun g hg => HFo.out g (by simpa using hg)), ?_⟩
        · rw [← HE.out, HS.out]; simp
        · intro g hg
          rcases hat1 with e1 | ⟨g', e1, hge⟩
          · exact HFo.out g (e1 ▸ hg)
          · rw [e1] at hg
            injection hg with hg
            subst hg
            exact .inr (Nat.le_trans HT.out.size hge)
      case measure => simp [intOf]; omega
end Go.Proofs.YtclofjlonncnlaaDoor
