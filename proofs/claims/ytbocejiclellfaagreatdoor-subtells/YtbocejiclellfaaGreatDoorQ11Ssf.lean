import Derived.Test.YtbocejiclellfaaGreatDoorQ10Orp
import Derived.BigQuiet
import Derived.Test.YtbocejiclellfaaGreatDoorQ01IApp
import Derived.Test.YtbocejiclellfaaGreatDoorQ00IKit
import Derived.Test.YtbocejiclellfaaGreatDoorQ07Rpl
import Derived.Test.YtbocejiclellfaaGreatDoorQ08Rma
import Derived.Deep.RegionHeld3

/- The brackets behind a text: strings.CutSuffix. -/
set_option linter.unusedSimpArgs false
set_option linter.unusedVariables false
namespace Go.Proofs.YtbocejiclellfaaGreatDoor
open Go.RowKit

set_option maxHeartbeats 1600000 in
theorem hasSuffix_any (t : ByteArray) (w : World) (ht : t.size ≤ 562949953421312) :
    Calls Tryz.prog 80 #[.string t, .string ⟨#[91, 93]⟩] w fun e w' => e = .returned (.bool (cutB t).isSome) ∧ w = w' := by
  obtain ⟨n, hn⟩ : ∃ n, t.size = n := ⟨_, rfl⟩
  have hsz : (⟨#[91, 93]⟩ : ByteArray).size = 2 := rfl
  by_cases h : 2 ≤ n
  · have d1 : decide ((n : Int) ≥ 2) = true := by simp; omega
    have d2 : decide ((2 : Int) ≤ (n : Int)) = true := by simp; omega
    have hw : IntKind.i64.wrap ((n : Int) - 2) = (n : Int) - 2 := by rw [IntKind.wrap_i64]; omega
    have hbl := br_list (a := t.extract (n - 2) n)
    by_cases e : t.extract (n - 2) n = tBr
    · have e1 : ((t.extract (n - 2) n).toList == [91, 93]) = true := by rw [hbl, e]; simp
      have HC := Lib.hid (br_yes (t := t) (by rw [hn]; exact h) (by rw [hn]; exact e))
      clear e hbl
      go_enter Tryz.func80, Tryz.ntmps80
      go_wp2_with fail
      go_ret
      exact ⟨by rw [HC.out]; rfl, rfl⟩
    · have e1 : ((t.extract (n - 2) n).toList == [91, 93]) = false := by rw [hbl]; simp [e]
      have HC := Lib.hid (br_no (t := t) (by rw [hn]; exact e))
      clear e hbl
      go_enter Tryz.func80, Tryz.ntmps80
      go_wp2_with fail
      go_ret
      exact ⟨by rw [HC.out]; rfl, rfl⟩
  · have d1 : decide ((n : Int) ≥ 2) = false := by simp; omega
    have d2 : decide ((2 : Int) ≤ (n : Int)) = false := by simp; omega
    have HC := Lib.hid (br_not (t := t) (by rw [hn]; exact h))
    go_enter Tryz.func80, Tryz.ntmps80
    go_wp2_with fail
    go_ret
    exact ⟨by rw [HC.out]; rfl, rfl⟩
theorem cutB_size {t s : ByteArray} (h : cutB t = some s) : 2 ≤ t.size ∧ s = t.extract 0 (t.size - 2) := by
  unfold cutB at h
  split at h
  · rename_i c
    injection h with h
    exact ⟨c.1, h.symm⟩
  · cases h
set_option maxHeartbeats 1600000 in
theorem slCut_any (t : ByteArray) (w : World) (ht : t.size ≤ 562949953421312) :
    Calls Tryz.prog 63 #[.string t, .string ⟨#[91, 93]⟩] w fun e w' => e = .returned (.tuple #[.string ((cutB t).getD t), .bool (cutB t).isSome]) ∧ w = w' := by
  have HS := Lib.hid (hasSuffix_any t w ht)
  obtain ⟨n, hn⟩ : ∃ n, t.size = n := ⟨_, rfl⟩
  have hsz : (⟨#[91, 93]⟩ : ByteArray).size = 2 := rfl
  obtain ⟨o, ho⟩ : ∃ o, cutB t = o := ⟨_, rfl⟩
  rw [ho] at HS ⊢
  cases o with
  | none =>
    go_enter Tryz.func63, Tryz.ntmps63
    go_wp2_with fail
    refine HS.out.mono ?_
    rintro e w1 ⟨rfl, rfl⟩
    go_wp2_with fail
    go_ret2
    exact ⟨rfl, rfl⟩
  | some s =>
    obtain ⟨h2, hs⟩ := cutB_size ho
    rw [hn] at h2 hs
    have hw : IntKind.i64.wrap ((n : Int) - 2) = (n : Int) - 2 := by rw [IntKind.wrap_i64]; omega
    have HSS := Lib.hid hs
    clear hs ho
    go_enter Tryz.func63, Tryz.ntmps63
    go_wp2_with fail
    refine HS.out.mono ?_
    rintro e w1 ⟨rfl, rfl⟩
    go_wp2_with fail
    go_ret2
    exact ⟨by rw [HSS.out]; rfl, rfl⟩
set_option maxHeartbeats 1600000 in
theorem cut_any (t : ByteArray) (w : World) (ht : t.size ≤ 562949953421312) :
    Calls Tryz.prog 38 #[.string t, .string ⟨#[91, 93]⟩] w fun e w' => e = .returned (.tuple #[.string ((cutB t).getD t), .bool (cutB t).isSome]) ∧ w = w' := by
  have HS := Lib.hid (slCut_any t w ht)
  obtain ⟨s, hs⟩ : ∃ s, (cutB t).getD t = s := ⟨_, rfl⟩
  obtain ⟨o, ho⟩ : ∃ o, (cutB t).isSome = o := ⟨_, rfl⟩
  rw [hs, ho] at HS ⊢
  clear hs ho
  go_enter Tryz.func38, Tryz.ntmps38
  go_wp2_with fail
  refine HS.out.mono ?_
  rintro e w1 ⟨rfl, rfl⟩
  go_wp2_with fail
  go_ret2
  exact ⟨rfl, rfl⟩
end Go.Proofs.YtbocejiclellfaaGreatDoor

/- slices.BinarySearch of rising ints. -/
set_option linter.unusedSimpArgs false
set_option linter.unusedVariables false
namespace Go.Proofs.YtbocejiclellfaaGreatDoor
open Go.RowKit

set_option maxHeartbeats 1600000 in
theorem nan_any (x : Int) (w : World) : Calls Tryz.prog 81 #[.int .i64 x] w fun e w' => e = .returned (.bool false) ∧ w = w' := by
  have d : (x != x) = false := by simp
  go_enter Tryz.func81, Tryz.ntmps81
  go_wp2_with fail
  go_ret
  exact ⟨rfl, rfl⟩
set_option maxHeartbeats 1600000 in
theorem nan_any' (x : Int) (w : World) : Calls Tryz.prog 65 #[.int .i64 x] w fun e w' => e = .returned (.bool false) ∧ w = w' := by
  have d : (x != x) = false := by simp
  go_enter Tryz.func65, Tryz.ntmps65
  go_wp2_with fail
  go_ret
  exact ⟨rfl, rfl⟩
set_option maxHeartbeats 1600000 in
theorem cless_any (x y : Int) (w : World) : Calls Tryz.prog 64 #[.int .i64 x, .int .i64 y] w fun e w' => e = .returned (.bool (decide (x < y))) ∧ w = w' := by
  have HN := Lib.hid (nan_any x w)
  go_enter Tryz.func64, Tryz.ntmps64
  go_wp2_with fail
  refine HN.out.mono ?_
  rintro e w1 ⟨rfl, rfl⟩
  go_wp2_with fail
  go_ret
  exact ⟨rfl, rfl⟩
theorem sd_lt {L : List Int} (h : Sd L) {i j : Nat} {x y : Int} (hi : L[i]? = some x) (hj : L[j]? = some y) (hij : i < j) : x < y := by
  obtain ⟨h1, rfl⟩ := List.getElem?_eq_some_iff.1 hi
  obtain ⟨h2, rfl⟩ := List.getElem?_eq_some_iff.1 hj
  exact List.pairwise_iff_getElem.1 h i j h1 h2 hij
set_option maxHeartbeats 3200000 in
theorem bsInt_any (P : Option Addr) (n c : Nat) (L : List Int) (v : Int) (w : World) (h : Ints w P L) (hn : n = L.length) (hl : n ≤ 1000000) (hs : Sd L) :
    Calls Tryz.prog 41 #[.slice P n c, .int .i64 v] w fun e w' => ∃ k : Int, e = .returned (.tuple #[.int .i64 k, .bool (hasB L v)]) ∧ Turn [] w w' := by
  have HN := Lib.hid hn
  have H := Lib.hid h
  have HS := Lib.hid hs
  clear hn h hs
  go_enter Tryz.func41, Tryz.ntmps41
  go_wp2_with fail
  go_loopw [7, 8] (fun p q wr => ∃ i j : Nat, i ≤ j ∧ j ≤ n ∧ p = .int .i64 i ∧ q = .int .i64 j ∧ Hid (∀ (k : Nat) x, k < i → L[k]? = some x → x < v) ∧ Hid (∀ (k : Nat) x, j ≤ k → L[k]? = some x → v ≤ x) ∧ Hid (Turn [] w wr)) (fun p q _ => (intOf q - intOf p).toNat)
  case atStart => exact ⟨0, n, by omega, by omega, rfl, rfl, Lib.hid fun k r hk => by omega, Lib.hid fun k r hk hr => by
    have := (List.getElem?_eq_some_iff.1 hr).1
    have := HN.out
    omega, Lib.hid (Turn.refl _ _)⟩
  case round =>
    obtain ⟨i, j, hij, hj, rfl, rfl, H1, H2, HT⟩ := hrel
    by_cases hlt : i < j
    · have d0 : decide ((i : Int) < (j : Int)) = true := by simp; omega
      obtain ⟨m, hm⟩ : ∃ m, m = (i + j) / 2 := ⟨_, rfl⟩
      obtain ⟨x, hx⟩ := at_lt (show m < L.length by have := HN.out; omega)
      obtain ⟨g, off, rfl, hg, hc⟩ := (H.out.below HT.out) m x hx
      have HX := Lib.hid hx
      have hm1 : i ≤ m := by omega
      have hm2 : m < j := by omega
      have HM := Lib.hid hm
      have hmi : ((i : Int) + (j : Int)) / 2 = (m : Int) := by omega
      have HL := Lib.hid (cless_any x v wr)
      clear hx hm
      obtain ⟨b, hb⟩ : ∃ b, decide (x < v) = b := ⟨_, rfl⟩
      rw [hb] at HL
      have HB := Lib.hid hb
      clear hb
      go_wp2_with fail
      refine HL.out.mono ?_
      rintro e w1 ⟨rfl, rfl⟩
      cases b with
      | true =>
        go_wp2_with fail
        go_roundw
        case rel => exact ⟨m + 1, j, by omega, by omega, by go_num, rfl, Lib.hid fun k s hk hs => by
          have hxv : x < v := by simpa using HB.out
          rcases Nat.lt_or_ge k m with h3 | h3
          · have := sd_lt HS.out hs HX.out h3
            omega
          · have e : k = m := by omega
            subst e
            have := HX.out.symm.trans hs
            injection this with e
            omega, H2, HT⟩
        case measure => simp [intOf]; omega
      | false =>
        go_wp2_with fail
        go_roundw
        case rel => exact ⟨i, m, by omega, by omega, rfl, rfl, H1, Lib.hid fun k s hk hs => by
          have hxv : v ≤ x := by have := HB.out; simp at this; omega
          rcases Nat.lt_or_ge m k with h3 | h3
          · have := sd_lt HS.out HX.out hs h3
            omega
          · have e : k = m := by omega
            subst e
            have := HX.out.symm.trans hs
            injection this with e
            omega, HT⟩
        case measure => simp [intOf]; omega
    · obtain rfl : i = j := by omega
      have d0 : decide ((i : Int) < (i : Int)) = false := by simp
      by_cases hin : i < n
      · obtain ⟨x, hx⟩ := at_lt (show i < L.length by have := HN.out; omega)
        obtain ⟨g, off, rfl, hg, hc⟩ := (H.out.below HT.out) i x hx
        have hdi : decide ((i : Int) < (n : Int)) = true := by simp; omega
        have hh : hasB L v = (x == v) := by
          rw [Bool.eq_iff_iff, hasB_iff, beq_iff_eq]
          constructor
          · intro hv
            obtain ⟨k, hk⟩ := List.getElem?_of_mem hv
            rcases Nat.lt_trichotomy k i with h3 | h3 | h3
            · have := H1.out k v h3 hk
              omega
            · subst h3
              have := hx.symm.trans hk
              injection this
            · have h4 := sd_lt HS.out hx hk h3
              have h5 := H2.out i x (Nat.le_refl _) hx
              omega
          · rintro rfl
            exact List.mem_of_getElem? hx
        have HH := Lib.hid hh
        have HNx := Lib.hid (nan_any' x wr)
        clear hx hh
        cases hq : (x == v) with
        | true =>
          rw [hq] at HH
          go_wp2_with fail
          go_ret2
          exact ⟨_, ret_ib rfl HH.out.symm, HT.out⟩
        | false =>
          rw [hq] at HH
          go_wp2_with fail
          refine HNx.out.mono ?_
          rintro e w1 ⟨rfl, rfl⟩
          go_wp2_with fail
          go_ret2
          exact ⟨_, ret_ib rfl HH.out.symm, HT.out⟩
      · have hdi : decide ((i : Int) < (n : Int)) = false := by simp; omega
        have hh : hasB L v = false := by
          rw [Bool.eq_false_iff]
          intro hv
          rw [hasB_iff] at hv
          obtain ⟨k, hk⟩ := List.getElem?_of_mem hv
          have h4 := (List.getElem?_eq_some_iff.1 hk).1
          have := HN.out
          have := H1.out k v (by omega) hk
          omega
        have HH := Lib.hid hh
        clear hh
        go_wp2_with fail
        go_ret2
        exact ⟨_, ret_ib rfl HH.out.symm, HT.out⟩
end Go.Proofs.YtbocejiclellfaaGreatDoor

/- The types in memory: what their methods answer. -/
set_option linter.unusedSimpArgs false
set_option linter.unusedVariables false
set_option linter.unusedSectionVars false
namespace Go.Proofs.YtbocejiclellfaaGreatDoor
open Go.RowKit

/-- Texts along a row. -/
def Txs (W : World) (P : Option Addr) (ts : List ByteArray) : Prop := ∀ (k : Nat) (s : ByteArray), ts[k]? = some s → ∃ b off, P = some ⟨b, off, none⟩ ∧ b < W.heap.size ∧ W.cell? ⟨b, off + k, none⟩ = some (.string s)
theorem Txs.turn {W W' : World} {P : Option Addr} {ts : List ByteArray} (h : Txs W P ts) (k : Turn [] W W') : Txs W' P ts := fun j s hs => by
  obtain ⟨b, off, e, hb, hc⟩ := h j s hs
  exact ⟨b, off, e, Nat.lt_of_lt_of_le hb k.size, (k.cell (p := ⟨b, off + j, none⟩) hb (by simp)).trans hc⟩
theorem txs_one (W : World) (T : TypeId) (s : ByteArray) : Txs (W.alloc (.cells #[.string s] T)) (some ⟨W.heap.size, 0, none⟩) [s] := fun k z hz => by
  have h := heap_alloc_new W (.cells #[.string s] T)
  refine ⟨_, 0, rfl, by simp, ?_⟩
  rw [cell_of_row _ W.heap.size _ _ _ _ h]
  match k, hz with
  | 0, hz => simp at hz; subst hz; simp
  | k + 1, hz => simp at hz
/-- What New makes of the table at t: the types at x. -/
structure Ty (A : Option Addr) (B : Nat) (l : List K8) (r t m sz : Nat) (V : Value) (x : Nat) (VO : Value) (W : World) : Prop where
  bk : Bk A B l r t m sz V W
  blk : W.heap[x]? = some (.cells #[.pointer (some ⟨t, 0, none⟩), VO] 69 (0, 0))
  ord : OwnI W 0 VO (ordL (esL l))
  len : l.length ≤ 1000
  snd : ∀ j x, l[j]? = some x → sndB l j x = true
theorem Ty.turn {A : Option Addr} {B : Nat} {l : List K8} {r t m sz : Nat} {V : Value} {x : Nat} {VO : Value} {W W' : World} (h : Ty A B l r t m sz V x VO W) (k : Turn [] W W') : Ty A B l r t m sz V x VO W' :=
  ⟨h.bk.turn k, k.heap h.blk (by simp), h.ord.turn' k, h.len, h.snd⟩
theorem eq_ptrT (a : Addr) (w : World) : (binOp .eql 33 (.pointer (some a)) (.pointer none)).run Tryz.prog w = .ok (.bool false) w := by kernel_rfl
theorem en_nm {l : List K8} (hl : l.length ≤ 1000) (hs : ∀ j x, l[j]? = some x → sndB l j x = true) (i : Nat) : (enAt (esL l) (i : Int)).nm = nmL l i := by
  rcases Nat.lt_or_ge i l.length with h | h
  · obtain ⟨x, hx⟩ := at_lt h
    rw [enAt_nat (snd_entry hl (hs i x hx) hx), nmL_at hx]
  · rw [enAt_out (by rw [esL_len]; omega)]
    unfold nmL
    rw [List.getElem?_eq_none h]
    rfl
theorem lit_list {a : ByteArray} {L : List UInt8} : (a.toList == L) = decide (a = ⟨L.toArray⟩) := by
  rw [Bool.eq_iff_iff, beq_iff_eq, decide_eq_true_eq, ByteArray.toList_eq]
  constructor
  · intro h
    apply ByteArray.ext
    rw [← Array.toList_inj, h]
  · intro h
    rw [h]
def elT (l : List K8) (s : ByteArray) : ByteArray := match elI l s with | some i => nmL l i | none => ⟨#[]⟩
attribute [local go_sem] eq_ptrT
section
variable {A : Option Addr} {B : Nat} {l : List K8} {r t m sz : Nat} {V VO : Value} {x : Nat}
set_option maxHeartbeats 1600000 in
theorem lname_any (W : World) (b : Bk A B l r t m sz V W) (i : Int) : Calls Tryz.prog 26 #[.agg #[.pointer (some ⟨t, 0, none⟩), VO], .int .i64 i] W fun e w' => e = .returned (.string (enAt (esL l) i).nm) ∧ Turn [] W w' := by
  obtain ⟨r0, hr0⟩ : ∃ r, W.heap.size = r := ⟨_, rfl⟩
  obtain ⟨W0, hW0⟩ : ∃ W', W.alloc (.cells #[.pointer (some ⟨t, 0, none⟩), VO] 65) = W' := ⟨_, rfl⟩
  have t0 : Turn [] W W0 := by rw [← hW0]; exact (Turn.refl [] W).alloc _
  have c0 : W0.cell? ⟨r0, 0, none⟩ = some (.pointer (some ⟨t, 0, none⟩)) := by rw [← hW0, ← hr0]; exact cell_of_row _ W.heap.size 0 _ _ _ (heap_alloc_new W _)
  have HN := Lib.hid (bk_name W0 (b.turn t0) i)
  obtain ⟨y, hy⟩ : ∃ y, (enAt (esL l) i).nm = y := ⟨_, rfl⟩
  rw [hy] at HN ⊢
  have HT := Lib.hid t0
  have HW0 := Lib.hid hW0
  have HR0 := Lib.hid hr0
  clear b t0 hW0 hr0 hy
  go_enter Tryz.func26, Tryz.ntmps26
  go_upto_region 1 with fail
  rw [HR0.out, HW0.out]
  go_wp2_with fail
  refine HN.out.mono ?_
  rintro e w1 ⟨rfl, t1⟩
  have HT1 := Lib.hid t1
  clear t1
  go_wp2_with fail
  go_ret
  exact ⟨rfl, HT.out.trans' HT1.out⟩
set_option maxHeartbeats 1600000 in
theorem nelem_any (W : World) (b : Bk A B l r t m sz V W) (s : ByteArray) (hs : s.size ≤ 562949953421312) : Calls Tryz.prog 25 #[.agg #[.pointer (some ⟨t, 0, none⟩), VO], .string s] W fun e w' => e = .returned (.tuple #[.int .i64 (((elI l s).getD 0 : Nat) : Int), .bool (elI l s).isSome]) ∧ Turn [] W w' := by
  obtain ⟨r0, hr0⟩ : ∃ r, W.heap.size = r := ⟨_, rfl⟩
  obtain ⟨W0, hW0⟩ : ∃ W', W.alloc (.cells #[.pointer (some ⟨t, 0, none⟩), VO] 67) = W' := ⟨_, rfl⟩
  have t0 : Turn [] W W0 := by rw [← hW0]; exact (Turn.refl [] W).alloc _
  have c0 : W0.cell? ⟨r0, 0, none⟩ = some (.pointer (some ⟨t, 0, none⟩)) := by rw [← hW0, ← hr0]; exact cell_of_row _ W.heap.size 0 _ _ _ (heap_alloc_new W _)
  have HC := Lib.hid (cut_any s W0 hs)
  have HT := Lib.hid t0
  have HW0 := Lib.hid hW0
  have HR0 := Lib.hid hr0
  obtain ⟨o, ho⟩ : ∃ o, cutB s = o := ⟨_, rfl⟩
  rw [ho] at HC
  cases o with
  | none =>
    have HE : Hid (elI l s = none) := Lib.hid (by unfold elI; rw [ho]; rfl)
    clear b t0 hW0 hr0 ho
    go_enter Tryz.func25, Tryz.ntmps25
    go_upto_region 1 with fail
    rw [HR0.out, HW0.out]
    go_wp2_with fail
    refine HC.out.mono ?_
    rintro e w1 ⟨rfl, rfl⟩
    go_wp2_with fail
    go_ret2
    exact ⟨by rw [HE.out]; rfl, HT.out⟩
  | some q =>
    have hq : q.size ≤ 562949953421312 := by
      obtain ⟨h1, h2⟩ := cutB_size ho
      rw [h2]
      simp
      omega
    have HI := Lib.hid (bk_index W0 (b.turn t0) q hq)
    have HE : Hid (elI l s = fstF l l.length q) := Lib.hid (by unfold elI; rw [ho]; rfl)
    obtain ⟨y, hy⟩ : ∃ y, (fstF l l.length q).getD 0 = y := ⟨_, rfl⟩
    obtain ⟨k, hk⟩ : ∃ k, (fstF l l.length q).isSome = k := ⟨_, rfl⟩
    rw [hy, hk] at HI
    have HYK := Lib.hid (And.intro hy hk)
    clear b t0 hW0 hr0 ho hy hk hq
    go_enter Tryz.func25, Tryz.ntmps25
    go_upto_region 1 with fail
    rw [HR0.out, HW0.out]
    go_wp2_with fail
    refine HC.out.mono ?_
    rintro e w1 ⟨rfl, rfl⟩
    go_wp2_with fail
    refine HI.out.mono ?_
    rintro e w2 ⟨rfl, t2⟩
    have HT2 := Lib.hid t2
    clear t2
    go_wp2_with fail
    go_ret2
    exact ⟨by rw [HE.out, HYK.out.1, HYK.out.2]; rfl, HT.out.trans' HT2.out⟩
set_option maxHeartbeats 1600000 in
theorem nclass_any (W : World) (b : Bk A B l r t m sz V W) (s : ByteArray) (hs : s.size ≤ 562949953421312) : Calls Tryz.prog 27 #[.agg #[.pointer (some ⟨t, 0, none⟩), VO], .string s] W fun e w' => e = .returned (.tuple #[.int .i64 (((clI l s).getD 0 : Nat) : Int), .bool (clI l s).isSome]) ∧ Turn [] W w' := by
  obtain ⟨r0, hr0⟩ : ∃ r, W.heap.size = r := ⟨_, rfl⟩
  obtain ⟨W0, hW0⟩ : ∃ W', W.alloc (.cells #[.pointer (some ⟨t, 0, none⟩), VO] 67) = W' := ⟨_, rfl⟩
  have t0 : Turn [] W W0 := by rw [← hW0]; exact (Turn.refl [] W).alloc _
  have b0 : W0.heap[r0]? = some (.cells #[.pointer (some ⟨t, 0, none⟩), VO] 67 (0, 0)) := by rw [← hW0, ← hr0]; exact heap_alloc_new W _
  have c0 : W0.cell? ⟨r0, 0, none⟩ = some (.pointer (some ⟨t, 0, none⟩)) := cell_of_row _ r0 0 _ _ _ b0
  have c1 : W0.cell? ⟨r0, 1, none⟩ = some VO := cell_of_row _ r0 1 _ _ _ b0
  have HC := Lib.hid (nelem_any (VO := VO) W0 (b.turn t0) s hs)
  have HT := Lib.hid t0
  have HW0 := Lib.hid hW0
  have HR0 := Lib.hid hr0
  have HBx : Hid (∀ w, Turn [] W0 w → w.cell? ⟨r0, 0, none⟩ = some (.pointer (some ⟨t, 0, none⟩))) := Lib.hid fun w k => cell_of_row _ r0 0 _ _ _ (k.heap b0 (by simp))
  have HI : Hid (∀ w, Turn [] W0 w → Calls Tryz.prog 39 #[.pointer (some ⟨t, 0, none⟩), .string s] w fun e w' => e = .returned (.tuple #[.int .i64 (((fstF l l.length s).getD 0 : Nat) : Int), .bool (fstF l l.length s).isSome]) ∧ Turn [] w w') := Lib.hid fun w k => bk_index w (b.turn (t0.trans' k)) s hs
  obtain ⟨y, hy⟩ : ∃ y, (elI l s).getD 0 = y := ⟨_, rfl⟩
  obtain ⟨k, hk⟩ : ∃ k, (elI l s).isSome = k := ⟨_, rfl⟩
  obtain ⟨i, hi⟩ : ∃ i, decide (s = tInt) = i := ⟨_, rfl⟩
  obtain ⟨u, hu⟩ : ∃ u, decide (s = tNull) = u := ⟨_, rfl⟩
  have e1 : (s.toList == [105, 110, 116]) = i := by rw [lit_list]; exact hi
  have e2 : (s.toList == [110, 117, 108, 108]) = u := by rw [lit_list]; exact hu
  have HE : Hid (clI l s = if (k || i || u) = true then none else fstF l l.length s) := Lib.hid (by unfold clI; rw [hk, hi, hu])
  rw [hy, hk] at HC
  clear b t0 hW0 hr0 hy hk hi hu b0
  go_enter Tryz.func27, Tryz.ntmps27
  go_upto_region 1 with fail
  rw [HR0.out, HW0.out]
  go_wp2_with fail
  refine HC.out.mono ?_
  rintro e w1 ⟨rfl, t1⟩
  have HT1 := Lib.hid t1
  have d0 := HBx.out w1 t1
  have HI1 := Lib.hid (HI.out w1 t1)
  clear t1 c0 c1
  cases k with
  | true =>
    go_wp2_with fail
    go_ret2
    exact ⟨by rw [HE.out]; rfl, HT.out.trans' HT1.out⟩
  | false =>
    cases i with
    | true =>
      go_wp2_with fail
      go_ret2
      exact ⟨by rw [HE.out]; rfl, HT.out.trans' HT1.out⟩
    | false =>
      cases u with
      | true =>
        go_wp2_with fail
        go_ret2
        exact ⟨by rw [HE.out]; rfl, HT.out.trans' HT1.out⟩
      | false =>
        obtain ⟨y, hy⟩ : ∃ y, (fstF l l.length s).getD 0 = y := ⟨_, rfl⟩
        obtain ⟨k, hk⟩ : ∃ k, (fstF l l.length s).isSome = k := ⟨_, rfl⟩
        rw [hy, hk] at HI1
        have HYK := Lib.hid (And.intro hy hk)
        clear hy hk
        go_wp2_with fail
        refine HI1.out.mono ?_
        rintro e w2 ⟨rfl, t2⟩
        have HT2 := Lib.hid t2
        clear t2
        go_wp2_with fail
        go_ret2
        refine ⟨?_, (HT.out.trans' HT1.out).trans' HT2.out⟩
        rw [HE.out, if_neg (by simp), HYK.out.1, HYK.out.2]
        rfl
end
end Go.Proofs.YtbocejiclellfaaGreatDoor

/- The types' methods: Elem, Class, Ref, Is. -/
set_option linter.unusedSimpArgs false
set_option linter.unusedVariables false
set_option linter.unusedSectionVars false
namespace Go.Proofs.YtbocejiclellfaaGreatDoor
open Go.RowKit

attribute [local go_sem] eq_ptrT
theorem elT_nm (l : List K8) (s : ByteArray) {i : Nat} (h : elI l s = some i) : elT l s = nmL l i := by unfold elT; rw [h]
theorem elT_none (l : List K8) (s : ByteArray) (h : elI l s = none) : elT l s = ⟨#[]⟩ := by unfold elT; rw [h]
section
variable {A : Option Addr} {B : Nat} {l : List K8} {r t m sz : Nat} {V VO : Value} {x : Nat}
set_option maxHeartbeats 1600000 in
theorem tElem_any (W : World) (b : Ty A B l r t m sz V x VO W) (s : ByteArray) (hs : s.size ≤ 562949953421312) : Calls Tryz.prog 7 #[.pointer (some ⟨x, 0, none⟩), .string s] W fun e w' => e = .returned (.tuple #[.string (elT l s), .bool (elI l s).isSome]) ∧ Turn [] W w' := by
  have c0 : W.cell? ⟨x, 0, none⟩ = some (.pointer (some ⟨t, 0, none⟩)) := cell_of_row _ x 0 _ _ _ b.blk
  have c1 : W.cell? ⟨x, 1, none⟩ = some VO := cell_of_row _ x 1 _ _ _ b.blk
  have HC := Lib.hid (nelem_any (VO := VO) W b.bk s hs)
  have HBx : Hid (∀ w, Turn [] W w → w.cell? ⟨x, 0, none⟩ = some (.pointer (some ⟨t, 0, none⟩)) ∧ w.cell? ⟨x, 1, none⟩ = some VO) := Lib.hid fun w k => ⟨cell_of_row _ x 0 _ _ _ (k.heap b.blk (by simp)), cell_of_row _ x 1 _ _ _ (k.heap b.blk (by simp))⟩
  obtain ⟨o, ho⟩ : ∃ o, elI l s = o := ⟨_, rfl⟩
  rw [ho] at HC ⊢
  cases o with
  | none =>
    rw [elT_none l s ho]
    clear b ho
    go_enter Tryz.func7, Tryz.ntmps7
    go_wp2_with fail
    refine HC.out.mono ?_
    rintro e w1 ⟨rfl, t1⟩
    have HT1 := Lib.hid t1
    clear t1
    go_wp2_with fail
    go_ret2
    exact ⟨rfl, HT1.out⟩
  | some i =>
    rw [elT_nm l s ho]
    have HN : Hid (∀ w, Turn [] W w → Calls Tryz.prog 26 #[.agg #[.pointer (some ⟨t, 0, none⟩), VO], .int .i64 (i : Int)] w fun e w' => e = .returned (.string (nmL l i)) ∧ Turn [] w w') := Lib.hid fun w k => by
      have := lname_any (VO := VO) w (b.bk.turn k) (i : Int)
      rw [en_nm b.len b.snd] at this
      exact this
    obtain ⟨y, hy⟩ : ∃ y, nmL l i = y := ⟨_, rfl⟩
    rw [hy] at HN ⊢
    clear b ho hy
    go_enter Tryz.func7, Tryz.ntmps7
    go_wp2_with fail
    refine HC.out.mono ?_
    rintro e w1 ⟨rfl, t1⟩
    obtain ⟨d0, d1⟩ := HBx.out w1 t1
    have HN1 := Lib.hid (HN.out w1 t1)
    have HT1 := Lib.hid t1
    clear t1 c0 c1
    go_wp2_with fail
    refine HN1.out.mono ?_
    rintro e w2 ⟨rfl, t2⟩
    have HT2 := Lib.hid t2
    clear t2
    go_wp2_with fail
    go_ret2
    exact ⟨rfl, HT1.out.trans' HT2.out⟩
set_option maxHeartbeats 1600000 in
theorem tClass_any (W : World) (b : Ty A B l r t m sz V x VO W) (s : ByteArray) (hs : s.size ≤ 562949953421312) : Calls Tryz.prog 8 #[.pointer (some ⟨x, 0, none⟩), .string s] W fun e w' => e = .returned (.tuple #[.int .i64 (((clI l s).getD 0 : Nat) : Int), .bool (clI l s).isSome]) ∧ Turn [] W w' := by
  have c0 : W.cell? ⟨x, 0, none⟩ = some (.pointer (some ⟨t, 0, none⟩)) := cell_of_row _ x 0 _ _ _ b.blk
  have c1 : W.cell? ⟨x, 1, none⟩ = some VO := cell_of_row _ x 1 _ _ _ b.blk
  have HC := Lib.hid (nclass_any (VO := VO) W b.bk s hs)
  obtain ⟨y, hy⟩ : ∃ y, (clI l s).getD 0 = y := ⟨_, rfl⟩
  obtain ⟨k, hk⟩ : ∃ k, (clI l s).isSome = k := ⟨_, rfl⟩
  rw [hy, hk] at HC ⊢
  clear b hy hk
  go_enter Tryz.func8, Tryz.ntmps8
  go_wp2_with fail
  refine HC.out.mono ?_
  rintro e w1 ⟨rfl, t1⟩
  have HT1 := Lib.hid t1
  clear t1
  go_wp2_with fail
  go_ret2
  exact ⟨rfl, HT1.out⟩
set_option maxHeartbeats 1600000 in
theorem tRef_any (W : World) (b : Ty A B l r t m sz V x VO W) (s : ByteArray) (hs : s.size ≤ 562949953421312) : Calls Tryz.prog 13 #[.pointer (some ⟨x, 0, none⟩), .string s] W fun e w' => e = .returned (.bool (refB l s)) ∧ Turn [] W w' := by
  have HC := Lib.hid (tElem_any W b s hs)
  have HD : Hid (∀ w, Turn [] W w → Calls Tryz.prog 8 #[.pointer (some ⟨x, 0, none⟩), .string s] w fun e w' => e = .returned (.tuple #[.int .i64 (((clI l s).getD 0 : Nat) : Int), .bool (clI l s).isSome]) ∧ Turn [] w w') := Lib.hid fun w k => tClass_any w (b.turn k) s hs
  obtain ⟨y, hy⟩ : ∃ y, (clI l s).getD 0 = y := ⟨_, rfl⟩
  obtain ⟨k, hk⟩ : ∃ k, (clI l s).isSome = k := ⟨_, rfl⟩
  obtain ⟨z, hz⟩ : ∃ z, elT l s = z := ⟨_, rfl⟩
  obtain ⟨q, hq⟩ : ∃ q, (elI l s).isSome = q := ⟨_, rfl⟩
  obtain ⟨u, hu⟩ : ∃ u, decide (s = tNull) = u := ⟨_, rfl⟩
  have e2 : (s.toList == [110, 117, 108, 108]) = u := by rw [lit_list]; exact hu
  rw [show refB l s = (u || q || k) by unfold refB; rw [hu, hq, hk]]
  rw [hz, hq] at HC
  rw [hy, hk] at HD
  clear b hy hk hz hq hu
  go_enter Tryz.func13, Tryz.ntmps13
  go_wp2_with fail
  refine HC.out.mono ?_
  rintro e w1 ⟨rfl, t1⟩
  have HT1 := Lib.hid t1
  have HD1 := Lib.hid (HD.out w1 t1)
  clear t1
  go_wp2_with fail
  refine HD1.out.mono ?_
  rintro e w2 ⟨rfl, t2⟩
  have HT2 := Lib.hid t2
  clear t2
  cases u <;> cases q <;> cases k <;>
  · go_wp2_with fail
    go_ret
    exact ⟨rfl, HT1.out.trans' HT2.out⟩
set_option maxHeartbeats 3200000 in
theorem tIs_any (W : World) (b : Ty A B l r t m sz V x VO W) (P : Option Addr) (n c : Nat) (ts : List ByteArray) (hP : Txs W P ts) (hn : n = ts.length) (hl : n ≤ 1000000) (hs : ∀ s ∈ ts, s.size ≤ 562949953421312) : Calls Tryz.prog 11 #[.pointer (some ⟨x, 0, none⟩), .slice P n c] W fun e w' => e = .returned (.bool (ts.all (tyB l))) ∧ Turn [] W w' := by
  have HR : Hid (∀ w, Turn [] W w → ∀ s ∈ ts, Calls Tryz.prog 13 #[.pointer (some ⟨x, 0, none⟩), .string s] w fun e w' => e = .returned (.bool (refB l s)) ∧ Turn [] w w') := Lib.hid fun w k s h => tRef_any w (b.turn k) s (hs s h)
  have HN := Lib.hid hn
  have HP := Lib.hid hP
  clear b hn hP hs
  go_enter Tryz.func11, Tryz.ntmps11
  go_wp2_with fail
  go_loopw [9] (fun v9 wr => ∃ k : Nat, k ≤ n ∧ v9 = .int .i64 (k : Int) ∧ Hid (∀ (j : Nat) s, j < k → ts[j]? = some s → tyB l s = true) ∧ Hid (Turn [] W wr)) (fun v9 _ => n - (intOf v9).toNat)
  case atStart => exact ⟨0, Nat.zero_le _, rfl, Lib.hid fun j s h => by omega, Lib.hid (Turn.refl _ _)⟩
  case round =>
    obtain ⟨k, hk, rfl, HA, HT⟩ := hrel
    by_cases hkn : k < n
    · have d1 : decide ((k : Int) < (n : Int)) = true := by simp; omega
      have d2 : (k : Int) < (n : Int) := by omega
      obtain ⟨s, hs⟩ := at_lt (show k < ts.length by have := HN.out; omega)
      obtain ⟨g, off, rfl, hg, hc⟩ := HP.out.turn HT.out k s hs
      have HRs := Lib.hid (HR.out wr HT.out s (List.mem_of_getElem? hs))
      have HS := Lib.hid hs
      obtain ⟨i, hi⟩ : ∃ i, decide (s = tInt) = i := ⟨_, rfl⟩
      have e1 : (s.toList == [105, 110, 116]) = i := by rw [lit_list]; exact hi
      obtain ⟨rf, hrf⟩ : ∃ rf, refB l s = rf := ⟨_, rfl⟩
      have HTy : Hid (tyB l s = (i || rf)) := Lib.hid (by unfold tyB; rw [hi, hrf])
      rw [hrf] at HRs
      have HNX : Hid ((i || rf) = true → ∀ (j : Nat) s, j < k + 1 → ts[j]? = some s → tyB l s = true) := Lib.hid fun h j s' hj hs' => by
        rcases Nat.lt_or_ge j k with h3 | h3
        · exact HA.out j s' h3 hs'
        · have e : j = k := by omega
          subst e
          have := HS.out.symm.trans hs'
          injection this with e
          rw [← e, HTy.out, h]
      clear hs hg hi hrf
      cases i with
      | true =>
        go_wp2_with fail
        go_roundw
        case rel => exact ⟨k + 1, by omega, by go_num, Lib.hid (HNX.out (by simp)), HT⟩
        case measure => simp [intOf]; omega
      | false =>
        go_wp2_with fail
        refine HRs.out.mono ?_
        rintro e w1 ⟨rfl, t1⟩
        have HT1 := Lib.hid (HT.out.trans' t1)
        clear t1
        cases rf with
        | true =>
          go_wp2_with fail
          go_roundw
          case rel => exact ⟨k + 1, by omega, by go_num, Lib.hid (HNX.out (by simp)), HT1⟩
          case measure => simp [intOf]; omega
        | false =>
          have HF : Hid (ts.all (tyB l) = false) := Lib.hid (by
            rw [List.all_eq_false]
            exact ⟨s, List.mem_of_getElem? HS.out, by rw [HTy.out]; simp⟩)
          go_wp2_with fail
          go_ret
          exact ⟨by rw [HF.out]; rfl, HT1.out⟩
    · obtain rfl : k = n := by omega
      have d1 : decide ((k : Int) < (k : Int)) = false := by simp
      have HF : Hid (ts.all (tyB l) = true) := Lib.hid (by
        rw [List.all_eq_true]
        intro s hs
        obtain ⟨j, hj⟩ := List.getElem?_of_mem hs
        have h4 := (List.getElem?_eq_some_iff.1 hj).1
        exact HA.out j s (by have := HN.out; omega) hj)
      go_wp2_with fail
      go_ret
      exact ⟨by rw [HF.out]; rfl, HT.out⟩
end
end Go.Proofs.YtbocejiclellfaaGreatDoor

/- The types' methods: Below. -/
set_option linter.unusedSimpArgs false
set_option linter.unusedVariables false
set_option linter.unusedSectionVars false
namespace Go.Proofs.YtbocejiclellfaaGreatDoor
open Go.RowKit

attribute [local go_sem] eq_ptrT
section
variable {A : Option Addr} {B : Nat} {l : List K8} {r t m sz : Nat} {V VO : Value} {x : Nat}
set_option maxHeartbeats 1600000 in
theorem rises_any (kok : KOk l) (W : World) (b : Bk A B l r t m sz V W) (i j : Nat) : Calls Tryz.prog 28 #[.agg #[.pointer (some ⟨t, 0, none⟩), VO], .int .i64 (i : Int), .int .i64 (j : Int)] W fun e w' => e = .returned (.bool (hasB (abvL (esL l) [(i : Int)]) (j : Int))) ∧ Turn [] W w' := by
  obtain ⟨r0, hr0⟩ : ∃ r, W.heap.size = r := ⟨_, rfl⟩
  obtain ⟨W0, hW0⟩ : ∃ W', W.alloc (.cells #[.pointer (some ⟨t, 0, none⟩), VO] 65) = W' := ⟨_, rfl⟩
  have t0 : Turn [] W W0 := by rw [← hW0]; exact (Turn.refl [] W).alloc _
  have c0 : W0.cell? ⟨r0, 0, none⟩ = some (.pointer (some ⟨t, 0, none⟩)) := by rw [← hW0, ← hr0]; exact cell_of_row _ W.heap.size 0 _ _ _ (heap_alloc_new W _)
  have hok : EsOk (esL l) := esL_ok kok.len (fun c hc => (kok.nm c hc).2.2.2)
  have ta : Turn [] W0 (W0.alloc (.cells #[.int .i64 (i : Int)] 3)) := (Turn.refl [] W0).alloc _
  have HA := Lib.hid (above_any (b.tl.turn' (t0.trans' ta)) (fun k => by have := hok.few k; omega) (b.tb.turn' (t0.trans' ta)) (some ⟨W0.heap.size, 0, none⟩) 1 1 [(i : Int)] (ints_one W0 3 (i : Int)) rfl (by omega))
  have hG := gd_abv (Es := esL l) (by have := hok.n; omega) [(i : Int)]
  have hN := hok.n
  obtain ⟨L, hL⟩ : ∃ L, abvL (esL l) [(i : Int)] = L := ⟨_, rfl⟩
  rw [hL] at HA hG ⊢
  obtain ⟨nn, hnn⟩ : ∃ nn, L.length = nn := ⟨_, rfl⟩
  have HB : Hid (∀ (w : World) (A1 : Option Addr) (c1 : Nat), Ints w A1 L → Calls Tryz.prog 41 #[.slice A1 nn c1, .int .i64 (j : Int)] w fun e w' => ∃ k : Int, e = .returned (.tuple #[.int .i64 k, .bool (hasB L (j : Int))]) ∧ Turn [] w w') := Lib.hid fun w A1 c1 hi => bsInt_any A1 nn c1 L (j : Int) w hi hnn.symm (by have := hG.len; omega) hG.sd
  obtain ⟨hb, hhb⟩ : ∃ hb, hasB L (j : Int) = hb := ⟨_, rfl⟩
  rw [hhb] at HB ⊢
  have HNN := Lib.hid hnn
  have HT := Lib.hid (t0.trans' ta)
  have HW0 := Lib.hid hW0
  have HR0 := Lib.hid hr0
  clear b t0 hW0 hr0 hok kok ta hL hhb hG hN hnn
  go_enter Tryz.func28, Tryz.ntmps28
  go_upto_region 1 with fail
  rw [HR0.out, HW0.out]
  go_wp2_with fail
  refine HA.out.mono ?_
  rintro e w1 ⟨U, rfl, hU, t1⟩
  obtain ⟨A1, c1, rfl, hi, hc⟩ := hU.form
  have HB1 := Lib.hid (HB.out w1 A1 c1 hi)
  rw [HNN.out]
  have HT1 := Lib.hid (HT.out.trans' t1)
  clear hU hi hc t1
  go_wp2_with fail
  refine HB1.out.mono ?_
  rintro e w2 ⟨k, rfl, t2⟩
  have HT2 := Lib.hid t2
  clear t2
  go_wp2_with fail
  go_ret
  exact ⟨rfl, HT1.out.trans' HT2.out⟩
set_option maxHeartbeats 3200000 in
theorem tBelow_any (kok : KOk l) (W : World) (b : Ty A B l r t m sz V x VO W) (s u : ByteArray) (hs : s.size ≤ 562949953421312) (hu : u.size ≤ 562949953421312) : Calls Tryz.prog 15 #[.pointer (some ⟨x, 0, none⟩), .string s, .string u] W fun e w' => e = .returned (.bool (belB l s u)) ∧ Turn [] W w' := by
  by_cases hsu : s = u
  · subst hsu
    have e1 := tx_same s
    have ta : Turn [] W (W.alloc (.cells #[.string s] 9)) := (Turn.refl [] W).alloc _
    have HI := Lib.hid (tIs_any (W.alloc (.cells #[.string s] 9)) (b.turn ta) (some ⟨W.heap.size, 0, none⟩) 1 1 [s] (txs_one W 9 s) rfl (by omega) (fun z hz => by simp at hz; rw [hz]; exact hs))
    have HE : Hid (belB l s s = [s].all (tyB l)) := Lib.hid (by unfold belB; rw [if_pos rfl]; simp)
    obtain ⟨q, hq⟩ : ∃ q, [s].all (tyB l) = q := ⟨_, rfl⟩
    rw [hq] at HI HE
    clear b hq
    go_enter Tryz.func15, Tryz.ntmps15
    go_wp2_with fail
    refine HI.out.mono ?_
    rintro e w1 ⟨rfl, t1⟩
    have HT1 := Lib.hid (ta.trans' t1)
    clear t1
    go_wp2_with fail
    go_ret
    exact ⟨by rw [HE.out]; rfl, HT1.out⟩
  · have e1 := tx_other hsu
    by_cases hsn : s = tNull
    · have e2 : (s.toList == [110, 117, 108, 108]) = true := by rw [lit_list]; exact decide_eq_true hsn
      have HR := Lib.hid (tRef_any W b u hu)
      have HE : Hid (belB l s u = refB l u) := Lib.hid (by unfold belB; rw [if_neg hsu, if_pos hsn])
      obtain ⟨q, hq⟩ : ∃ q, refB l u = q := ⟨_, rfl⟩
      rw [hq] at HR HE
      clear b hq hsn hsu
      go_enter Tryz.func15, Tryz.ntmps15
      go_wp2_with fail
      refine HR.out.mono ?_
      rintro e w1 ⟨rfl, t1⟩
      have HT1 := Lib.hid t1
      clear t1
      go_wp2_with fail
      go_ret
      exact ⟨by rw [HE.out]; rfl, HT1.out⟩
    · have e2 : (s.toList == [110, 117, 108, 108]) = false := by rw [lit_list]; exact decide_eq_false hsn
      have HE : Hid (belB l s u = rtyB l (clI l s) (clI l u)) := Lib.hid (by unfold belB; rw [if_neg hsu, if_neg hsn])
      have HC1 := Lib.hid (tClass_any W b s hs)
      have HC2 : Hid (∀ w, Turn [] W w → Calls Tryz.prog 8 #[.pointer (some ⟨x, 0, none⟩), .string u] w fun e w' => e = .returned (.tuple #[.int .i64 (((clI l u).getD 0 : Nat) : Int), .bool (clI l u).isSome]) ∧ Turn [] w w') := Lib.hid fun w k => tClass_any w (b.turn k) u hu
      have HRi : Hid (∀ w, Turn [] W w → ∀ i j : Nat, Calls Tryz.prog 28 #[.agg #[.pointer (some ⟨t, 0, none⟩), VO], .int .i64 (i : Int), .int .i64 (j : Int)] w fun e w' => e = .returned (.bool (hasB (abvL (esL l) [(i : Int)]) (j : Int))) ∧ Turn [] w w') := Lib.hid fun w k i j => rises_any kok w (b.bk.turn k) i j
      have HBx : Hid (∀ w, Turn [] W w → w.cell? ⟨x, 0, none⟩ = some (.pointer (some ⟨t, 0, none⟩)) ∧ w.cell? ⟨x, 1, none⟩ = some VO) := Lib.hid fun w k => ⟨cell_of_row _ x 0 _ _ _ (k.heap b.blk (by simp)), cell_of_row _ x 1 _ _ _ (k.heap b.blk (by simp))⟩
      obtain ⟨o1, ho1⟩ : ∃ o, clI l s = o := ⟨_, rfl⟩
      obtain ⟨o2, ho2⟩ : ∃ o, clI l u = o := ⟨_, rfl⟩
      rw [ho1] at HC1 HE
      rw [ho2] at HC2 HE
      clear b ho1 ho2 hsn hsu
      go_enter Tryz.func15, Tryz.ntmps15
      go_wp2_with fail
      refine HC1.out.mono ?_
      rintro e w1 ⟨rfl, t1⟩
      have HT1 := Lib.hid t1
      have HC21 := Lib.hid (HC2.out w1 t1)
      clear t1
      go_wp2_with fail
      refine HC21.out.mono ?_
      rintro e w2 ⟨rfl, t2⟩
      have HT2 := Lib.hid (HT1.out.trans' t2)
      clear t2 HC21
      obtain ⟨d0, d1⟩ := HBx.out w2 HT2.out
      cases o1 with
      | none =>
        go_wp2_with fail
        go_ret
        exact ⟨by rw [HE.out]; rfl, HT2.out⟩
      | some i =>
        cases o2 with
        | none =>
          go_wp2_with fail
          go_ret
          exact ⟨by rw [HE.out]; rfl, HT2.out⟩
        | some j =>
          have HR := Lib.hid (HRi.out w2 HT2.out i j)
          have HE2 : Hid (belB l s u = hasB (abvL (esL l) [(i : Int)]) (j : Int)) := Lib.hid HE.out
          obtain ⟨q, hq⟩ : ∃ q, hasB (abvL (esL l) [(i : Int)]) (j : Int) = q := ⟨_, rfl⟩
          rw [hq] at HR HE2
          clear hq HE
          simp only [Option.getD_some, Option.isSome_some]
          go_wp2_with fail
          refine HR.out.mono ?_
          rintro e w3 ⟨rfl, t3⟩
          have HT3 := Lib.hid (HT2.out.trans' t3)
          clear t3
          go_wp2_with fail
          go_ret
          exact ⟨by rw [HE2.out]; rfl, HT3.out⟩
end
end Go.Proofs.YtbocejiclellfaaGreatDoor

/- slices.ContainsFunc with a mark. -/
set_option linter.unusedSimpArgs false
set_option linter.unusedVariables false
set_option linter.unusedSectionVars false
namespace Go.Proofs.YtbocejiclellfaaGreatDoor
open Go.RowKit

set_option maxHeartbeats 1600000 in
theorem under1_any (W : World) (mp g n c a : Nat) (y : Bool) (h0 : W.cell? ⟨mp, 0, none⟩ = some (.slice (some ⟨g, 0, none⟩) n c)) (h1 : W.cell? ⟨g, a, none⟩ = some (.bool y)) (ha : a < n) (hn : n ≤ 1000) :
    Calls Tryz.prog 46 #[.int .i64 (a : Int), .pointer (some ⟨mp, 0, none⟩)] W fun e w' => e = .returned (.bool y) ∧ W = w' := by
  have d1 : (a : Int) < (n : Int) := by omega
  have d2 : decide ((a : Int) < (n : Int)) = true := by simp; omega
  have h1' : W.cell? ⟨g, 0 + a, none⟩ = some (.bool y) := by rw [Nat.zero_add]; exact h1
  go_enter Tryz.func46, Tryz.ntmps46
  go_wp2_with fail
  go_ret
  exact ⟨rfl, rfl⟩
/-- What is marked is known: the cells of the row at g. -/
structure Mk (W : World) (mp g n c : Nat) (f : Nat → Bool) (us : List Nat) : Prop where
  box : W.cell? ⟨mp, 0, none⟩ = some (.slice (some ⟨g, 0, none⟩) n c)
  row : ∀ a ∈ us, a < n ∧ W.cell? ⟨g, a, none⟩ = some (.bool (f a))
set_option maxHeartbeats 3200000 in
theorem indexF_any (W : World) (P : Option Addr) (N cN mp g n c : Nat) (f : Nat → Bool) (us : List Nat) (hI : Ints W P (ofN us)) (hN : N = us.length) (hl : N ≤ 1000) (hn : n ≤ 1000) (hm : Mk W mp g n c f us) :
    Calls Tryz.prog 70 #[.slice P N cN, .func (.func 46) #[] #[.pointer (some ⟨mp, 0, none⟩)]] W fun e w' => ∃ k : Int, e = .returned (.int .i64 k) ∧ (decide (0 ≤ k) = us.any f) ∧ W = w' := by
  have HI := Lib.hid hI
  have HN := Lib.hid hN
  have HM := Lib.hid hm
  clear hI hN hm
  go_enter Tryz.func70, Tryz.ntmps70
  go_wp2_with fail
  go_loopw [8] (fun v8 wr => ∃ k : Nat, k ≤ N ∧ v8 = .int .i64 (k : Int) ∧ wr = W ∧ Hid (∀ (j : Nat) a, j < k → us[j]? = some a → f a = false)) (fun v8 _ => N - (intOf v8).toNat)
  case atStart => exact ⟨0, Nat.zero_le _, rfl, rfl, Lib.hid fun j a h => by omega⟩
  case round =>
    obtain ⟨k, hk, rfl, rfl, HA⟩ := hrel
    by_cases hkn : k < N
    · have d1 : decide ((k : Int) < (N : Int)) = true := by simp; omega
      have d2 : (k : Int) < (N : Int) := by omega
      obtain ⟨a, ha⟩ := at_lt (show k < us.length by have := HN.out; omega)
      obtain ⟨ib, ioff, rfl, _, ci⟩ := HI.out k (a : Int) (by unfold ofN; rw [List.getElem?_map, ha]; rfl)
      obtain ⟨han, hca⟩ := HM.out.row a (List.mem_of_getElem? ha)
      obtain ⟨y, hy⟩ : ∃ y, f a = y := ⟨_, rfl⟩
      rw [hy] at hca
      have HU := Lib.hid (under1_any wr mp g n c a y HM.out.box hca han hn)
      have HAA := Lib.hid (And.intro ha hy)
      clear ha hy hca
      go_wp2_with fail
      refine HU.out.mono ?_
      rintro e w1 ⟨rfl, rfl⟩
      cases y with
      | true =>
        have HF : Hid (us.any f = true) := Lib.hid (List.any_eq_true.2 ⟨a, List.mem_of_getElem? HAA.out.1, HAA.out.2⟩)
        go_wp2_with fail
        go_ret
        exact ⟨_, rfl, by rw [HF.out]; simp, rfl⟩
      | false =>
        have HNX : Hid (∀ (j : Nat) a, j < k + 1 → us[j]? = some a → f a = false) := Lib.hid fun j a' hj ha' => by
          rcases Nat.lt_or_ge j k with h3 | h3
          · exact HA.out j a' h3 ha'
          · have e : j = k := by omega
            subst e
            have := HAA.out.1.symm.trans ha'
            injection this with e
            rw [← e]
            exact HAA.out.2
        go_wp2_with fail
        go_roundw
        case rel => exact ⟨k + 1, by omega, by go_num, by trivial, HNX⟩
        case measure => simp [intOf]; omega
    · obtain rfl : k = N := by omega
      have d1 : decide ((k : Int) < (k : Int)) = false := by simp
      have HF : Hid (us.any f = false) := Lib.hid (by
        rw [List.any_eq_false]
        intro a ha
        obtain ⟨j, hj⟩ := List.getElem?_of_mem ha
        have h4 := (List.getElem?_eq_some_iff.1 hj).1
        rw [HA.out j a (by have := HN.out; omega) hj]
        simp)
      go_wp2_with fail
      go_ret
      exact ⟨-1, rfl, by rw [HF.out]; simp, rfl⟩
set_option maxHeartbeats 1600000 in
theorem containsF_any (W : World) (P : Option Addr) (N cN mp g n c : Nat) (f : Nat → Bool) (us : List Nat) (hI : Ints W P (ofN us)) (hN : N = us.length) (hl : N ≤ 1000) (hn : n ≤ 1000) (hm : Mk W mp g n c f us) :
    Calls Tryz.prog 47 #[.slice P N cN, .func (.func 46) #[] #[.pointer (some ⟨mp, 0, none⟩)]] W fun e w' => e = .returned (.bool (us.any f)) ∧ W = w' := by
  have HI := Lib.hid (indexF_any W P N cN mp g n c f us hI hN hl hn hm)
  obtain ⟨y, hy⟩ : ∃ y, us.any f = y := ⟨_, rfl⟩
  rw [hy] at HI ⊢
  clear hI hN hm hy
  go_enter Tryz.func47, Tryz.ntmps47
  go_wp2_with fail
  refine HI.out.mono ?_
  rintro e w1 ⟨k, rfl, hk, rfl⟩
  have d1 : decide (k ≥ 0) = y := hk
  go_wp2_with fail
  go_ret
  exact ⟨by first | rfl | (rw [← hk]; rfl), rfl⟩
end Go.Proofs.YtbocejiclellfaaGreatDoor

/- What stands below a class: under. -/
set_option linter.unusedSimpArgs false
set_option linter.unusedVariables false
set_option linter.unusedSectionVars false
set_option maxRecDepth 100000
namespace Go.Proofs.YtbocejiclellfaaGreatDoor
open Go.RowKit

def upT (Es : List En) (top u : Nat) : Bool := hasB (abvL Es [(u : Int)]) (top : Int)
theorem upT_iff {Es : List En} (hok : EsOk Es) {top u : Nat} : upT Es top u = true ↔ Up Es u top := abv_up (by have := hok.n; omega) u top
theorem und_val {Es : List En} (hok : EsOk Es) (hac : ∀ i, ¬ Cyc Es i) {top i k : Nat} (ho : (ordL Es)[k]? = some (i : Int)) (hi : i < Es.length) (hne : i ≠ top) :
    (nxE Es i).any (fun a => decide ((a : Int) ∈ (ordL Es).take k) && upT Es top a) = upT Es top i := by
  have hcut : ordL Es = (ordL Es).take k ++ (i : Int) :: (ordL Es).drop (k + 1) := by
    obtain ⟨hh, he⟩ := List.getElem?_eq_some_iff.1 ho
    rw [← he, ← List.drop_eq_getElem_cons hh, List.take_append_drop]
  have hbef : ∀ a ∈ nxE Es i, (a : Int) ∈ (ordL Es).take k := fun a ha => by
    have hup : Up Es i a := .step (.refl hi (by simp)) ha (hok.lt i a ha) (by simp)
    rcases (ord_says hok).2.2.1 _ i _ hcut a hup with h | h
    · exact absurd ⟨hi, a, ha, by rw [h]; exact .refl hi (by simp)⟩ (hac i)
    · exact h
  rw [Bool.eq_iff_iff, List.any_eq_true, upT_iff hok, up_ab1]
  constructor
  · rintro ⟨a, ha, h⟩
    simp only [Bool.and_eq_true] at h
    exact ⟨hi, .inr ⟨a, ha, (upT_iff hok).1 h.2⟩⟩
  · rintro ⟨_, h | ⟨a, ha, h⟩⟩
    · exact absurd h.symm hne
    · exact ⟨a, ha, by simp [hbef a ha, (upT_iff hok).2 h]⟩
/-- How it stands in the loop. -/
def Un1 (Es : List En) (top g n : Nat) (W2 wr : World) (k : Nat) : Prop := ∃ ms, OwnB wr 0 (.slice (some ⟨g, 0, none⟩) n n) ms ∧ ms.length = n ∧ (∀ u, u < n → ms[u]? = some (decide ((u : Int) ∈ (ordL Es).take k) && upT Es top u)) ∧ Turn [g] W2 wr
theorem Un1.next {Es : List En} {top g n i k : Nat} {W2 wr w4 : World} (h : Un1 Es top g n W2 wr k) (ho : (ordL Es)[k]? = some (i : Int)) (hi : i < n) (t : Turn [] wr w4) (v : Bool) (hv : v = upT Es top i) : Un1 Es top g n W2 (w4.setCell ⟨g, i, none⟩ (.bool v)) (k + 1) := by
  obtain ⟨ms, h1, h2, h3, h4⟩ := h
  refine ⟨ms.set i v, (h1.turn' t).putAt h2.symm, by simp [h2], fun u hu => ?_, (h4.trans' t).setCell (.inl (by simp)) _⟩
  rw [take_snoc ho, List.getElem?_set]
  by_cases e : i = u
  · subst e
    rw [if_pos rfl, if_pos (by omega), hv]
    simp
  · rw [if_neg e, h3 u hu]
    have : ((u : Int) ∈ (ordL Es).take k ++ [(i : Int)]) ↔ ((u : Int) ∈ (ordL Es).take k) := by
      simp only [List.mem_append, List.mem_singleton]
      exact ⟨fun h => h.elim id (fun h => by omega), .inl⟩
    rw [decide_eq_decide.2 this]
section
variable {A : Option Addr} {B : Nat} {l : List K8} {r t m sz : Nat} {V VO : Value} {x : Nat}
set_option maxHeartbeats 12800000 in
theorem under_any (gg : Rgt l) (W : World) (b : Ty A B l r t m sz V x VO W) (top : Nat) (htop : top < l.length) : Calls Tryz.prog 31 #[.agg #[.pointer (some ⟨t, 0, none⟩), VO], .int .i64 (top : Int)] W fun e w' => ∃ g ms, e = .returned (.slice (some ⟨g, 0, none⟩) l.length l.length) ∧ OwnB w' 0 (.slice (some ⟨g, 0, none⟩) l.length l.length) ms ∧ ms.length = l.length ∧ (∀ u, u < l.length → ms[u]? = some (upT (esL l) top u)) ∧ Turn [] W w' := by
  have hmf : ∀ (fn : Fn) (first cap : Array Value) (w : World), (Instr.makeFunc fn first cap).run Tryz.prog w = .ok (.func fn first cap) w := fun _ _ _ _ => rfl
  obtain ⟨n, hn⟩ : ∃ n, l.length = n := ⟨_, rfl⟩
  have hn1 : n ≤ 1000 := by rw [← hn]; exact b.len
  obtain ⟨Es, hEs⟩ : ∃ Es, esL l = Es := ⟨_, rfl⟩
  have hok : EsOk Es := by rw [← hEs]; exact gg.ok
  have hac : ∀ i, ¬ Cyc Es i := by rw [← hEs]; exact gg.acy
  have hen : Es.length = n := by rw [← hEs, esL_len, hn]
  have hord := b.ord
  rw [hEs] at hord
  obtain ⟨PO, cO, rfl, hIO, _⟩ := hord.form
  have hol : (ordL Es).length = n := by rw [((ord_says hok).2.2.2 hac).2, hen]
  rw [hol] at b ⊢
  obtain ⟨r0, hr0⟩ : ∃ r, W.heap.size = r := ⟨_, rfl⟩
  obtain ⟨W0, hW0⟩ : ∃ W', W.alloc (.cells #[.pointer (some ⟨t, 0, none⟩), .slice PO n cO] 65) = W' := ⟨_, rfl⟩
  have t0 : Turn [] W W0 := by rw [← hW0]; exact (Turn.refl [] W).alloc _
  have s0 : W0.heap.size = r0 + 1 := by rw [← hW0, ← hr0]; simp
  have b0 : W0.heap[r0]? = some (.cells #[.pointer (some ⟨t, 0, none⟩), .slice PO n cO] 65 (0, 0)) := by rw [← hW0, ← hr0]; exact heap_alloc_new W _
  have c0 : W0.cell? ⟨r0, 0, none⟩ = some (.pointer (some ⟨t, 0, none⟩)) := cell_of_row _ r0 0 _ _ _ b0
  have HLn := Lib.hid (show Calls Tryz.prog 45 #[.pointer (some ⟨t, 0, none⟩)] W0 fun e w' => e = .returned (.int .i64 (n : Int)) ∧ Turn [] W0 w' by rw [← hn]; exact bk_len W0 (b.bk.turn t0))
  have HBk := Lib.hid (b.bk.turn t0)
  have HIO := Lib.hid (hIO.below t0)
  have HB0 := Lib.hid b0
  have HOK := Lib.hid hok
  have HAC := Lib.hid hac
  have HEN := Lib.hid hen
  have HOL := Lib.hid hol
  have HT0 := Lib.hid t0
  have HW0 := Lib.hid hW0
  have HR0 := Lib.hid hr0
  have HS0 := Lib.hid s0
  have HES := Lib.hid hEs
  have htop' : top < n := by omega
  rw [hn, hEs]
  clear b t0 hW0 hr0 hok hac hen hol hord hIO b0 s0 gg hn htop hEs
  go_enter Tryz.func31, Tryz.ntmps31
  go_upto_region 1 with fail
  rw [HR0.out, HW0.out]
  go_wp2_with fail
  refine HLn.out.mono ?_
  rintro e w1 ⟨rfl, t1⟩
  obtain ⟨g, hg⟩ : ∃ g, w1.heap.size = g := ⟨_, rfl⟩
  obtain ⟨W2, hW2⟩ : ∃ W, w1.alloc (.cells (madeCells #[.bool false] n) 4) = W := ⟨_, rfl⟩
  have t2 : Turn [] w1 W2 := by rw [← hW2]; exact (Turn.refl [] w1).alloc _
  have s2 : W2.heap.size = g + 1 := by rw [← hW2, ← hg]; simp
  have hd2 : OwnB W2 0 (.slice (some ⟨g, 0, none⟩) n n) (List.replicate n false) := by
    have := OwnB.falses w1 0 n (Nat.zero_le _) (by omega)
    rw [Nat.mul_one, hg, hW2] at this
    exact this
  obtain ⟨W3, hW3⟩ : ∃ W, W2.alloc (.cells #[.slice (some ⟨g, 0, none⟩) n n] 72) = W := ⟨_, rfl⟩
  have t3 : Turn [] W2 W3 := by rw [← hW3]; exact (Turn.refl [] W2).alloc _
  have b3 : W3.heap[g + 1]? = some (.cells #[.slice (some ⟨g, 0, none⟩) n n] 72 (0, 0)) := by rw [← hW3, ← s2]; exact heap_alloc_new W2 _
  have hmk := fun W : World => make_bools n (by omega) W
  simp only [Nat.mul_one] at hmk
  obtain ⟨mp, hmp⟩ : ∃ mp, g + 1 = mp := ⟨_, rfl⟩
  have hgw : w1.heap.size ≤ g := by omega
  have hrg : r0 < g := by have := t1.size; have := HS0.out; omega
  have HTR : Hid (∀ wr, Turn [g] W3 wr → Turn [] w1 wr) := Lib.hid fun wr k => (t2.trans' t3).trans k (fun y hy => .inr (by simp at hy; omega))
  have HRt : Hid (∀ W', Turn [g] W3 W' → ∀ i : Nat, Calls Tryz.prog 48 #[.pointer (some ⟨t, 0, none⟩), .int .i64 (i : Int)] W' fun e w' => ∃ U, e = .returned U ∧ OwnI w' W'.heap.size U (ofN (enAt Es (i : Int)).rt) ∧ Turn [] W' w') := Lib.hid fun W' k i => by
    have := bk_right W' (HBk.out.turn (t1.trans' (HTR.out W' k))) (i : Int) (by rw [HES.out]; have : (enAt Es (i : Int)).rt.length ≤ 1000 := HOK.out.few i; omega)
    rw [HES.out] at this
    exact this
  have HC3 : Hid (∀ w', Turn [g] W3 w' → w'.cell? ⟨mp, 0, none⟩ = some (.slice (some ⟨g, 0, none⟩) n n) ∧ w'.cell? ⟨r0, 0, none⟩ = some (.pointer (some ⟨t, 0, none⟩))) := Lib.hid fun w' k =>
    ⟨by rw [← hmp]; exact cell_of_row w' (g + 1) 0 _ _ _ (k.heap b3 (by simp)), cell_of_row w' r0 0 _ _ _ (k.heap ((t1.trans' (t2.trans' t3)).heap HB0.out (by simp)) (by simp; omega))⟩
  have c1 : W3.cell? ⟨r0, 1, none⟩ = some (.slice PO n cO) := cell_of_row W3 r0 1 _ _ _ ((t1.trans' (t2.trans' t3)).heap HB0.out (by simp))
  have HIO3 : Hid (∀ w', Turn [g] W3 w' → Ints w' PO (ordL Es)) := Lib.hid fun w' k => HIO.out.below (t1.trans' (HTR.out w' k))
  have HU0 : Hid (Un1 Es top g n W3 W3 0) := Lib.hid ⟨_, hd2.turn' t3, by simp, fun u hu => by simp [hu], Turn.refl _ _⟩
  have HT13 := Lib.hid (t1.trans' (t2.trans' t3))
  have HT1 := Lib.hid t1
  have HG := Lib.hid hg
  have HS2 := Lib.hid s2
  have HW2 := Lib.hid hW2
  have HW3 := Lib.hid hW3
  have HMP := Lib.hid hmp
  clear t1 t2 t3 b3 hd2 hW2 hW3 s2 hg c0 HLn hgw hrg hmp HBk HB0 HIO
  go_upto_region 2 with fail
  rw [HG.out, HW2.out, HW3.out, HMP.out]
  go_wp2_with fail
  clear c1
  go_loopw [17] (fun v17 wr => ∃ k : Nat, k ≤ n ∧ v17 = .int .i64 (k : Int) ∧ Hid (Un1 Es top g n W3 wr k)) (fun v17 _ => n - (intOf v17).toNat)
  case atStart => exact ⟨0, Nat.zero_le _, rfl, HU0⟩
  case round =>
    clear HU0
    obtain ⟨k, hk, rfl, HU⟩ := hrel
    have HK1 : Hid (Turn [g] W3 wr) := Lib.hid (by obtain ⟨ms, _, _, _, h⟩ := HU.out; exact h)
    by_cases hkn : k < n
    · have d1 : decide ((k : Int) < (n : Int)) = true := by simp; omega
      have d2 : (k : Int) < (n : Int) := by omega
      obtain ⟨y, hy⟩ := at_lt (show k < (ordL Es).length by have := HOL.out; omega)
      have hyb := (ord_says HOK.out).2.1 y (List.mem_of_getElem? hy)
      obtain ⟨i, rfl⟩ := Int.eq_ofNat_of_zero_le hyb.1
      have hin : i < n := by have := HEN.out; omega
      have d3 : (i : Int) < (n : Int) := by omega
      have d4 : decide ((i : Int) < (n : Int)) = true := by simp; omega
      obtain ⟨ib, ioff, rfl, _, ci⟩ := HIO3.out wr HK1.out k _ hy
      have HSG : Hid (∀ w', Turn [g] wr w' → (w'.cell? ⟨mp, 0, none⟩ = some (.slice (some ⟨g, 0, none⟩) n n) ∧ w'.cell? ⟨r0, 0, none⟩ = some (.pointer (some ⟨t, 0, none⟩)))) := Lib.hid fun w' q => HC3.out w' (HK1.out.trans q (fun x hx => .inl hx))
      have HNX : Hid (∀ (w4 : World) (v : Bool), v = upT Es top i → Turn [] wr w4 → Un1 Es top g n W3 (w4.setCell ⟨g, i, none⟩ (.bool v)) (k + 1)) := Lib.hid fun w4 v hv q => HU.out.next hy hin q v hv
      have HMk : Hid (∀ w', Turn [] wr w' → Mk w' mp g n n (fun a => decide ((a : Int) ∈ (ordL Es).take k) && upT Es top a) (nxE Es i)) := Lib.hid fun w' q => by
        obtain ⟨ms, h1, h2, h3, h4⟩ := HU.out
        refine ⟨(HC3.out w' (HK1.out.trans' q)).1, fun a ha => ?_⟩
        have han : a < n := by have := HOK.out.lt i a ha; have := HEN.out; omega
        exact ⟨han, (h1.turn' q).at.1 a _ (h3 a han)⟩
      have HCm : Hid (∀ w', Turn [] wr w' → w'.cell? ⟨g, i, none⟩ = some (.bool (decide ((i : Int) ∈ (ordL Es).take k) && upT Es top i)) ∧ w'.frozen? ⟨g, i, none⟩ = false) := Lib.hid fun w' q => by
        obtain ⟨ms, h1, h2, h3, h4⟩ := HU.out
        exact ⟨(h1.turn' q).at.1 i _ (h3 i hin), (h1.turn' q).at.2 i⟩
      have HY := Lib.hid hy
      have cm := (HCm.out wr.drew (Turn.refl [] wr).drew).1
      have cbf := (HCm.out wr.drew (Turn.refl [] wr).drew).2
      obtain ⟨old, hold⟩ : ∃ old, (decide ((i : Int) ∈ (ordL Es).take k) && upT Es top i) = old := ⟨_, rfl⟩
      rw [hold] at cm HCm
      clear hy hyb hold
      go_upto_region 6 with fail
      by_cases hit : i = top
      · have d7 : ((i : Int) == (top : Int)) = true := by simp; omega
        have d8 : decide ((i : Int) = (top : Int)) = true := by simp; omega
        have HVT : Hid (true = upT Es top i) := Lib.hid ((upT_iff HOK.out).2 (by rw [hit]; exact .refl (by rw [HEN.out]; exact htop') (by simp))).symm
        clear hit
        refine wp_region_held_drew (S := fun w' => w'.cell? ⟨mp, 0, none⟩ = some (.slice (some ⟨g, 0, none⟩) n n) ∧ w'.cell? ⟨r0, 0, none⟩ = some (.pointer (some ⟨t, 0, none⟩))) (by kernel_rfl) ?_ (fun hHeld => ?_)
        · exact HSG.out _ (Turn.refl _ wr).drew
        refine wpAnyH_take (i := 0) (oi := { dst := some 21, op := Op.load 72 (Operand.tmp 5), type := 72, pos := _, after := #[], guard := none }) (v := ?_) rfl (by kernel_rfl) (by kernel_rfl) (by kernel_rfl) (fun _ _ _ h => h) (Or.inl ⟨by rfl, ?_⟩) (by assumption) ?_
        rotate_left
        · intro w hSw; (try dsimp only at hSw); go_simp; (try with_reducible rfl)
        try simp only [Act.put, List.setIfInBounds_toArray, List.set_cons_zero, List.set_cons_succ]
        refine wpAnyH_take (i := 1) (oi := { dst := some 22, op := Op.move (Operand.tmp 8), type := 3, pos := _, after := #[], guard := none }) (v := ?_) rfl (by kernel_rfl) (by kernel_rfl) (by kernel_rfl) (fun _ _ _ h => h) (Or.inl ⟨by rfl, ?_⟩) (by assumption) ?_
        rotate_left
        · intro w hSw; (try dsimp only at hSw); go_simp; (try with_reducible rfl)
        try simp only [Act.put, List.setIfInBounds_toArray, List.set_cons_zero, List.set_cons_succ]
        refine wpAnyH_take (i := 2) (oi := { dst := some 23, op := Op.move (Operand.tmp 8), type := 3, pos := _, after := #[], guard := none }) (v := ?_) rfl (by kernel_rfl) (by kernel_rfl) (by kernel_rfl) (fun _ _ _ h => h) (Or.inl ⟨by rfl, ?_⟩) (by assumption) ?_
        rotate_left
        · intro w hSw; (try dsimp only at hSw); go_simp; (try with_reducible rfl)
        try simp only [Act.put, List.setIfInBounds_toArray, List.set_cons_zero, List.set_cons_succ]
        refine wpAnyH_take (i := 3) (oi := { dst := some 24, op := Op.move (Operand.tmp 1), type := 3, pos := _, after := #[], guard := none }) (v := ?_) rfl (by kernel_rfl) (by kernel_rfl) (by kernel_rfl) (fun _ _ _ h => h) (Or.inl ⟨by rfl, ?_⟩) (by assumption) ?_
        rotate_left
        · intro w hSw; (try dsimp only at hSw); go_simp; (try with_reducible rfl)
        try simp only [Act.put, List.setIfInBounds_toArray, List.set_cons_zero, List.set_cons_succ]
        refine wpAnyH_take (i := 4) (oi := { dst := some 25, op := Op.binOp BinOp.eql 3 (Operand.tmp 23) (Operand.tmp 24) 3, type := 4, pos := _, after := #[{ on := 2, ground := Ground.data }, { on := 3, ground := Ground.data }], guard := none }) (v := ?_) rfl (by kernel_rfl) (by kernel_rfl) (by kernel_rfl) (fun _ _ _ h => h) (Or.inl ⟨by rfl, ?_⟩) (by assumption) ?_
        rotate_left
        · intro w hSw; (try dsimp only at hSw); go_simp; (try with_reducible rfl)
        try simp only [Act.put, List.setIfInBounds_toArray, List.set_cons_zero, List.set_cons_succ]
        refine wpAnyH_take (i := 5) (oi := { dst := some 26, op := Op.move (Operand.tmp 25), type := 4, pos := _, after := #[{ on := 4, ground := Ground.data }], guard := none }) (v := ?_) rfl (by kernel_rfl) (by kernel_rfl) (by kernel_rfl) (fun _ _ _ h => h) (Or.inl ⟨by rfl, ?_⟩) (by assumption) ?_
        rotate_left
        · intro w hSw; (try dsimp only at hSw); go_simp; (try with_reducible rfl)
        try simp only [Act.put, List.setIfInBounds_toArray, List.set_cons_zero, List.set_cons_succ]
        refine wpAnyH_take (i := 6) (oi := { dst := some 27, op := Op.fieldAddr 65 (Operand.tmp 2) 0, type := 0, pos := _, after := #[{ on := 5, ground := Ground.guard }], guard := some (5, false) }) (v := undef) rfl (by kernel_rfl) (by kernel_rfl) (by kernel_rfl) (fun _ _ _ h => h) (Or.inr ⟨by rfl, rfl⟩) (by assumption) ?_
        try simp only [Act.put, List.setIfInBounds_toArray, List.set_cons_zero, List.set_cons_succ]
        refine wpAnyH_take (i := 7) (oi := { dst := some 28, op := Op.load 60 (Operand.tmp 27), type := 60, pos := _, after := #[{ on := 6, ground := Ground.data }, { on := 5, ground := Ground.guard }], guard := some (5, false) }) (v := undef) rfl (by kernel_rfl) (by kernel_rfl) (by kernel_rfl) (fun _ _ _ h => h) (Or.inr ⟨by rfl, rfl⟩) (by assumption) ?_
        try simp only [Act.put, List.setIfInBounds_toArray, List.set_cons_zero, List.set_cons_succ]
        refine wpAnyH_take (i := 8) (oi := { dst := some 29, op := Op.move (Operand.tmp 8), type := 3, pos := _, after := #[{ on := 5, ground := Ground.guard }], guard := some (5, false) }) (v := undef) rfl (by kernel_rfl) (by kernel_rfl) (by kernel_rfl) (fun _ _ _ h => h) (Or.inr ⟨by rfl, rfl⟩) (by assumption) ?_
        try simp only [Act.put, List.setIfInBounds_toArray, List.set_cons_zero, List.set_cons_succ]
        refine wpAnyH_take (i := 9) (oi := { dst := some 30, op := Op.call { callee := Callee.value (Operand.func 48), args := #[Operand.tmp 28, Operand.tmp 29], argTypes := #[60, 3] }, type := 63, pos := _, after := #[{ on := 7, ground := Ground.data }, { on := 8, ground := Ground.data }, { on := 5, ground := Ground.chain }, { on := 5, ground := Ground.guard }], guard := some (5, false) }) (v := undef) rfl (by kernel_rfl) (by kernel_rfl) (by kernel_rfl) (fun _ _ _ h => h) (Or.inr ⟨by rfl, rfl⟩) (by assumption) ?_
        try simp only [Act.put, List.setIfInBounds_toArray, List.set_cons_zero, List.set_cons_succ]
        refine wpAnyH_take (i := 10) (oi := { dst := some 31, op := Op.move (Operand.tmp 6), type := 90, pos := _, after := #[{ on := 5, ground := Ground.guard }], guard := some (5, false) }) (v := undef) rfl (by kernel_rfl) (by kernel_rfl) (by kernel_rfl) (fun _ _ _ h => h) (Or.inr ⟨by rfl, rfl⟩) (by assumption) ?_
        try simp only [Act.put, List.setIfInBounds_toArray, List.set_cons_zero, List.set_cons_succ]
        refine wpAnyH_take (i := 11) (oi := { dst := some 32, op := Op.call { callee := Callee.value (Operand.func 47), args := #[Operand.tmp 30, Operand.tmp 31], argTypes := #[63, 90] }, type := 4, pos := _, after := #[{ on := 9, ground := Ground.data }, { on := 10, ground := Ground.data }, { on := 9, ground := Ground.chain }, { on := 5, ground := Ground.guard }], guard := some (5, false) }) (v := undef) rfl (by kernel_rfl) (by kernel_rfl) (by kernel_rfl) (fun _ _ _ h => h) (Or.inr ⟨by rfl, rfl⟩) (by assumption) ?_
        try simp only [Act.put, List.setIfInBounds_toArray, List.set_cons_zero, List.set_cons_succ]
        refine wpAnyH_take (i := 12) (oi := { dst := some 33, op := Op.pick (Operand.tmp 26) (Operand.const (Value.bool true)) (Operand.tmp 32), type := 4, pos := _, after := #[{ on := 5, ground := Ground.data }, { on := 11, ground := Ground.data }], guard := none }) (v := ?_) rfl (by kernel_rfl) (by kernel_rfl) (by kernel_rfl) (fun _ _ _ h => h) (Or.inl ⟨by rfl, ?_⟩) (by assumption) ?_
        rotate_left
        · intro w hSw; (try dsimp only at hSw); go_simp; (try with_reducible rfl)
        try simp only [Act.put, List.setIfInBounds_toArray, List.set_cons_zero, List.set_cons_succ]
        refine wpAnyH_take (i := 13) (oi := { dst := some 34, op := Op.indexAddr 72 (Operand.tmp 21) (Operand.tmp 22), type := 0, pos := _, after := #[{ on := 0, ground := Ground.data }, { on := 1, ground := Ground.data }, { on := 0, ground := Ground.phase }, { on := 1, ground := Ground.phase }, { on := 2, ground := Ground.phase }, { on := 3, ground := Ground.phase }, { on := 4, ground := Ground.phase }, { on := 5, ground := Ground.phase }, { on := 6, ground := Ground.phase }, { on := 7, ground := Ground.phase }, { on := 8, ground := Ground.phase }, { on := 9, ground := Ground.phase }, { on := 10, ground := Ground.phase }, { on := 11, ground := Ground.phase }, { on := 12, ground := Ground.phase }], guard := none }) (v := ?_) rfl (by kernel_rfl) (by kernel_rfl) (by kernel_rfl) (fun _ _ _ h => h) (Or.inl ⟨by rfl, ?_⟩) (by assumption) ?_
        rotate_left
        · intro w hSw; (try dsimp only at hSw); go_simp; (try with_reducible rfl)
        try simp only [Act.put, List.setIfInBounds_toArray, List.set_cons_zero, List.set_cons_succ]
        refine wpAnyH_ready (rs := [14]) (by kernel_rfl) (by simp) ?_
        refine AllReadyH.cons (o := { dst := none, op := Op.store 4 (Operand.tmp 34) (Operand.tmp 33), type := 0, pos := _, after := #[{ on := 13, ground := Ground.data }, { on := 12, ground := Ground.data }, { on := 11, ground := Ground.chain }, { on := 0, ground := Ground.phase }, { on := 1, ground := Ground.phase }, { on := 2, ground := Ground.phase }, { on := 3, ground := Ground.phase }, { on := 4, ground := Ground.phase }, { on := 5, ground := Ground.phase }, { on := 6, ground := Ground.phase }, { on := 7, ground := Ground.phase }, { on := 8, ground := Ground.phase }, { on := 9, ground := Ground.phase }, { on := 10, ground := Ground.phase }, { on := 11, ground := Ground.phase }, { on := 12, ground := Ground.phase }], guard := none }) rfl (fun K hK => ?_) AllReadyH.nil
        go_simp
        refine hK.out _ _ ?_ (fun hHeld => ?_)
        · exact HSG.out _ ((((Turn.refl [] wr).drew).more (by simp)).setCell (p := ⟨g, i, none⟩) (.inl (by simp)) _)
        clear hK K
        try simp only [Act.put, List.setIfInBounds_toArray, List.set_cons_zero, List.set_cons_succ]
        refine wpAnyH_done (by kernel_rfl) ?_ _
        go_wp2_with fail
        go_roundw
        case rel => exact ⟨k + 1, by omega, by go_num, Lib.hid (HNX.out _ true (by exact HVT.out) ((Turn.refl [] wr).drew))⟩
        case measure => simp [intOf]; omega
      · have d7 : ((i : Int) == (top : Int)) = false := by simp; omega
        have d8 : decide ((i : Int) = (top : Int)) = false := by simp; omega
        obtain ⟨v, hv⟩ : ∃ v, upT Es top i = v := ⟨_, rfl⟩
        have HVE := Lib.hid hv.symm
        have HV : Hid ((nxE Es i).any (fun a => decide ((a : Int) ∈ (ordL Es).take k) && upT Es top a) = v) := Lib.hid (by rw [← hv]; exact und_val HOK.out HAC.out HY.out (by rw [HEN.out]; exact hin) hit)
        clear hit hv
        refine wp_region_held_drew (S := fun w' => w'.cell? ⟨mp, 0, none⟩ = some (.slice (some ⟨g, 0, none⟩) n n) ∧ w'.cell? ⟨r0, 0, none⟩ = some (.pointer (some ⟨t, 0, none⟩))) (by kernel_rfl) ?_ (fun hHeld => ?_)
        · exact HSG.out _ (Turn.refl _ wr).drew
        refine wpAnyH_take (i := 0) (oi := { dst := some 21, op := Op.load 72 (Operand.tmp 5), type := 72, pos := _, after := #[], guard := none }) (v := ?_) rfl (by kernel_rfl) (by kernel_rfl) (by kernel_rfl) (fun _ _ _ h => h) (Or.inl ⟨by rfl, ?_⟩) (by assumption) ?_
        rotate_left
        · intro w hSw; (try dsimp only at hSw); go_simp; (try with_reducible rfl)
        try simp only [Act.put, List.setIfInBounds_toArray, List.set_cons_zero, List.set_cons_succ]
        refine wpAnyH_take (i := 1) (oi := { dst := some 22, op := Op.move (Operand.tmp 8), type := 3, pos := _, after := #[], guard := none }) (v := ?_) rfl (by kernel_rfl) (by kernel_rfl) (by kernel_rfl) (fun _ _ _ h => h) (Or.inl ⟨by rfl, ?_⟩) (by assumption) ?_
        rotate_left
        · intro w hSw; (try dsimp only at hSw); go_simp; (try with_reducible rfl)
        try simp only [Act.put, List.setIfInBounds_toArray, List.set_cons_zero, List.set_cons_succ]
        refine wpAnyH_take (i := 2) (oi := { dst := some 23, op := Op.move (Operand.tmp 8), type := 3, pos := _, after := #[], guard := none }) (v := ?_) rfl (by kernel_rfl) (by kernel_rfl) (by kernel_rfl) (fun _ _ _ h => h) (Or.inl ⟨by rfl, ?_⟩) (by assumption) ?_
        rotate_left
        · intro w hSw; (try dsimp only at hSw); go_simp; (try with_reducible rfl)
        try simp only [Act.put, List.setIfInBounds_toArray, List.set_cons_zero, List.set_cons_succ]
        refine wpAnyH_take (i := 3) (oi := { dst := some 24, op := Op.move (Operand.tmp 1), type := 3, pos := _, after := #[], guard := none }) (v := ?_) rfl (by kernel_rfl) (by kernel_rfl) (by kernel_rfl) (fun _ _ _ h => h) (Or.inl ⟨by rfl, ?_⟩) (by assumption) ?_
        rotate_left
        · intro w hSw; (try dsimp only at hSw); go_simp; (try with_reducible rfl)
        try simp only [Act.put, List.setIfInBounds_toArray, List.set_cons_zero, List.set_cons_succ]
        refine wpAnyH_take (i := 4) (oi := { dst := some 25, op := Op.binOp BinOp.eql 3 (Operand.tmp 23) (Operand.tmp 24) 3, type := 4, pos := _, after := #[{ on := 2, ground := Ground.data }, { on := 3, ground := Ground.data }], guard := none }) (v := ?_) rfl (by kernel_rfl) (by kernel_rfl) (by kernel_rfl) (fun _ _ _ h => h) (Or.inl ⟨by rfl, ?_⟩) (by assumption) ?_
        rotate_left
        · intro w hSw; (try dsimp only at hSw); go_simp; (try with_reducible rfl)
        try simp only [Act.put, List.setIfInBounds_toArray, List.set_cons_zero, List.set_cons_succ]
        refine wpAnyH_take (i := 5) (oi := { dst := some 26, op := Op.move (Operand.tmp 25), type := 4, pos := _, after := #[{ on := 4, ground := Ground.data }], guard := none }) (v := ?_) rfl (by kernel_rfl) (by kernel_rfl) (by kernel_rfl) (fun _ _ _ h => h) (Or.inl ⟨by rfl, ?_⟩) (by assumption) ?_
        rotate_left
        · intro w hSw; (try dsimp only at hSw); go_simp; (try with_reducible rfl)
        try simp only [Act.put, List.setIfInBounds_toArray, List.set_cons_zero, List.set_cons_succ]
        refine wpAnyH_take (i := 6) (oi := { dst := some 27, op := Op.fieldAddr 65 (Operand.tmp 2) 0, type := 0, pos := _, after := #[{ on := 5, ground := Ground.guard }], guard := some (5, false) }) (v := ?_) rfl (by kernel_rfl) (by kernel_rfl) (by kernel_rfl) (fun _ _ _ h => h) (Or.inl ⟨by rfl, ?_⟩) (by assumption) ?_
        rotate_left
        · intro w hSw; (try dsimp only at hSw); go_simp; (try with_reducible rfl)
        try simp only [Act.put, List.setIfInBounds_toArray, List.set_cons_zero, List.set_cons_succ]
        refine wpAnyH_take (i := 7) (oi := { dst := some 28, op := Op.load 60 (Operand.tmp 27), type := 60, pos := _, after := #[{ on := 6, ground := Ground.data }, { on := 5, ground := Ground.guard }], guard := some (5, false) }) (v := ?_) rfl (by kernel_rfl) (by kernel_rfl) (by kernel_rfl) (fun _ _ _ h => h) (Or.inl ⟨by rfl, ?_⟩) (by assumption) ?_
        rotate_left
        · intro w hSw; (try dsimp only at hSw); go_simp; (try with_reducible rfl)
        try simp only [Act.put, List.setIfInBounds_toArray, List.set_cons_zero, List.set_cons_succ]
        refine wpAnyH_take (i := 8) (oi := { dst := some 29, op := Op.move (Operand.tmp 8), type := 3, pos := _, after := #[{ on := 5, ground := Ground.guard }], guard := some (5, false) }) (v := ?_) rfl (by kernel_rfl) (by kernel_rfl) (by kernel_rfl) (fun _ _ _ h => h) (Or.inl ⟨by rfl, ?_⟩) (by assumption) ?_
        rotate_left
        · intro w hSw; (try dsimp only at hSw); go_simp; (try with_reducible rfl)
        try simp only [Act.put, List.setIfInBounds_toArray, List.set_cons_zero, List.set_cons_succ]
        refine wpAnyH_take (i := 10) (oi := { dst := some 31, op := Op.move (Operand.tmp 6), type := 90, pos := _, after := #[{ on := 5, ground := Ground.guard }], guard := some (5, false) }) (v := ?_) rfl (by kernel_rfl) (by kernel_rfl) (by kernel_rfl) (fun _ _ _ h => h) (Or.inl ⟨by rfl, ?_⟩) (by assumption) ?_
        rotate_left
        · intro w hSw; (try dsimp only at hSw); go_simp; (try with_reducible rfl)
        try simp only [Act.put, List.setIfInBounds_toArray, List.set_cons_zero, List.set_cons_succ]
        refine wpAnyH_ready (rs := [9]) (by kernel_rfl) (by simp) ?_
        refine AllReadyH.cons (o := { dst := some 30, op := Op.call { callee := Callee.value (Operand.func 48), args := #[Operand.tmp 28, Operand.tmp 29], argTypes := #[60, 3] }, type := 63, pos := _, after := #[{ on := 7, ground := Ground.data }, { on := 8, ground := Ground.data }, { on := 5, ground := Ground.chain }, { on := 5, ground := Ground.guard }], guard := some (5, false) }) rfl (fun K hK => ?_) AllReadyH.nil
        go_simp
        go_at_call 48
        (with_reducible refine (HRt.out wr.drew HK1.out.drew i).mono ?_)
        rintro e w4 ⟨U4, rfl, h4, t4⟩
        obtain ⟨A4, c4, rfl, hi4, _⟩ := h4.form
        have HT4 : Hid (Turn [] wr w4) := Lib.hid ((Turn.refl [] wr).drew.trans' t4)
        have hl4 : (ofN (enAt Es (i : Int)).rt).length = (nxE Es i).length := by simp [ofN, nxE]
        obtain ⟨N4, hN4⟩ : ∃ N, (ofN (enAt Es (i : Int)).rt).length = N := ⟨_, rfl⟩
        rw [hN4] at hl4 ⊢
        have hN4b : N4 ≤ 1000 := by rw [hl4]; exact HOK.out.few i
        have hmk := HMk.out w4 HT4.out
        have HCo := Lib.hid (containsF_any w4 A4 N4 c4 mp g n n _ (nxE Es i) hi4 hl4 hN4b hn1 hmk)
        rw [HV.out] at HCo
        have cm := (HCm.out w4 HT4.out).1
        have cbf := (HCm.out w4 HT4.out).2
        clear h4 hi4 t4 hl4 hN4 hmk
        try go_wp2_with fail
        refine hK.out _ _ ?_ (fun hHeld => ?_)
        · exact HSG.out _ ((HT4.out).more (by simp))
        clear hK K
        try simp only [Act.put, List.setIfInBounds_toArray, List.set_cons_zero, List.set_cons_succ]
        refine wpAnyH_ready (rs := [11]) (by kernel_rfl) (by simp) ?_
        refine AllReadyH.cons (o := { dst := some 32, op := Op.call { callee := Callee.value (Operand.func 47), args := #[Operand.tmp 30, Operand.tmp 31], argTypes := #[63, 90] }, type := 4, pos := _, after := #[{ on := 9, ground := Ground.data }, { on := 10, ground := Ground.data }, { on := 9, ground := Ground.chain }, { on := 5, ground := Ground.guard }], guard := some (5, false) }) rfl (fun K hK => ?_) AllReadyH.nil
        go_simp
        go_at_call 47
        (with_reducible refine HCo.out.mono ?_)
        rintro e w5 ⟨rfl, rfl⟩
        try go_wp2_with fail
        refine hK.out _ _ ?_ (fun hHeld => ?_)
        · exact HSG.out _ ((HT4.out).more (by simp))
        clear hK K
        try simp only [Act.put, List.setIfInBounds_toArray, List.set_cons_zero, List.set_cons_succ]
        refine wpAnyH_take (i := 12) (oi := { dst := some 33, op := Op.pick (Operand.tmp 26) (Operand.const (Value.bool true)) (Operand.tmp 32), type := 4, pos := _, after := #[{ on := 5, ground := Ground.data }, { on := 11, ground := Ground.data }], guard := none }) (v := ?_) rfl (by kernel_rfl) (by kernel_rfl) (by kernel_rfl) (fun _ _ _ h => h) (Or.inl ⟨by rfl, ?_⟩) (by assumption) ?_
        rotate_left
        · intro w hSw; (try dsimp only at hSw); go_simp; (try with_reducible rfl)
        try simp only [Act.put, List.setIfInBounds_toArray, List.set_cons_zero, List.set_cons_succ]
        refine wpAnyH_take (i := 13) (oi := { dst := some 34, op := Op.indexAddr 72 (Operand.tmp 21) (Operand.tmp 22), type := 0, pos := _, after := #[{ on := 0, ground := Ground.data }, { on := 1, ground := Ground.data }, { on := 0, ground := Ground.phase }, { on := 1, ground := Ground.phase }, { on := 2, ground := Ground.phase }, { on := 3, ground := Ground.phase }, { on := 4, ground := Ground.phase }, { on := 5, ground := Ground.phase }, { on := 6, ground := Ground.phase }, { on := 7, ground := Ground.phase }, { on := 8, ground := Ground.phase }, { on := 9, ground := Ground.phase }, { on := 10, ground := Ground.phase }, { on := 11, ground := Ground.phase }, { on := 12, ground := Ground.phase }], guard := none }) (v := ?_) rfl (by kernel_rfl) (by kernel_rfl) (by kernel_rfl) (fun _ _ _ h => h) (Or.inl ⟨by rfl, ?_⟩) (by assumption) ?_
        rotate_left
        · intro w hSw; (try dsimp only at hSw); go_simp; (try with_reducible rfl)
        try simp only [Act.put, List.setIfInBounds_toArray, List.set_cons_zero, List.set_cons_succ]
        refine wpAnyH_ready (rs := [14]) (by kernel_rfl) (by simp) ?_
        refine AllReadyH.cons (o := { dst := none, op := Op.store 4 (Operand.tmp 34) (Operand.tmp 33), type := 0, pos := _, after := #[{ on := 13, ground := Ground.data }, { on := 12, ground := Ground.data }, { on := 11, ground := Ground.chain }, { on := 0, ground := Ground.phase }, { on := 1, ground := Ground.phase }, { on := 2, ground := Ground.phase }, { on := 3, ground := Ground.phase }, { on := 4, ground := Ground.phase }, { on := 5, ground := Ground.phase }, { on := 6, ground := Ground.phase }, { on := 7, ground := Ground.phase }, { on := 8, ground := Ground.phase }, { on := 9, ground := Ground.phase }, { on := 10, ground := Ground.phase }, { on := 11, ground := Ground.phase }, { on := 12, ground := Ground.phase }], guard := none }) rfl (fun K hK => ?_) AllReadyH.nil
        go_simp
        refine hK.out _ _ ?_ (fun hHeld => ?_)
        · exact HSG.out _ (((HT4.out).more (by simp)).setCell (p := ⟨g, i, none⟩) (.inl (by simp)) _)
        clear hK K
        try simp only [Act.put, List.setIfInBounds_toArray, List.set_cons_zero, List.set_cons_succ]
        refine wpAnyH_done (by kernel_rfl) ?_ _
        go_wp2_with fail
        go_roundw
        case rel => exact ⟨k + 1, by omega, by go_num, Lib.hid (HNX.out _ v (by exact HVE.out) (HT4.out))⟩
        case measure => simp [intOf]; omega
    · obtain rfl : k = n := by omega
      have d1 : decide ((k : Int) < (k : Int)) = false := by simp
      have c9 := (HC3.out wr HK1.out).1
      go_wp2_with fail
      go_ret
      obtain ⟨ms, h1, h2, h3, h4⟩ := HU.out
      refine ⟨g, ms, rfl, h1, h2, fun u hu => ?_, (HT0.out.trans' HT1.out).trans' (HTR.out wr HK1.out)⟩
      have hmem := ((ord_says HOK.out).2.2.2 HAC.out).1 u (by rw [HEN.out]; exact hu)
      rw [h3 u hu, List.take_of_length_le (by rw [HOL.out]; exact Nat.le_refl _)]
      simp [hmem]
end
end Go.Proofs.YtbocejiclellfaaGreatDoor

/- The reference's Plain. -/
set_option linter.unusedSimpArgs false
set_option linter.unusedVariables false
set_option maxRecDepth 100000
namespace Go.Proofs.YtbocejiclellfaaGreatDoor
open Go.RowKit

theorem emp_list {a : ByteArray} : a.toList.isEmpty = decide (a = ⟨#[]⟩) := by
  rw [Bool.eq_iff_iff, List.isEmpty_iff, decide_eq_true_eq, ByteArray.toList_eq]
  constructor
  · intro h
    apply ByteArray.ext
    rw [← Array.toList_inj, h]
  · intro h
    rw [h]
set_option maxHeartbeats 6400000 in
theorem plain_any (A : Option Addr) (c B : Nat) (l : List K8) (m0 m1 m2 m3 m4 m5 m6 m7 m8 : Value) (w : World) (hr : RdKs B w A l) (hl : l.length ≤ 1000) (hz : ∀ x ∈ l, x.nm.size ≤ 281474976710656) :
    Calls Tryz.prog 23 #[.agg #[.slice A l.length c, m0, m1, m2, m3, m4, m5, m6, m7, m8]] w fun e w' => ∃ b, e = .returned (.bool b) ∧ (b = true → PlainL l) ∧ Turn [] w w' := by
  obtain ⟨n, hn⟩ : ∃ n, l.length = n := ⟨_, rfl⟩
  obtain ⟨r, hrr⟩ : ∃ r, w.heap.size = r := ⟨_, rfl⟩
  obtain ⟨W0, hW0⟩ : ∃ W, w.alloc (.cells #[.slice A n c, m0, m1, m2, m3, m4, m5, m6, m7, m8] 30) = W := ⟨_, rfl⟩
  have t0 : Turn [] w W0 := by rw [← hW0]; exact (Turn.refl [] w).alloc _
  have b0 : W0.heap[r]? = some (.cells #[.slice A n c, m0, m1, m2, m3, m4, m5, m6, m7, m8] 30 (0, 0)) := by rw [← hW0, ← hrr]; exact heap_alloc_new w _
  have p0 : W0.cell? ⟨r, 0, none⟩ = some (.slice A n c) := cell_of_row W0 r 0 _ _ _ b0
  have HP : Hid (∀ W, Turn [] W0 W → W.cell? ⟨r, 0, none⟩ = some (.slice A n c)) := Lib.hid fun W k => cell_of_row W r 0 _ _ _ (k.heap b0 (by simp))
  have HRD := Lib.hid (hr.turn t0 (by simp))
  have HZ := Lib.hid hz
  have HT0 := Lib.hid t0
  have HW0 := Lib.hid hW0
  have HRR := Lib.hid hrr
  have HN := Lib.hid hn
  have hn1 : n ≤ 1000 := by omega
  rw [hn]
  clear hr hrr hW0 t0 b0 hz hn
  go_enter Tryz.func23, Tryz.ntmps23
  go_upto_region 1 with fail
  rw [HRR.out, HW0.out]
  clear p0
  go_wp2_with fail
  go_loopw [3] (fun v3 wr => ∃ k : Nat, k ≤ n ∧ v3 = .int .i64 (k : Int) ∧ Hid (∀ (j : Nat) x, j < k → l[j]? = some x → x.nm ≠ ⟨#[]⟩ ∧ x.nm ≠ tInt ∧ x.nm ≠ tNull ∧ x.nm ≠ tVoid ∧ cutB x.nm = none) ∧ Hid (Turn [] W0 wr)) (fun v3 _ => n - (intOf v3).toNat)
  case atStart => exact ⟨0, Nat.zero_le _, rfl, Lib.hid fun j s h => by omega, Lib.hid (Turn.refl _ _)⟩
  case round =>
    obtain ⟨k, hk, rfl, HA, HT⟩ := hrel
    have p0 := HP.out wr HT.out
    by_cases hkn : k < n
    · have d1 : decide ((k : Int) < (n : Int)) = true := by simp; omega
      have d2 : (k : Int) < (n : Int) := by omega
      obtain ⟨x, hx⟩ := at_lt (show k < l.length by have := HN.out; omega)
      obtain ⟨b, off, cs, rfl, hb, hbl, hcell, A3, c3, A4, n4, c4, A5, n5, c5, A6, n6, c6, I, rfl, hst⟩ := (HRD.out.turn HT.out (by simp)) k x hx
      have e0 : wr.cell? ⟨b, off + k * 10, none⟩ = some (.string x.nm) := hcell 0 _ rfl
      have hsz := HZ.out x (List.mem_of_getElem? hx)
      have HX := Lib.hid hx
      obtain ⟨s, hs⟩ : ∃ s, x.nm = s := ⟨_, rfl⟩
      have HNX : Hid (s ≠ ⟨#[]⟩ ∧ s ≠ tInt ∧ s ≠ tNull ∧ s ≠ tVoid ∧ cutB s = none → ∀ (j : Nat) x, j < k + 1 → l[j]? = some x → x.nm ≠ ⟨#[]⟩ ∧ x.nm ≠ tInt ∧ x.nm ≠ tNull ∧ x.nm ≠ tVoid ∧ cutB x.nm = none) := Lib.hid fun h j x' hj hx' => by
        rcases Nat.lt_or_ge j k with h3 | h3
        · exact HA.out j x' h3 hx'
        · have e : j = k := by omega
          subst e
          have := HX.out.symm.trans hx'
          injection this with e
          rw [← e, hs]
          exact h
      rw [hs] at e0 hsz
      obtain ⟨z, hz⟩ : ∃ z, s.size = z := ⟨_, rfl⟩
      obtain ⟨q0, hq0⟩ : ∃ q, decide (s = ⟨#[]⟩) = q := ⟨_, rfl⟩
      obtain ⟨q1, hq1⟩ : ∃ q, decide (s = tInt) = q := ⟨_, rfl⟩
      obtain ⟨q2, hq2⟩ : ∃ q, decide (s = tNull) = q := ⟨_, rfl⟩
      obtain ⟨q3, hq3⟩ : ∃ q, decide (s = tVoid) = q := ⟨_, rfl⟩
      have f0 : s.toList.isEmpty = q0 := by rw [emp_list]; exact hq0
      have f1 : (s.toList == [105, 110, 116]) = q1 := by rw [lit_list]; exact hq1
      have f2 : (s.toList == [110, 117, 108, 108]) = q2 := by rw [lit_list]; exact hq2
      have f3 : (s.toList == [118, 111, 105, 100]) = q3 := by rw [lit_list]; exact hq3
      have HQ := Lib.hid (And.intro hq0 (And.intro hq1 (And.intro hq2 hq3)))
      have HZZ := Lib.hid hz
      rw [hz] at hsz
      clear hx hcell hst hs hq0 hq1 hq2 hq3
      cases q0 with
      | true =>
        go_wp2_with fail
        go_ret
        exact ⟨false, rfl, (fun h => by cases h), HT0.out.trans' HT.out⟩
      | false => cases q1 with
        | true =>
          go_wp2_with fail
          go_ret
          exact ⟨false, rfl, (fun h => by cases h), HT0.out.trans' HT.out⟩
        | false => cases q2 with
          | true =>
            go_wp2_with fail
            go_ret
            exact ⟨false, rfl, (fun h => by cases h), HT0.out.trans' HT.out⟩
          | false => cases q3 with
            | true =>
              go_wp2_with fail
              go_ret
              exact ⟨false, rfl, (fun h => by cases h), HT0.out.trans' HT.out⟩
            | false =>
              have HFour : Hid (s ≠ ⟨#[]⟩ ∧ s ≠ tInt ∧ s ≠ tNull ∧ s ≠ tVoid) := Lib.hid ⟨of_decide_eq_false HQ.out.1, of_decide_eq_false HQ.out.2.1, of_decide_eq_false HQ.out.2.2.1, of_decide_eq_false HQ.out.2.2.2⟩
              by_cases h2 : 2 ≤ z
              · have g1 : decide ((z : Int) ≥ 2) = true := by simp; omega
                have g2 : decide ((2 : Int) ≤ (z : Int)) = true := by simp; omega
                have hw : IntKind.i64.wrap ((z : Int) - 2) = (z : Int) - 2 := by rw [IntKind.wrap_i64]; omega
                have hbl := br_list (a := s.extract (z - 2) z)
                by_cases e : s.extract (z - 2) z = tBr
                · have g3 : ((s.extract (z - 2) z).toList == [91, 93]) = true := by rw [hbl, e]; simp
                  clear hbl e
                  go_wp2_with fail
                  go_ret
                  exact ⟨false, rfl, (fun h => by cases h), HT0.out.trans' HT.out⟩
                · have g3 : ((s.extract (z - 2) z).toList == [91, 93]) = false := by rw [hbl]; simp [e]
                  have HC := Lib.hid (br_no (t := s) (by rw [HZZ.out]; exact e))
                  clear hbl e
                  go_wp2_with fail
                  go_roundw
                  case rel => exact ⟨k + 1, by omega, by go_num, Lib.hid (HNX.out ⟨HFour.out.1, HFour.out.2.1, HFour.out.2.2.1, HFour.out.2.2.2, HC.out⟩), HT⟩
                  case measure => simp [intOf]; omega
              · have g1 : decide ((z : Int) ≥ 2) = false := by simp; omega
                have g2 : decide ((2 : Int) ≤ (z : Int)) = false := by simp; omega
                have HC := Lib.hid (br_not (t := s) (by rw [HZZ.out]; exact h2))
                go_wp2_with fail
                go_roundw
                case rel => exact ⟨k + 1, by omega, by go_num, Lib.hid (HNX.out ⟨HFour.out.1, HFour.out.2.1, HFour.out.2.2.1, HFour.out.2.2.2, HC.out⟩), HT⟩
                case measure => simp [intOf]; omega
    · obtain rfl : k = n := by omega
      have d1 : decide ((k : Int) < (k : Int)) = false := by simp
      go_wp2_with fail
      go_ret
      refine ⟨true, rfl, fun _ x hx => ?_, HT0.out.trans' HT.out⟩
      obtain ⟨j, hj⟩ := List.getElem?_of_mem hx
      have h4 := (List.getElem?_eq_some_iff.1 hj).1
      exact HA.out j x (by have := HN.out; omega) hj
end Go.Proofs.YtbocejiclellfaaGreatDoor

/- The law's list of types. -/
set_option linter.unusedSimpArgs false
set_option linter.unusedVariables false
set_option maxRecDepth 100000
namespace Go.Proofs.YtbocejiclellfaaGreatDoor
open Go.RowKit

/-- The i-th of the list. -/
def kdAt (i : Nat) : Kd := if i = 0 then .int else if i = 1 then .null else if i % 2 = 0 then .cl ((i - 2) / 2) else .ar ((i - 2) / 2)
def allT (l : List K8) (m : Nat) : List ByteArray := (List.range (2 + 2 * m)).map fun i => txK l (kdAt i)
theorem allT_len (l : List K8) (m : Nat) : (allT l m).length = 2 + 2 * m := by simp [allT]
theorem allT_at (l : List K8) (m : Nat) {i : Nat} (h : i < 2 + 2 * m) : (allT l m)[i]? = some (txK l (kdAt i)) := by
  unfold allT
  rw [List.getElem?_map, List.getElem?_range h]
  rfl
theorem allT_zero (l : List K8) : allT l 0 = [tInt, tNull] := rfl
theorem kdAt_cl (m : Nat) : kdAt (2 + 2 * m) = .cl m := by
  unfold kdAt
  rw [if_neg (by omega), if_neg (by omega), if_pos (by omega), show (2 + 2 * m - 2) / 2 = m by omega]
theorem kdAt_ar (m : Nat) : kdAt (2 + 2 * m + 1) = .ar m := by
  unfold kdAt
  rw [if_neg (by omega), if_neg (by omega), if_neg (by omega), show (2 + 2 * m + 1 - 2) / 2 = m by omega]
theorem allT_next (l : List K8) (m : Nat) : allT l (m + 1) = allT l m ++ [nmL l m, nmL l m ++ tBr] := by
  unfold allT
  rw [show 2 + 2 * (m + 1) = 2 + 2 * m + 1 + 1 by omega, List.range_succ, List.range_succ, List.map_append, List.map_append, List.map_cons, List.map_cons, List.map_nil, kdAt_cl, kdAt_ar]
  simp [txK]
theorem kdAt_inj {i j : Nat} (h : kdAt i = kdAt j) : i = j := by
  unfold kdAt at h
  by_cases i0 : i = 0
  · by_cases j0 : j = 0
    · omega
    · rw [if_pos i0, if_neg j0] at h
      split at h
      · cases h
      · split at h <;> cases h
  · rw [if_neg i0] at h
    by_cases j0 : j = 0
    · rw [if_pos j0] at h
      split at h
      · cases h
      · split at h <;> cases h
    · rw [if_neg j0] at h
      by_cases i1 : i = 1
      · by_cases j1 : j = 1
        · omega
        · rw [if_pos i1, if_neg j1] at h
          split at h <;> cases h
      · rw [if_neg i1] at h
        by_cases j1 : j = 1
        · rw [if_pos j1] at h
          split at h <;> cases h
        · rw [if_neg j1] at h
          split at h <;> split at h <;> first | (injection h with h; omega) | cases h
theorem kdAt_ok {l : List K8} {m i : Nat} (hm : m ≤ l.length) (h : i < 2 + 2 * m) : okKd l (kdAt i) := by
  unfold kdAt
  split
  · trivial
  · split
    · trivial
    · split
      · show (i - 2) / 2 < l.length
        omega
      · show (i - 2) / 2 < l.length
        omega
/-- A slice of texts of the program's own. -/
def OwnS (W : World) (V : Value) (ts : List ByteArray) : Prop := W.ownsRow 0 9 1 V ts.length (ts.map Value.string)
theorem OwnS.turn' {W W' : World} {V : Value} {ts : List ByteArray} (h : OwnS W V ts) (t : Turn [] W W') : OwnS W' V ts := Turn.owns t h (by simp)
theorem OwnS.txs {W : World} {V : Value} {ts : List ByteArray} (h : OwnS W V ts) : ∃ P c, V = .slice P ts.length c ∧ Txs W P ts := by
  obtain ⟨P, c, rfl, hc, _⟩ := owns_form h
  refine ⟨P, c, rfl, fun k s hs => ?_⟩
  obtain ⟨_, _, hr⟩ := Rws.of_owns h
  rcases hr.2 with h0 | ⟨b, off, rfl, hb, hcell⟩
  · have := (List.getElem?_eq_some_iff.1 hs).1
    omega
  · exact ⟨b, off, rfl, hb, hcell k _ (by rw [List.getElem?_map, hs]; rfl)⟩
theorem owns_two (W : World) (s u : ByteArray) : OwnS (W.alloc (.cells #[.string s, .string u] 9)) (.slice (some ⟨W.heap.size, 0, none⟩) 2 2) [s, u] :=
  ⟨rfl, .inr ⟨W.heap.size, 2, #[.string s, .string u], rfl, Nat.zero_le _, heap_alloc_new W _, Nat.le_refl _, by unfold maxLen; omega, rfl, rfl⟩⟩
theorem OwnS.grown {W : World} {V : Value} {l : List K8} {m : Nat} (h : W.ownsRow 0 9 1 V ((allT l m).length + 2) ((allT l m).map Value.string ++ [.string (nmL l m), .string (nmL l m ++ tBr)])) : OwnS W V (allT l (m + 1)) := by
  unfold OwnS
  rw [allT_next, List.length_append, List.map_append]
  exact h
theorem rws_two (W : World) (T : TypeId) (s u : ByteArray) : Rws (W.alloc (.cells #[.string s, .string u] T)) 1 (some ⟨W.heap.size, 0, none⟩) 2 [.string s, .string u] := by
  have h := heap_alloc_new W (.cells #[.string s, .string u] T)
  refine ⟨rfl, .inr ⟨_, 0, rfl, by simp, fun j u' hj => ?_⟩⟩
  rw [cell_of_row _ W.heap.size _ _ _ _ h]
  match j, hj with
  | 0, hj => simp at hj; subst hj; simp
  | 1, hj => simp at hj; subst hj; simp
  | j + 2, hj => simp at hj
end Go.Proofs.YtbocejiclellfaaGreatDoor

/- The names of the marked classes. -/
set_option linter.unusedSimpArgs false
set_option linter.unusedVariables false
set_option linter.unusedSectionVars false
set_option maxRecDepth 100000
namespace Go.Proofs.YtbocejiclellfaaGreatDoor
open Go.RowKit

def selB (l : List K8) (top i : Nat) : Bool := upT (esL l) top i && !(enAt (esL l) (i : Int)).face
def lstC (l : List K8) (top k : Nat) : List ByteArray := ((List.range k).filter (selB l top)).map (nmL l)
theorem lstC_next (l : List K8) (top k : Nat) : lstC l top (k + 1) = if selB l top k = true then lstC l top k ++ [nmL l k] else lstC l top k := by
  unfold lstC
  rw [List.range_succ, List.filter_append]
  by_cases h : selB l top k = true
  · rw [if_pos h]
    simp [h]
  · rw [if_neg h]
    simp [h]
theorem lstC_len (l : List K8) (top k : Nat) : (lstC l top k).length ≤ k := by
  unfold lstC
  rw [List.length_map]
  have := List.length_filter_le (selB l top) (List.range k)
  simpa using this
theorem rws_str (W : World) (T : TypeId) (s : ByteArray) : Rws (W.alloc (.cells #[.string s] T)) 1 (some ⟨W.heap.size, 0, none⟩) 1 [.string s] := by
  have h := heap_alloc_new W (.cells #[.string s] T)
  refine ⟨rfl, .inr ⟨_, 0, rfl, by simp, fun j u' hj => ?_⟩⟩
  rw [cell_of_row _ W.heap.size _ _ _ _ h]
  match j, hj with
  | 0, hj => simp at hj; subst hj; simp
  | j + 1, hj => simp at hj
section
variable {A : Option Addr} {B : Nat} {l : List K8} {r t m sz : Nat} {V VO : Value} {x : Nat}
set_option maxHeartbeats 12800000 in
theorem classes_any (gg : Rgt l) (pl : PlainL l) (hz : ∀ x ∈ l, x.nm.size ≤ 281474976710656) (W : World) (b : Ty A B l r t m sz V x VO W) (top g : Nat) (ms : List Bool) (hO : OwnB W 0 (.slice (some ⟨g, 0, none⟩) l.length l.length) ms) (hms : ms.length = l.length) (hmu : ∀ u, u < l.length → ms[u]? = some (upT (esL l) top u)) :
    Calls Tryz.prog 30 #[.agg #[.pointer (some ⟨t, 0, none⟩), VO], .slice (some ⟨g, 0, none⟩) l.length l.length] W fun e w' => ∃ U, e = .returned U ∧ OwnS w' U (lstC l top l.length) ∧ Turn [] W w' := by
  obtain ⟨n, hn⟩ : ∃ n, l.length = n := ⟨_, rfl⟩
  have hn1 : n ≤ 1000 := by rw [← hn]; exact b.len
  obtain ⟨r0, hr0⟩ : ∃ r, W.heap.size = r := ⟨_, rfl⟩
  obtain ⟨W0, hW0⟩ : ∃ W', W.alloc (.cells #[.pointer (some ⟨t, 0, none⟩), VO] 67) = W' := ⟨_, rfl⟩
  have t0 : Turn [] W W0 := by rw [← hW0]; exact (Turn.refl [] W).alloc _
  have s0 : W0.heap.size = r0 + 1 := by rw [← hW0, ← hr0]; simp
  have b0 : W0.heap[r0]? = some (.cells #[.pointer (some ⟨t, 0, none⟩), VO] 67 (0, 0)) := by rw [← hW0, ← hr0]; exact heap_alloc_new W _
  have HBx : Hid (∀ w, Turn [] W0 w → w.cell? ⟨r0, 0, none⟩ = some (.pointer (some ⟨t, 0, none⟩)) ∧ w.cell? ⟨r0, 1, none⟩ = some VO) := Lib.hid fun w k => ⟨cell_of_row _ r0 0 _ _ _ (k.heap b0 (by simp)), cell_of_row _ r0 1 _ _ _ (k.heap b0 (by simp))⟩
  have HNm : Hid (∀ w, Turn [] W0 w → ∀ i : Nat, Calls Tryz.prog 26 #[.agg #[.pointer (some ⟨t, 0, none⟩), VO], .int .i64 (i : Int)] w fun e w' => e = .returned (.string (nmL l i)) ∧ Turn [] w w') := Lib.hid fun w k i => by
    have := lname_any (VO := VO) w (b.bk.turn (t0.trans' k)) (i : Int)
    rw [en_nm b.len b.snd] at this
    exact this
  have HCl : Hid (∀ w, Turn [] W0 w → ∀ i : Nat, i < n → Calls Tryz.prog 27 #[.agg #[.pointer (some ⟨t, 0, none⟩), VO], .string (nmL l i)] w fun e w' => e = .returned (.tuple #[.int .i64 (i : Int), .bool true]) ∧ Turn [] w w') := Lib.hid fun w k i hi => by
    have hok : okKd l (.cl i) := by show i < l.length; omega
    have hc := cl_tx gg pl hok
    simp only [txK] at hc
    obtain ⟨y, hy, hyn⟩ := kd_at (show i < l.length by omega)
    have := nclass_any (VO := VO) w (b.bk.turn (t0.trans' k)) (nmL l i) (by rw [hyn]; have := hz y (List.mem_of_getElem? hy); omega)
    rw [hc] at this
    exact this
  have HFc : Hid (∀ w, Turn [] W0 w → ∀ i : Nat, Calls Tryz.prog 44 #[.pointer (some ⟨t, 0, none⟩), .int .i64 (i : Int)] w fun e w' => e = .returned (.bool (enAt (esL l) (i : Int)).face) ∧ Turn [] w w') := Lib.hid fun w k i => bk_face w (b.bk.turn (t0.trans' k)) (i : Int)
  have HM : Hid (∀ w, Turn [] W0 w → ∀ u, u < n → w.cell? ⟨g, u, none⟩ = some (.bool (upT (esL l) top u))) := Lib.hid fun w k u hu => ((hO.turn' t0).turn' k).at.1 u _ (hmu u (by omega))
  have HT0 := Lib.hid t0
  have HW0 := Lib.hid hW0
  have HR0 := Lib.hid hr0
  have HS0 := Lib.hid s0
  have HN := Lib.hid hn
  rw [hn]
  clear b t0 hW0 hr0 b0 s0 hO hms hmu hz
  go_enter Tryz.func30, Tryz.ntmps30
  go_upto_region 1 with fail
  rw [HR0.out, HW0.out]
  go_wp2_with fail
  go_loopw [5, 13] (fun v5 v13 wr => ∃ k : Nat, k ≤ n ∧ v13 = .int .i64 (k : Int) ∧ Hid (OwnS wr v5 (lstC l top k) ∧ (∀ q, v5.ownBlock = some q → r0 + 1 ≤ q) ∧ Turn [] W0 wr)) (fun _ v13 _ => n - (intOf v13).toNat)
  case atStart => exact ⟨0, Nat.zero_le _, rfl, Lib.hid ⟨World.ownsRow_nil _ 0 9 1, fun q h => by simp [Value.ownBlock] at h, Turn.refl _ _⟩⟩
  case round =>
    obtain ⟨k, hk, rfl, HK⟩ := hrel
    by_cases hkn : k < n
    · have d1 : decide ((k : Int) < (n : Int)) = true := by simp; omega
      have d2 : (k : Int) < (n : Int) := by omega
      have cm := HM.out wr HK.out.2.2 k hkn
      obtain ⟨c0, c1⟩ := HBx.out wr HK.out.2.2
      have HN1 := Lib.hid (HNm.out wr HK.out.2.2 k)
      have hnx := lstC_next l top k
      have hll := lstC_len l top k
      have HCk : Hid (∀ w, Turn [] W0 w → Calls Tryz.prog 27 #[.agg #[.pointer (some ⟨t, 0, none⟩), VO], .string (nmL l k)] w fun e w' => e = .returned (.tuple #[.int .i64 (k : Int), .bool true]) ∧ Turn [] w w') := Lib.hid fun w q => HCl.out w q k hkn
      have HFk : Hid (∀ w, Turn [] W0 w → Calls Tryz.prog 44 #[.pointer (some ⟨t, 0, none⟩), .int .i64 (k : Int)] w fun e w' => e = .returned (.bool (enAt (esL l) (k : Int)).face) ∧ Turn [] w w') := Lib.hid fun w q => HFc.out w q k
      unfold selB at hnx
      obtain ⟨nm, hnm⟩ : ∃ nm, nmL l k = nm := ⟨_, rfl⟩
      obtain ⟨mk, hmk⟩ : ∃ mk, upT (esL l) top k = mk := ⟨_, rfl⟩
      obtain ⟨fc, hfc⟩ : ∃ fc, (enAt (esL l) (k : Int)).face = fc := ⟨_, rfl⟩
      rw [hnm] at HN1 HCk hnx
      rw [hmk] at cm hnx
      rw [hfc] at HFk hnx
      have HNX := Lib.hid hnx
      clear hnx hnm hmk hfc
      go_wp2_with fail
      refine HN1.out.mono ?_
      rintro e w1 ⟨rfl, t1⟩
      have HT1 := Lib.hid t1
      obtain ⟨e0, e1⟩ := HBx.out w1 (HK.out.2.2.trans' t1)
      have HC1 := Lib.hid (HCk.out w1 (HK.out.2.2.trans' t1))
      clear t1 c0 c1 HN1 cm
      go_wp2_with fail
      refine HC1.out.mono ?_
      rintro e w2 ⟨rfl, t2⟩
      have HT2 := Lib.hid (HT1.out.trans' t2)
      obtain ⟨f0, f1⟩ := HBx.out w2 (HK.out.2.2.trans' (HT1.out.trans' t2))
      have HF2 := Lib.hid (HFk.out w2 (HK.out.2.2.trans' (HT1.out.trans' t2)))
      clear t2 e0 e1 HC1
      cases mk with
      | false =>
        have HN2 : Hid (lstC l top (k + 1) = lstC l top k) := Lib.hid HNX.out
        go_wp2_with fail
        go_roundw
        case rel => exact ⟨k + 1, by omega, by go_num, Lib.hid ⟨by rw [HN2.out]; exact HK.out.1.turn' HT2.out, HK.out.2.1, HK.out.2.2.trans' HT2.out⟩⟩
        case measure => simp [intOf]; omega
      | true =>
        go_wp2_with fail
        refine HF2.out.mono ?_
        rintro e w3 ⟨rfl, t3⟩
        have HT3 := Lib.hid (HT2.out.trans' t3)
        clear t3 f0 f1 HF2
        cases fc with
        | true =>
          have HN2 : Hid (lstC l top (k + 1) = lstC l top k) := Lib.hid HNX.out
          go_wp2_with fail
          go_roundw
          case rel => exact ⟨k + 1, by omega, by go_num, Lib.hid ⟨by rw [HN2.out]; exact HK.out.1.turn' HT3.out, HK.out.2.1, HK.out.2.2.trans' HT3.out⟩⟩
          case measure => simp [intOf]; omega
        | false =>
          have HN2 : Hid (lstC l top (k + 1) = lstC l top k ++ [nm]) := Lib.hid HNX.out
          have HTA : Hid (Turn [] wr (w3.alloc (.cells #[.string nm] 9))) := Lib.hid (HT3.out.alloc _)
          go_wp2_with (at_builtin
                       refine wpList_appR rfl (.tmp 40) (.tmp 42) 47 rfl (w3.alloc (.cells #[.string nm] 9)) 9 (.string ⟨#[]⟩) 1 16 Tryz.underlying47 rfl rfl (by omega) u5 (lstC l top k).length ((lstC l top k).map Value.string) rfl (HK.out.1.turn' HTA.out) (some ⟨w3.heap.size, 0, none⟩) 1 1 [.string nm] rfl (rws_str _ _ _) (by simp [Value.oneCell']) (by unfold maxLen; omega) (by omega) ?_
                       intro v6 w6 ho6 t6 hb6
                       have HO6 := Lib.hid (And.intro ho6 (And.intro t6 hb6))
                       clear ho6 t6 hb6)
          have HT6 : Hid (Turn u5.ownBlock.toList wr w6) := Lib.hid ((HTA.out.more (by simp)).trans HO6.out.2.1 (fun g hg => .inl hg))
          go_roundw
          case rel =>
            refine ⟨k + 1, by omega, by go_num, Lib.hid ⟨?_, fun q hq => ?_, ?_⟩⟩
            · rw [HN2.out]
              unfold OwnS
              rw [List.length_append, List.map_append]
              exact HO6.out.1
            · rcases HO6.out.2.2 with h | h
              · exact HK.out.2.1 q (by rw [← h]; exact hq)
              · rw [h] at hq
                injection hq with hq
                have h5 := HK.out.2.2.size
                have h6 := HTA.out.size
                have := HS0.out
                omega
            · exact HK.out.2.2.trans HT6.out (fun q hq => .inr (by have h5 := HK.out.2.1 q (by simpa using hq); have := HS0.out; omega))
          case measure => simp [intOf]; omega
    · obtain rfl : k = n := by omega
      have d1 : decide ((k : Int) < (k : Int)) = false := by simp
      go_wp2_with fail
      go_ret
      exact ⟨_, rfl, HK.out.1, HT0.out.trans' HK.out.2.2⟩
end
end Go.Proofs.YtbocejiclellfaaGreatDoor

/- Under: what stands for a type. -/
set_option linter.unusedSimpArgs false
set_option linter.unusedVariables false
set_option linter.unusedSectionVars false
set_option maxRecDepth 100000
namespace Go.Proofs.YtbocejiclellfaaGreatDoor
open Go.RowKit

attribute [local go_sem] eq_ptrT
def undL (l : List K8) (s : ByteArray) : List ByteArray := match elI l s with
  | some i => [nmL l i ++ tBr]
  | none => match clI l s with
    | some j => lstC l j l.length
    | none => []
theorem nmL_size {l : List K8} (hz : ∀ x ∈ l, x.nm.size ≤ 281474976710656) (i : Nat) : (nmL l i).size ≤ 281474976710656 := by
  rcases Nat.lt_or_ge i l.length with h | h
  · obtain ⟨x, hx, hn⟩ := kd_at h
    rw [hn]
    exact hz x (List.mem_of_getElem? hx)
  · unfold nmL
    rw [List.getElem?_eq_none h]
    exact Nat.zero_le _
theorem owns_str (W : World) (s : ByteArray) : OwnS (W.alloc (.cells #[.string s] 9)) (.slice (some ⟨W.heap.size, 0, none⟩) 1 1) [s] :=
  ⟨rfl, .inr ⟨W.heap.size, 1, #[.string s], rfl, Nat.zero_le _, heap_alloc_new W _, Nat.le_refl _, by unfold maxLen; omega, rfl, rfl⟩⟩
section
variable {A : Option Addr} {B : Nat} {l : List K8} {r t m sz : Nat} {V VO : Value} {x : Nat}
set_option maxHeartbeats 6400000 in
theorem tUnder_any (gg : Rgt l) (pl : PlainL l) (hz : ∀ x ∈ l, x.nm.size ≤ 281474976710656) (W : World) (b : Ty A B l r t m sz V x VO W) (s : ByteArray) (hs : s.size ≤ 562949953421312) : Calls Tryz.prog 18 #[.pointer (some ⟨x, 0, none⟩), .string s] W fun e w' => ∃ U, e = .returned U ∧ OwnS w' U (undL l s) ∧ Turn [] W w' := by
  have HC := Lib.hid (tElem_any W b s hs)
  have HD : Hid (∀ w, Turn [] W w → Calls Tryz.prog 8 #[.pointer (some ⟨x, 0, none⟩), .string s] w fun e w' => e = .returned (.tuple #[.int .i64 (((clI l s).getD 0 : Nat) : Int), .bool (clI l s).isSome]) ∧ Turn [] w w') := Lib.hid fun w k => tClass_any w (b.turn k) s hs
  have HB := Lib.hid b
  have HBx : Hid (∀ w, Turn [] W w → (w.cell? ⟨x, 0, none⟩ = some (.pointer (some ⟨t, 0, none⟩)) ∧ w.cell? ⟨x, 1, none⟩ = some VO)) := Lib.hid fun w k => ⟨cell_of_row _ x 0 _ _ _ (k.heap b.blk (by simp)), cell_of_row _ x 1 _ _ _ (k.heap b.blk (by simp))⟩
  obtain ⟨oe, hoe⟩ : ∃ o, elI l s = o := ⟨_, rfl⟩
  obtain ⟨oc, hoc⟩ : ∃ o, clI l s = o := ⟨_, rfl⟩
  cases oe with
  | some i =>
    have HE : Hid (undL l s = [nmL l i ++ tBr]) := Lib.hid (by unfold undL; rw [hoe])
    have hlim0 := nmL_size hz i
    have hel := elT_nm l s hoe
    rw [hoe, hel] at HC
    obtain ⟨nm, hnm⟩ : ∃ nm, nmL l i = nm := ⟨_, rfl⟩
    rw [hnm] at HC HE hlim0
    have hlim : ¬ 9223372036854775807 < nm.size + 2 := by omega
    clear b hoe hoc hel hnm hz
    go_enter Tryz.func18, Tryz.ntmps18
    go_wp2_with fail
    refine HC.out.mono ?_
    rintro e w1 ⟨rfl, t1⟩
    have HT1 := Lib.hid t1
    clear t1
    go_wp2_with fail
    go_ret
    exact ⟨_, rfl, by rw [HE.out]; exact owns_str w1 (nm ++ tBr), HT1.out.alloc _⟩
  | none =>
    have hel := elT_none l s hoe
    rw [hoe, hel] at HC
    rw [hoc] at HD
    cases oc with
    | none =>
      have HE : Hid (undL l s = []) := Lib.hid (by unfold undL; rw [hoe]; simp only; rw [hoc])
      clear b hoe hoc hel hz
      go_enter Tryz.func18, Tryz.ntmps18
      go_wp2_with fail
      refine HC.out.mono ?_
      rintro e w1 ⟨rfl, t1⟩
      have HT1 := Lib.hid t1
      have HD1 := Lib.hid (HD.out w1 t1)
      clear t1
      go_wp2_with fail
      refine HD1.out.mono ?_
      rintro e w2 ⟨rfl, t2⟩
      have HT2 := Lib.hid (HT1.out.trans' t2)
      clear t2
      go_wp2_with fail
      go_ret
      exact ⟨_, rfl, by rw [HE.out]; exact World.ownsRow_nil _ 0 9 1, HT2.out⟩
    | some j =>
      have hjl : j < l.length := by
        unfold clI at hoc
        split at hoc
        · cases hoc
        · exact (fstF_lt hoc).1
      have HE : Hid (undL l s = lstC l j l.length) := Lib.hid (by unfold undL; rw [hoe]; simp only; rw [hoc])
      obtain ⟨n, hn⟩ : ∃ n, l.length = n := ⟨_, rfl⟩
      have HLN := Lib.hid hn
      have HUn : Hid (∀ w, Turn [] W w → Calls Tryz.prog 31 #[.agg #[.pointer (some ⟨t, 0, none⟩), VO], .int .i64 (j : Int)] w fun e w' => ∃ g ms, e = .returned (.slice (some ⟨g, 0, none⟩) l.length l.length) ∧ OwnB w' 0 (.slice (some ⟨g, 0, none⟩) l.length l.length) ms ∧ ms.length = l.length ∧ (∀ u, u < l.length → ms[u]? = some (upT (esL l) j u)) ∧ Turn [] w w') := Lib.hid fun w k => under_any gg w (b.turn k) j hjl
      have HCs0 : Hid (∀ w, Turn [] W w → ∀ g ms, OwnB w 0 (.slice (some ⟨g, 0, none⟩) l.length l.length) ms → ms.length = l.length → (∀ u, u < l.length → ms[u]? = some (upT (esL l) j u)) → Calls Tryz.prog 30 #[.agg #[.pointer (some ⟨t, 0, none⟩), VO], .slice (some ⟨g, 0, none⟩) l.length l.length] w fun e w' => ∃ U, e = .returned U ∧ OwnS w' U (lstC l j l.length) ∧ Turn [] w w') := Lib.hid fun w k g ms h1 h2 h3 => classes_any gg pl hz w (b.turn k) j g ms h1 h2 h3
      rw [HE.out]
      clear b hoe hoc hel hz HE hn hjl gg pl
      go_enter Tryz.func18, Tryz.ntmps18
      go_wp2_with fail
      refine HC.out.mono ?_
      rintro e w1 ⟨rfl, t1⟩
      have HT1 := Lib.hid t1
      have HD1 := Lib.hid (HD.out w1 t1)
      clear t1
      go_wp2_with fail
      refine HD1.out.mono ?_
      rintro e w2 ⟨rfl, t2⟩
      have HT2 := Lib.hid (HT1.out.trans' t2)
      have HSS : Hid (∀ w', Turn [] w2 w' → (w'.cell? ⟨x, 0, none⟩ = some (.pointer (some ⟨t, 0, none⟩)) ∧ w'.cell? ⟨x, 1, none⟩ = some VO)) := Lib.hid fun w' q => HBx.out w' (HT2.out.trans' q)
      clear t2 HD1 HC
      simp only [Option.getD_some, Option.isSome_some]
      go_upto_region 7 with fail
      refine wp_region_held_drew (S := fun w' => w'.cell? ⟨x, 0, none⟩ = some (.pointer (some ⟨t, 0, none⟩)) ∧ w'.cell? ⟨x, 1, none⟩ = some VO) (by kernel_rfl) ?_ (fun hHeld => ?_)
      · exact HSS.out _ (Turn.refl [] w2).drew
      refine wpAnyH_take (i := 0) (oi := { dst := some 27, op := Op.move (Operand.tmp 0), type := 33, pos := _, after := #[], guard := none }) (v := ?_) rfl (by kernel_rfl) (by kernel_rfl) (by kernel_rfl) (fun _ _ _ h => h) (Or.inl ⟨by rfl, ?_⟩) (by assumption) ?_
      rotate_left
      · intro w hSw; (try dsimp only at hSw); go_simp; (try with_reducible rfl)
      try simp only [Act.put, List.setIfInBounds_toArray, List.set_cons_zero, List.set_cons_succ]
      refine wpAnyH_take (i := 1) (oi := { dst := some 28, op := Op.nilCheck (Operand.tmp 27), type := 0, pos := _, after := #[{ on := 0, ground := Ground.data }], guard := none }) (v := ?_) rfl (by kernel_rfl) (by kernel_rfl) (by kernel_rfl) (fun _ _ _ h => h) (Or.inl ⟨by rfl, ?_⟩) (by assumption) ?_
      rotate_left
      · intro w hSw; (try dsimp only at hSw); go_simp; (try with_reducible rfl)
      try simp only [Act.put, List.setIfInBounds_toArray, List.set_cons_zero, List.set_cons_succ]
      refine wpAnyH_take (i := 2) (oi := { dst := some 29, op := Op.fieldAddr 69 (Operand.tmp 28) 0, type := 0, pos := _, after := #[{ on := 1, ground := Ground.data }], guard := none }) (v := ?_) rfl (by kernel_rfl) (by kernel_rfl) (by kernel_rfl) (fun _ _ _ h => h) (Or.inl ⟨by rfl, ?_⟩) (by assumption) ?_
      rotate_left
      · intro w hSw; (try dsimp only at hSw); go_simp; (try with_reducible rfl)
      try simp only [Act.put, List.setIfInBounds_toArray, List.set_cons_zero, List.set_cons_succ]
      refine wpAnyH_take (i := 3) (oi := { dst := some 30, op := Op.load 67 (Operand.tmp 29), type := 67, pos := _, after := #[{ on := 2, ground := Ground.data }], guard := none }) (v := ?_) rfl (by kernel_rfl) (by kernel_rfl) (by kernel_rfl) (fun _ _ _ h => h) (Or.inl ⟨by rfl, ?_⟩) (by assumption) ?_
      rotate_left
      · intro w hSw; (try dsimp only at hSw); go_simp; (try with_reducible rfl)
      try simp only [Act.put, List.setIfInBounds_toArray, List.set_cons_zero, List.set_cons_succ]
      refine wpAnyH_take (i := 4) (oi := { dst := some 31, op := Op.move (Operand.tmp 0), type := 33, pos := _, after := #[], guard := none }) (v := ?_) rfl (by kernel_rfl) (by kernel_rfl) (by kernel_rfl) (fun _ _ _ h => h) (Or.inl ⟨by rfl, ?_⟩) (by assumption) ?_
      rotate_left
      · intro w hSw; (try dsimp only at hSw); go_simp; (try with_reducible rfl)
      try simp only [Act.put, List.setIfInBounds_toArray, List.set_cons_zero, List.set_cons_succ]
      refine wpAnyH_take (i := 5) (oi := { dst := some 32, op := Op.nilCheck (Operand.tmp 31), type := 0, pos := _, after := #[{ on := 4, ground := Ground.data }], guard := none }) (v := ?_) rfl (by kernel_rfl) (by kernel_rfl) (by kernel_rfl) (fun _ _ _ h => h) (Or.inl ⟨by rfl, ?_⟩) (by assumption) ?_
      rotate_left
      · intro w hSw; (try dsimp only at hSw); go_simp; (try with_reducible rfl)
      try simp only [Act.put, List.setIfInBounds_toArray, List.set_cons_zero, List.set_cons_succ]
      refine wpAnyH_take (i := 6) (oi := { dst := some 33, op := Op.fieldAddr 69 (Operand.tmp 32) 0, type := 0, pos := _, after := #[{ on := 5, ground := Ground.data }], guard := none }) (v := ?_) rfl (by kernel_rfl) (by kernel_rfl) (by kernel_rfl) (fun _ _ _ h => h) (Or.inl ⟨by rfl, ?_⟩) (by assumption) ?_
      rotate_left
      · intro w hSw; (try dsimp only at hSw); go_simp; (try with_reducible rfl)
      try simp only [Act.put, List.setIfInBounds_toArray, List.set_cons_zero, List.set_cons_succ]
      refine wpAnyH_take (i := 7) (oi := { dst := some 34, op := Op.fieldAddr 67 (Operand.tmp 33) 0, type := 0, pos := _, after := #[{ on := 6, ground := Ground.data }], guard := none }) (v := ?_) rfl (by kernel_rfl) (by kernel_rfl) (by kernel_rfl) (fun _ _ _ h => h) (Or.inl ⟨by rfl, ?_⟩) (by assumption) ?_
      rotate_left
      · intro w hSw; (try dsimp only at hSw); go_simp; (try with_reducible rfl)
      try simp only [Act.put, List.setIfInBounds_toArray, List.set_cons_zero, List.set_cons_succ]
      refine wpAnyH_take (i := 8) (oi := { dst := some 35, op := Op.load 65 (Operand.tmp 34), type := 65, pos := _, after := #[{ on := 7, ground := Ground.data }], guard := none }) (v := ?_) rfl (by kernel_rfl) (by kernel_rfl) (by kernel_rfl) (fun _ _ _ h => h) (Or.inl ⟨by rfl, ?_⟩) (by assumption) ?_
      rotate_left
      · intro w hSw; (try dsimp only at hSw); go_simp; (try with_reducible rfl)
      try simp only [Act.put, List.setIfInBounds_toArray, List.set_cons_zero, List.set_cons_succ]
      refine wpAnyH_take (i := 9) (oi := { dst := some 36, op := Op.move (Operand.tmp 7), type := 3, pos := _, after := #[], guard := none }) (v := ?_) rfl (by kernel_rfl) (by kernel_rfl) (by kernel_rfl) (fun _ _ _ h => h) (Or.inl ⟨by rfl, ?_⟩) (by assumption) ?_
      rotate_left
      · intro w hSw; (try dsimp only at hSw); go_simp; (try with_reducible rfl)
      try simp only [Act.put, List.setIfInBounds_toArray, List.set_cons_zero, List.set_cons_succ]
      refine wpAnyH_ready (rs := [10]) (by kernel_rfl) (by simp) ?_
      refine AllReadyH.cons (o := { dst := some 37, op := Op.call { callee := Callee.value (Operand.func 31), args := #[Operand.tmp 35, Operand.tmp 36], argTypes := #[65, 3] }, type := 72, pos := _, after := #[{ on := 8, ground := Ground.data }, { on := 9, ground := Ground.data }], guard := none }) rfl (fun K hK => ?_) AllReadyH.nil
      go_simp
      go_at_call 31
      (with_reducible refine (HUn.out w2.drew (HT2.out.drew)).mono ?_)
      rintro e w4 ⟨g4, ms4, rfl, h4, h5, h6, t4⟩
      have HT4 : Hid (Turn [] w2 w4) := Lib.hid ((Turn.refl [] w2).drew.trans' t4)
      have HCs := Lib.hid (HCs0.out w4 (HT2.out.trans' HT4.out) g4 ms4 h4 h5 h6)
      rw [HLN.out] at HCs ⊢
      clear h4 h5 h6 t4
      try go_wp2_with fail
      refine hK.out _ _ ?_ (fun hHeld => ?_)
      · exact HSS.out _ (HT4.out)
      clear hK K
      try simp only [Act.put, List.setIfInBounds_toArray, List.set_cons_zero, List.set_cons_succ]
      refine wpAnyH_ready (rs := [11]) (by kernel_rfl) (by simp) ?_
      refine AllReadyH.cons (o := { dst := some 38, op := Op.call { callee := Callee.value (Operand.func 30), args := #[Operand.tmp 30, Operand.tmp 37], argTypes := #[67, 72] }, type := 47, pos := _, after := #[{ on := 3, ground := Ground.data }, { on := 10, ground := Ground.data }, { on := 10, ground := Ground.chain }], guard := none }) rfl (fun K hK => ?_) AllReadyH.nil
      go_simp
      go_at_call 30
      (with_reducible refine HCs.out.mono ?_)
      rintro e w5 ⟨U5, rfl, h5, t5⟩
      have HT5 : Hid (Turn [] w2 w5) := Lib.hid (HT4.out.trans' t5)
      have HO5 := Lib.hid h5
      clear t5 h5
      try go_wp2_with fail
      refine hK.out _ _ ?_ (fun hHeld => ?_)
      · exact HSS.out _ (HT5.out)
      clear hK K
      try simp only [Act.put, List.setIfInBounds_toArray, List.set_cons_zero, List.set_cons_succ]
      refine wpAnyH_take (i := 12) (oi := { dst := some 4, op := Op.assign (Operand.tmp 38), type := 47, pos := _, after := #[{ on := 11, ground := Ground.data }, { on := 11, ground := Ground.chain }, { on := 0, ground := Ground.phase }, { on := 1, ground := Ground.phase }, { on := 2, ground := Ground.phase }, { on := 3, ground := Ground.phase }, { on := 4, ground := Ground.phase }, { on := 5, ground := Ground.phase }, { on := 6, ground := Ground.phase }, { on := 7, ground := Ground.phase }, { on := 8, ground := Ground.phase }, { on := 9, ground := Ground.phase }, { on := 10, ground := Ground.phase }, { on := 11, ground := Ground.phase }], guard := none }) (v := ?_) rfl (by kernel_rfl) (by kernel_rfl) (by kernel_rfl) (fun _ _ _ h => h) (Or.inl ⟨by rfl, ?_⟩) (by assumption) ?_
      rotate_left
      · intro w hSw; (try dsimp only at hSw); go_simp; (try with_reducible rfl)
      try simp only [Act.put, List.setIfInBounds_toArray, List.set_cons_zero, List.set_cons_succ]
      refine wpAnyH_done (by kernel_rfl) ?_ _
      go_wp2_with fail
      go_ret
      exact ⟨_, rfl, by rw [HLN.out]; exact HO5.out, HT2.out.trans' HT5.out⟩
end
end Go.Proofs.YtbocejiclellfaaGreatDoor

/- What the reference says of types is what the program says: plain. -/


set_option linter.unusedSimpArgs false
set_option linter.unusedVariables false
set_option maxRecDepth 100000
namespace Go.Proofs.YtbocejiclellfaaGreatDoor
open Go.RowKit

theorem pl_fst {l : List K8} (p : PlainL l) {t : ByteArray} {i : Nat} (h : fstF l l.length t = some i) : elI l t = none ∧ t ≠ tInt ∧ t ≠ tNull ∧ t ≠ ⟨#[]⟩ ∧ nmL l i = t ∧ i < l.length := by
  obtain ⟨hi, c, hc, rfl⟩ := fstF_lt h
  obtain ⟨h1, h2, h3, h4, h5⟩ := p c (List.mem_of_getElem? hc)
  exact ⟨by unfold elI; rw [h5]; rfl, h2, h3, h1, nmL_at hc, hi⟩
theorem cl_fst {l : List K8} (p : PlainL l) (t : ByteArray) : clI l t = fstF l l.length t := by
  unfold clI
  cases h : fstF l l.length t with
  | none => split <;> rfl
  | some i =>
    obtain ⟨h1, h2, h3, _⟩ := pl_fst p h
    rw [if_neg (by simp [h1, h2, h3])]
theorem fnd_fst {l : List K8} {t : ByteArray} : decide (0 ≤ fndI l t) = (fstF l l.length t).isSome := (fnd_index l t).1.symm
theorem ty_all {l : List K8} (p : PlainL l) (t : ByteArray) : tyB l t = (decide (t = tInt) || decide (t = tNull) || (fstF l l.length t).isSome || (elI l t).isSome) := by
  unfold tyB refB
  rw [cl_fst p t]
  cases decide (t = tInt) <;> cases decide (t = tNull) <;> cases (fstF l l.length t).isSome <;> cases (elI l t).isSome <;> rfl
theorem ref_all {l : List K8} (p : PlainL l) (t : ByteArray) : refB l t = (!decide (t = tInt) && tyB l t) := by
  by_cases h : t = tInt
  · subst h
    have hn : tInt ≠ tNull := by decide +kernel
    have h1 : fstF l l.length tInt = none := by
      cases h : fstF l l.length tInt with
      | none => rfl
      | some i => exact absurd rfl (pl_fst p h).2.1
    unfold refB
    rw [cl_fst p, h1, show elI l tInt = none by unfold elI; rw [cutB_int]; rfl]
    simp [hn]
  · unfold tyB
    simp [h]
theorem elT_iff {l : List K8} (p : PlainL l) (t : ByteArray) : decide (elT l t = ⟨#[]⟩) = !(elI l t).isSome := by
  cases h : elI l t with
  | none => rw [elT_none l t h]; simp
  | some i =>
    rw [elT_nm l t h]
    unfold elI at h
    cases hc : cutB t with
    | none => rw [hc] at h; cases h
    | some s =>
      rw [hc] at h
      obtain ⟨_, _, _, h4, h5, _⟩ := pl_fst p h
      rw [h5]
      simp [h4]
end Go.Proofs.YtbocejiclellfaaGreatDoor
