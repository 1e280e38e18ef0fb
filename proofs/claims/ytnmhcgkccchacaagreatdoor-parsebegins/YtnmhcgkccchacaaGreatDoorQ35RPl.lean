import Derived.Test.YtnmhcgkccchacaaGreatDoorQ08Eit
import Derived.Deep.DeepCutAuto

/- The reference's Place. -/
set_option linter.unusedSimpArgs false
set_option linter.unusedVariables false
namespace Go.Proofs.YtnmhcgkccchacaaGreatDoor
open Go.RowKit

theorem cells2_0 {w : World} {b : Nat} {x0 x1 y : Value} (h : w.heap[b]? = some (.cells #[x0, x1] 27 (0, 0))) : (w.setCell ⟨b, 0, none⟩ y).heap[b]? = some (.cells #[y, x1] 27 (0, 0)) := by
  simp only [World.setCell, Array.getElem?_modify, h, if_true, Option.map_some]
  rfl
theorem cells2_1 {w : World} {b : Nat} {x0 x1 y : Value} (h : w.heap[b]? = some (.cells #[x0, x1] 27 (0, 0))) : (w.setCell ⟨b, 1, none⟩ y).heap[b]? = some (.cells #[x0, y] 27 (0, 0)) := by
  simp only [World.setCell, Array.getElem?_modify, h, if_true, Option.map_some]
  rfl
theorem plc_zero (T : List UInt8) : plc T 0 = (1, 1) := rfl
theorem plc_succ {T : List UInt8} {i : Nat} {c : UInt8} (h : T[i]? = some c) : plc T (i + 1) = adv (plc T i) c := by
  unfold plc
  rw [take_snoc h, pss_snoc]

set_option maxHeartbeats 1600000 in
theorem refPlace_any (s : ByteArray) (n : Nat) (w : World) (hn : n ≤ s.size) (hs : s.size ≤ 900000) :
    Calls Tryz.prog 20 #[.string s, .int .i64 (n : Int)] w fun e w' => e = .returned (.agg #[.int .i64 ((plc s.data.toList n).1 : Int), .int .i64 ((plc s.data.toList n).2 : Int)]) ∧ Turn [] w w' := by
  have hl : s.data.toList.length = s.size := (Lib.size_eq s).symm
  go_enter Tryz.func20, Tryz.ntmps20
  go_upto_region 2 with (fail)
  obtain ⟨W, hW⟩ : ∃ W, (w.alloc (.cells #[.int .i64 0, .int .i64 0] 27)).alloc (.cells #[.int .i64 1, .int .i64 1] 27) = W := ⟨_, rfl⟩
  obtain ⟨r, hr⟩ : ∃ r, w.heap.size = r := ⟨_, rfl⟩
  rw [hW, hr]
  have hb0 : W.heap[r]? = some (.cells #[.int .i64 0, .int .i64 0] 27 (0, 0)) := by
    rw [← hW, ← hr]
    exact ((Turn.refl [] _).alloc _).heap (heap_alloc_new w _) (by simp)
  have hb1 : W.heap[r + 1]? = some (.cells #[.int .i64 ((plc s.data.toList 0).1 : Int), .int .i64 ((plc s.data.toList 0).2 : Int)] 27 (0, 0)) := by
    rw [← hW, ← hr]
    have := heap_alloc_new (w.alloc (.cells #[.int .i64 0, .int .i64 0] 27)) (.cells #[.int .i64 1, .int .i64 1] 27)
    rwa [World.size_alloc] at this
  have hT : Turn [] w W := by rw [← hW]; exact ((Turn.refl [] w).alloc _).alloc _
  have HB0 := Lib.hid hb0
  have HB1 := Lib.hid hb1
  have HT := Lib.hid hT
  have HR := Lib.hid hr
  have HL := Lib.hid hl
  clear hW hr hb0 hb1 hT hl
  go_wp2_with fail
  go_loopw [6] (fun ti wr => ∃ i : Nat, i ≤ n ∧ ti = .int .i64 (i : Int) ∧ Hid (wr.heap[r]? = some (.cells #[.int .i64 0, .int .i64 0] 27 (0, 0))) ∧ Hid (wr.heap[r + 1]? = some (.cells #[.int .i64 ((plc s.data.toList i).1 : Int), .int .i64 ((plc s.data.toList i).2 : Int)] 27 (0, 0))) ∧ Hid (Turn [] w wr)) (fun ti _ => n - (intOf ti).toNat)
  case atStart => exact ⟨0, by omega, rfl, HB0, HB1, HT⟩
  case round =>
    obtain ⟨i, hi, rfl, HC0, HC1, HTw⟩ := hrel
    have hrr := HR.out
    have k0 : wr.cell? ⟨r + 1, 0, none⟩ = some (.int .i64 ((plc s.data.toList i).1 : Int)) := cell_of_row wr (r + 1) 0 _ 27 (0, 0) HC1.out
    have k1 : wr.cell? ⟨r + 1, 1, none⟩ = some (.int .i64 ((plc s.data.toList i).2 : Int)) := cell_of_row wr (r + 1) 1 _ 27 (0, 0) HC1.out
    have f0 : wr.frozen? ⟨r + 1, 0, none⟩ = false := frozen_of_row wr (r + 1) 0 _ 27 HC1.out
    have f1 : wr.frozen? ⟨r + 1, 1, none⟩ = false := frozen_of_row wr (r + 1) 1 _ 27 HC1.out
    have hple := plc_le s.data.toList i
    rw [HL.out] at hple
    by_cases hlt : i < n
    · have d1 : decide ((i : Int) < (n : Int)) = true := by simp; omega
      have d2 : (i : Int) < (n : Int) := by omega
      have his : i < s.size := by omega
      have hst := plc_succ (data_get his)
      have d7 : (i : Int) < (s.size : Int) := by omega
      obtain ⟨q1, hq1⟩ : ∃ q, (plc s.data.toList i).1 = q := ⟨_, rfl⟩
      obtain ⟨q2, hq2⟩ : ∃ q, (plc s.data.toList i).2 = q := ⟨_, rfl⟩
      have hpe : plc s.data.toList i = (q1, q2) := by rw [← hq1, ← hq2]
      rw [hq1, hq2] at hple
      rw [hq1] at k0
      rw [hq2] at k1
      rw [hq1, hq2] at HC1
      rw [hpe] at hst
      have HST := Lib.hid hst
      clear hst hpe hq1 hq2
      by_cases h10 : s[i] = 10
      · have d3 : decide ((s[i].toNat : Int) = 10) = true := by rw [h10]; rfl
        have d4 : ((s[i].toNat : Int) == 10) = true := by rw [h10]; rfl
        have d5 : (s[i].toNat : Int) = 10 := by rw [h10]; rfl
        have H10 := Lib.hid h10
        clear h10 hrr
        go_wp2_with fail
        have hrr := HR.out
        go_roundw
        case rel =>
          refine ⟨i + 1, by omega, by go_num, Lib.hid ?_, Lib.hid ?_, Lib.hid (((HTw.out).setCell (.inr (by simp; omega)) _).setCell (.inr (by simp; omega)) _)⟩
          · exact (((Turn.refl [r + 1] wr).setCell (.inl (by simp)) _).setCell (.inl (by simp)) _).heap HC0.out (by simp)
          · rw [HST.out]
            unfold adv
            rw [if_pos H10.out]
            exact cells2_1 (cells2_0 HC1.out)
        case measure => simp [intOf]; omega
      · have h11 : ¬ (s[i].toNat : Int) = 10 := fun e => h10 (UInt8.toNat_inj.1 (by simpa using (by omega : s[i].toNat = 10)))
        have d3 : decide ((s[i].toNat : Int) = 10) = false := by simpa using h11
        have d4 : ((s[i].toNat : Int) == 10) = false := by simpa using h11
        have H10 := Lib.hid h10
        clear h10 hrr
        go_wp2_with fail
        have hrr := HR.out
        go_roundw
        case rel =>
          refine ⟨i + 1, by omega, by go_num, Lib.hid ?_, Lib.hid ?_, Lib.hid ((HTw.out).setCell (.inr (by simp; omega)) _)⟩
          · exact ((Turn.refl [r + 1] wr).setCell (.inl (by simp)) _).heap HC0.out (by simp)
          · rw [HST.out]
            unfold adv
            rw [if_neg H10.out]
            exact cells2_1 HC1.out
        case measure => simp [intOf]; omega
    · obtain rfl : i = n := by omega
      have p0 : wr.cell? ⟨r, 0, none⟩ = some (.int .i64 0) := cell_of_row wr r 0 _ 27 (0, 0) HC0.out
      have p1 : wr.cell? ⟨r, 1, none⟩ = some (.int .i64 0) := cell_of_row wr r 1 _ 27 (0, 0) HC0.out
      have g0 : wr.frozen? ⟨r, 0, none⟩ = false := frozen_of_row wr r 0 _ 27 HC0.out
      have g1 : wr.frozen? ⟨r, 1, none⟩ = false := frozen_of_row wr r 1 _ 27 HC0.out
      clear hrr
      go_wp2_with fail
      refine bodyPost_ret (v := .agg #[.int .i64 ((plc s.data.toList i).1 : Int), .int .i64 ((plc s.data.toList i).2 : Int)]) (by simp [results, Tryz.results20, go_sem, p0, p1]) rfl ⟨rfl, ?_⟩
      have hrr := HR.out
      exact (((HTw.out).setCell (.inr (by simp; omega)) _).setCell (.inr (by simp; omega)) _)
end Go.Proofs.YtnmhcgkccchacaaGreatDoor

/- Tokens stand in the text at their places, one behind the other; places tell octets apart. -/
set_option linter.unusedSimpArgs false
set_option linter.unusedVariables false
namespace Go.Proofs.YtnmhcgkccchacaaGreatDoor
open Go.RowKit

/-- The tokens ts stand in T, from octet n on, one behind the other. -/
def Offs (T : List UInt8) : Nat → List Tok → Prop
  | _, [] => True
  | n, t :: ts => ∃ m, n ≤ m ∧ 0 < t.text.length ∧ m + t.text.length ≤ T.length ∧ (T.drop m).take t.text.length = t.text ∧ plc T m = (t.line, t.col) ∧ Offs T (m + t.text.length) ts
theorem Offs.le {T : List UInt8} {n n' : Nat} {ts : List Tok} (h : Offs T n ts) (hn : n' ≤ n) : Offs T n' ts := by
  cases ts with
  | nil => trivial
  | cons t ts =>
    obtain ⟨m, h1, h2⟩ := h
    exact ⟨m, Nat.le_trans hn h1, h2⟩

theorem offs_of : ∀ (k : Nat) (T : List UInt8) (n : Nat) (ts : List Tok) (p : Nat × Nat), T.length - n ≤ k → lxa T n = .good ts p → Offs T n ts := by
  intro k
  induction k with
  | zero =>
    intro T n ts p hk h
    have : T.drop n = [] := List.drop_of_length_le (by omega)
    rw [lxa_end this] at h
    injection h with h1 h2
    subst h1
    trivial
  | succ k ih =>
    intro T n ts p hk h
    by_cases he : T.drop n = []
    · rw [lxa_end he] at h
      injection h with h1 h2
      subst h1
      trivial
    by_cases hg : 0 < gpN (T.drop n)
    · have hgl := gpN_le (T.drop n)
      rw [lxa_gap hg] at h
      exact (ih T (n + gpN (T.drop n)) ts p (by omega) h).le (by omega)
    by_cases hb : (fst3 (T.drop n)).1 = 0
    · have hsz := fst3_size _ hb
      rw [List.length_drop] at hsz
      rw [lxa_tok he (by omega) hb] at h
      cases hr : lxa T (n + (fst3 (T.drop n)).2.1) with
      | bad x l c => rw [hr] at h; cases h
      | good us q =>
        rw [hr] at h
        injection h with h1 h2
        subst h1
        have ih' := ih T (n + (fst3 (T.drop n)).2.1) us q (by omega) hr
        have hl : ((T.drop n).take (fst3 (T.drop n)).2.1).length = (fst3 (T.drop n)).2.1 := by
          rw [List.length_take, List.length_drop]
          omega
        refine ⟨n, Nat.le_refl _, ?_, ?_, ?_, rfl, ?_⟩
        · rw [hl]
          exact hsz.1
        · rw [hl]
          omega
        · rw [hl]
        · rw [hl]
          exact ih'
    · rw [lxa_bad he (by omega) hb] at h
      cases h
theorem offs_tok {T : List UInt8} {ts : List Tok} {p : Nat × Nat} (h : tokR T = .good ts p) : Offs T 0 ts := by
  unfold tokR at h
  split at h
  · cases h
  · exact offs_of T.length T 0 ts p (by omega) h

def ltP (p q : Nat × Nat) : Prop := p.1 < q.1 ∨ (p.1 = q.1 ∧ p.2 < q.2)
theorem adv_lt (p : Nat × Nat) (c : UInt8) : ltP p (adv p c) := by
  unfold adv ltP
  split
  · exact .inl (by simp)
  · exact .inr (by simp)
theorem ltP.trans {p q r : Nat × Nat} (h : ltP p q) (k : ltP q r) : ltP p r := by
  unfold ltP at *
  omega
theorem plc_lt {T : List UInt8} : ∀ (k a : Nat), a + k < T.length → ltP (plc T a) (plc T (a + k + 1)) := by
  intro k
  induction k with
  | zero =>
    intro a h
    rw [plc_succ (List.getElem?_eq_getElem h)]
    exact adv_lt _ _
  | succ k ih =>
    intro a h
    have h1 := ih a (by omega)
    have hk : a + k + 1 < T.length := by omega
    rw [show a + (k + 1) + 1 = (a + k + 1) + 1 by omega, plc_succ (List.getElem?_eq_getElem hk)]
    exact h1.trans (adv_lt _ _)
theorem plc_ne {T : List UInt8} {a m : Nat} (h : a < m) (hm : m ≤ T.length) : (plc T a).1 ≠ (plc T m).1 ∨ ((plc T a).1 = (plc T m).1 ∧ (plc T a).2 ≠ (plc T m).2) := by
  have := plc_lt (T := T) (m - a - 1) a (by omega)
  rw [show a + (m - a - 1) + 1 = m by omega] at this
  unfold ltP at this
  omega
end Go.Proofs.YtnmhcgkccchacaaGreatDoor
