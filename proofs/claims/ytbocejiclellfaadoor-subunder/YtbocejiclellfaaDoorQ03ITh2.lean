import Derived.Test.YtbocejiclellfaaDoorQ02IMeet
import Derived.Test.YtbocejiclellfaaDoorQ01IFind
import Derived.Laws.MakeOwn
import Derived.Deep.Upon
import Derived.Deep.RegionHeld3

/- Stage 1's text Th2: what stage 8 wants of it (printed by conv1.py). -/
set_option linter.unusedSimpArgs false
set_option linter.unusedVariables false
set_option maxRecDepth 100000
namespace Go.Proofs.YtbocejiclellfaaDoor
open Go.RowKit

theorem asc_set {A C : List Row} {r s : Row} (h : Asc (A ++ r :: C)) (he : s.at_ = r.at_) : Asc (A ++ s :: C) := by
  obtain ⟨h1, h2, h3⟩ := List.pairwise_append.1 h
  obtain ⟨h4, h5⟩ := List.pairwise_cons.1 h2
  refine List.pairwise_append.2 ⟨h1, List.pairwise_cons.2 ⟨fun x hx => by rw [he]; exact h4 x hx, h5⟩, fun a ha c hc => ?_⟩
  rcases List.mem_cons.1 hc with e | e
  · subst e; rw [he]; exact h3 a ha r (by simp)
  · exact h3 a ha c (by simp [e])
theorem asc_ins {A C : List Row} {s : Row} (h : Asc (A ++ C)) (hA : ∀ r ∈ A, r.at_ < s.at_) (hC : ∀ r ∈ C, s.at_ < r.at_) : Asc (A ++ s :: C) := by
  obtain ⟨h1, h2, h3⟩ := List.pairwise_append.1 h
  refine List.pairwise_append.2 ⟨h1, List.pairwise_cons.2 ⟨hC, h2⟩, fun a ha c hc => ?_⟩
  rcases List.mem_cons.1 hc with e | e
  · subst e; exact hA a ha
  · exact h3 a ha c e
theorem rowOf_set {A C : List Row} {r s : Row} (h : Asc (A ++ r :: C)) (he : s.at_ = r.at_) (t : Nat) : rowOf (A ++ s :: C) t = if t = r.at_ then s else rowOf (A ++ r :: C) t := by
  have h' := asc_set h he
  split
  · rename_i e
    subst e
    rw [← he]
    exact rowOf_mem h' (by simp)
  · rename_i e
    refine rowOf_congr h' h (fun q hq => ?_)
    have n1 : q ≠ s := fun e2 => e (by rw [← hq, e2, he])
    have n2 : q ≠ r := fun e2 => e (by rw [← hq, e2])
    simp [n1, n2]
theorem rowOf_ins {A C : List Row} {s : Row} (h : Asc (A ++ C)) (hA : ∀ r ∈ A, r.at_ < s.at_) (hC : ∀ r ∈ C, s.at_ < r.at_) (t : Nat) : rowOf (A ++ s :: C) t = if t = s.at_ then s else rowOf (A ++ C) t := by
  have h' := asc_ins h hA hC
  split
  · rename_i e
    subst e
    exact rowOf_mem h' (by simp)
  · rename_i e
    refine rowOf_congr h' h (fun q hq => ?_)
    have n1 : q ≠ s := fun e2 => e (by rw [← hq, e2])
    simp [n1]
theorem word_setWord (r : Row) (i j x : Nat) (hi : i < 4) (hj : j < 4) : (r.setWord i x).word j = if j = i then x else r.word j := by
  match i, hi with
  | 0, _ => match j, hj with
    | 0, _ => rfl
    | 1, _ => rfl
    | 2, _ => rfl
    | 3, _ => rfl
  | 1, _ => match j, hj with
    | 0, _ => rfl
    | 1, _ => rfl
    | 2, _ => rfl
    | 3, _ => rfl
  | 2, _ => match j, hj with
    | 0, _ => rfl
    | 1, _ => rfl
    | 2, _ => rfl
    | 3, _ => rfl
  | 3, _ => match j, hj with
    | 0, _ => rfl
    | 1, _ => rfl
    | 2, _ => rfl
    | 3, _ => rfl
theorem at_setWord (r : Row) (i x : Nat) : (r.setWord i x).at_ = r.at_ := by
  unfold Row.setWord
  split <;> rfl
theorem fits_setWord {r : Row} (h : r.Fits) (i x : Nat) (hx : x < 18446744073709551616) : (r.setWord i x).Fits := by
  obtain ⟨a, b0, b1, b2, b3⟩ := h
  unfold Row.setWord
  split <;> constructor <;> assumption
theorem count_pos {r : Row} {j : Nat} (hj : j < 256) (hb : r.bit j = true) : 0 < r.count := by
  rw [← Row.nums_length]
  have : (r.at_ * 256 + (j : Int)) ∈ r.nums := (mem_rowNums r _).2 ⟨j, hj, hb, rfl⟩
  exact List.length_pos_of_mem this
/-- The row with the bit of a number set. -/
def Row.put (r : Row) (n : Nat) : Row := r.setWord (n % 256 / 64) (r.word (n % 256 / 64) ||| 2 ^ (n % 64))
theorem bit_put (r : Row) (n j : Nat) (hj : j < 256) : (r.put n).bit j = (r.bit j || decide (j = n % 256)) := by
  unfold Row.put Row.bit
  rw [word_setWord r _ _ _ (by omega) (by omega)]
  split
  · rename_i e
    rw [e, Nat.testBit_or, Nat.testBit_two_pow]
    congr 1
    rw [decide_eq_decide]
    omega
  · rename_i e
    have : ¬ j = n % 256 := fun e2 => e (by rw [e2])
    simp [this]
theorem fits_put {r : Row} (h : r.Fits) (n : Nat) : (r.put n).Fits := fits_setWord h _ _ (Nat.or_lt_two_pow (n := 64) (word_lt h _) (pow_lt64 n))
theorem count_put (r : Row) (n : Nat) : 0 < (r.put n).count := count_pos (j := n % 256) (by omega) (by rw [bit_put r n _ (by omega)]; simp)
theorem at_put (r : Row) (n : Nat) : (r.put n).at_ = r.at_ := at_setWord _ _ _
/-- Rows that are a set's, with one number more. -/
structure Put (rs ss : List Row) (n : Nat) : Prop where
  ok : Ok ss
  has : ∀ m, hasN ss m = (hasN rs m || decide (m = n))
theorem put_set {A C : List Row} {r : Row} {n : Nat} (h : Ok (A ++ r :: C)) (he : r.at_ = n / 256) : Put (A ++ r :: C) (A ++ r.put n :: C) n := by
  constructor
  · refine ⟨asc_set h.asc (at_put r n), fun s hs => ?_, fun s hs => ?_⟩
    · rcases List.mem_append.1 hs with hs | hs
      · exact h.fits s (by simp [hs])
      · rcases List.mem_cons.1 hs with e | e
        · subst e; exact fits_put (h.fits r (by simp)) n
        · exact h.fits s (by simp [e])
    · rcases List.mem_append.1 hs with hs | hs
      · exact h.some_ s (by simp [hs])
      · rcases List.mem_cons.1 hs with e | e
        · subst e; exact count_put r n
        · exact h.some_ s (by simp [e])
  · intro m
    unfold hasN
    rw [rowOf_set h.asc (at_put r n)]
    split
    · rename_i e
      rw [e, rowOf_mem h.asc (r := r) (by simp), bit_put r n _ (by omega)]
      congr 1
      rw [decide_eq_decide]
      omega
    · rename_i e
      have : ¬ m = n := fun e2 => e (by rw [e2, he])
      simp [this]
theorem put_ins {A C : List Row} {n : Nat} (h : Ok (A ++ C)) (hn : n < 1048576) (hA : ∀ r ∈ A, r.at_ < n / 256) (hC : ∀ r ∈ C, n / 256 < r.at_) : Put (A ++ C) (A ++ (newRow (n / 256)).put n :: C) n := by
  have hat : ((newRow (n / 256)).put n).at_ = n / 256 := at_put _ _
  have hf : (newRow (n / 256)).Fits := ⟨by show n / 256 < 4096; omega, by show 0 < _; omega, by show 0 < _; omega, by show 0 < _; omega, by show 0 < _; omega⟩
  have hA' : ∀ r ∈ A, r.at_ < ((newRow (n / 256)).put n).at_ := fun r hr => by rw [hat]; exact hA r hr
  have hC' : ∀ r ∈ C, ((newRow (n / 256)).put n).at_ < r.at_ := fun r hr => by rw [hat]; exact hC r hr
  constructor
  · refine ⟨asc_ins h.asc hA' hC', fun s hs => ?_, fun s hs => ?_⟩
    · rcases List.mem_append.1 hs with hs | hs
      · exact h.fits s (by simp [hs])
      · rcases List.mem_cons.1 hs with e | e
        · subst e; exact fits_put hf n
        · exact h.fits s (by simp [e])
    · rcases List.mem_append.1 hs with hs | hs
      · exact h.some_ s (by simp [hs])
      · rcases List.mem_cons.1 hs with e | e
        · subst e; exact count_put _ n
        · exact h.some_ s (by simp [e])
  · intro m
    unfold hasN
    rw [rowOf_ins h.asc hA' hC', hat]
    split
    · rename_i e
      have hno : rowOf (A ++ C) (m / 256) = newRow (m / 256) := rowOf_no (fun r hr e2 => by
        rcases List.mem_append.1 hr with hr | hr
        · have := hA r hr; omega
        · have := hC r hr; omega)
      rw [hno, Row.bit_new, bit_put _ n _ (by omega), Row.bit_new]
      simp only [Bool.false_or, decide_eq_decide]
      omega
    · rename_i e
      have : ¬ m = n := fun e2 => e (by rw [e2])
      simp [this]
theorem nums_ext {rs : List Row} {l : List Int} (h : Ok rs) (hl : Sd l) (he : ∀ y, y ∈ l ↔ ∃ m : Nat, m < 1048576 ∧ hasN rs m = true ∧ y = (m : Int)) : nums rs = l :=
  sd_ext (sd_nums h.asc) hl (fun y => (mem_nums h y).trans (he y).symm)
theorem Put.nums {rs ss : List Row} {n : Nat} (h : Ok rs) (p : Put rs ss n) (hn : n < 1048576) : nums ss = putL (nums rs) n := by
  refine nums_ext p.ok (sd_putL (sd_nums h.asc) n) (fun y => ?_)
  rw [mem_putL, mem_nums h]
  constructor
  · rintro (⟨m, hm, hb, rfl⟩ | ⟨rfl, _⟩)
    · exact ⟨m, hm, by rw [p.has, hb]; rfl, rfl⟩
    · exact ⟨n, hn, by rw [p.has]; simp, rfl⟩
  · rintro ⟨m, hm, hb, rfl⟩
    rw [p.has] at hb
    simp only [Bool.or_eq_true, decide_eq_true_eq] at hb
    rcases hb with hb | rfl
    · exact .inl ⟨m, hm, hb, rfl⟩
    · exact .inr ⟨rfl, by simp [okB]; omega⟩
theorem hasB_nums {rs : List Row} (h : Ok rs) {n : Nat} (hn : n < 1048576) : hasB (nums rs) n = hasN rs n := by
  rw [Bool.eq_iff_iff, hasB_iff, mem_nums h]
  constructor
  · rintro ⟨m, _, hb, e⟩
    have : n = m := by omega
    subst this
    exact hb
  · intro hb
    exact ⟨n, hn, hb, rfl⟩
end Go.Proofs.YtbocejiclellfaaDoor

/- Stage 1's text Of: what stage 8 wants of it (printed by conv1.py). -/
set_option linter.unusedSimpArgs false
set_option linter.unusedVariables false
set_option maxRecDepth 100000
namespace Go.Proofs.YtbocejiclellfaaDoor
open Go.RowKit

/-- A new slice lies where the old one lay, or in new memory. -/
def Moved (w : World) (v v' : Value) : Prop := v'.ownBlock = v.ownBlock ∨ ∃ g, v'.ownBlock = some g ∧ w.heap.size ≤ g
theorem Moved.refl (w : World) (v : Value) : Moved w v v := .inl rfl
def AddsPost (b : Nat) (v : Value) (rs : List Row) (n : Int) (w : World) (e : Ending) (w' : World) : Prop :=
  e = .returned (.bool (okB n && !hasB (nums rs) n)) ∧ ∃ v' rs', SetAt w' b v' rs' ∧ nums rs' = putL (nums rs) n ∧ Turn (b :: v.ownBlock.toList) w w' ∧ Moved w v v'
theorem total_put {rs ss : List Row} {n : Nat} (h : Ok rs) (p : Put rs ss n) (hn : n < 1048576) (hh : hasN rs n = false) : total ss = total rs + 1 := by
  have h1 := congrArg List.length (p.nums h hn)
  rw [length_putL, hasB_nums h hn, hh, nums_length, nums_length] at h1
  have : okB n = true := by simp [okB]; omega
  simpa [this] using h1
theorem split_row {rs : List Row} {k : Nat} {r : Row} (h : rs[k]? = some r) : rs = rs.take k ++ r :: rs.drop (k + 1) := by
  obtain ⟨hk, rfl⟩ := List.getElem?_eq_some_iff.1 h
  rw [List.getElem_cons_drop, List.take_append_drop]
theorem set_row {rs : List Row} {k : Nat} {r s : Row} (h : rs[k]? = some r) : rs.set k s = rs.take k ++ s :: rs.drop (k + 1) := by
  obtain ⟨hk, _⟩ := List.getElem?_eq_some_iff.1 h
  exact List.set_eq_take_append_cons_drop.trans (by rw [if_pos hk])
theorem insR_set (rs : List Row) (k : Nat) (r s : Row) (h : k ≤ rs.length) : (insR rs k r).set k s = insR rs k s := by
  unfold insR
  rw [List.set_append_right _ _ (by rw [List.length_take]; omega), List.length_take, Nat.min_eq_left h, Nat.sub_self]
  rfl
theorem cut_sides {rs : List Row} {t k : Nat} (hc : Cut rs t k) (ha : Asc rs) (hm : hasRow rs t = false) : (∀ r ∈ rs.take k, r.at_ < t) ∧ (∀ r ∈ rs.drop k, t < r.at_) := by
  have hno : ∀ r ∈ rs, r.at_ ≠ t := no_row hc ha ((hit_eq hc ha).trans hm)
  constructor
  · intro r hr
    obtain ⟨i, hi⟩ := List.getElem?_of_mem hr
    rw [List.getElem?_take] at hi
    split at hi
    · exact hc.lo i r (by assumption) hi
    · cases hi
  · intro r hr
    obtain ⟨i, hi⟩ := List.getElem?_of_mem hr
    rw [List.getElem?_drop] at hi
    have h1 := hc.hi (k + i) r (by omega) hi
    have h2 := hno r (List.mem_of_getElem? hi)
    omega
theorem bit_known (n : Nat) (hn : n < 1048576) : BitAt n (n % 256 / 64) (2 ^ (n % 64)) := fun W => bitOf_walk n W hn
theorem add_any (b : Nat) (v : Value) (rs : List Row) (n : Int) (w : World) (h : SetAt w b v rs) : Calls Tryd.prog 75 #[.pointer (some ⟨b, 0, none⟩), .int .i64 n] w (AddsPost b v rs n w) := by
  cases hok : okB n
  · refine (add_out b n w hok).mono ?_
    rintro e w' ⟨rfl, rfl⟩
    exact ⟨by rw [hok]; rfl, v, rs, h, by rw [putL_no (by simp [hok])], Turn.refl _ _, Moved.refl _ _⟩
  · obtain ⟨h0, h1⟩ := okB_lo hok
    obtain ⟨m, rfl⟩ := Int.eq_ofNat_of_zero_le h0
    have hm : m < 1048576 := by omega
    have hb := hasB_nums h.ok hm
    cases hh : hasN rs m
    · have hret : (okB (m : Int) && !hasB (nums rs) m) = true := by rw [hok, hb, hh]; rfl
      obtain ⟨A, c, hv, _, _⟩ := h.rows.form
      cases hr : hasRow rs (m / 256)
      · subst hv
        refine (add_new b A rs.length c rs m _ _ w h hm hh rfl hr (by omega) (pow_lt64 m) (bit_known m hm)).mono ?_
        rintro e w' ⟨rfl, k, v', hk, hblk, hown, ht, hmv⟩
        obtain ⟨hA, hC⟩ := cut_sides hk h.ok.asc hr
        have hp : Put rs (insR rs k ((newRow (m / 256)).put m)) m := by
          have hok' := h.ok
          rw [← List.take_append_drop k rs] at hok'
          have := put_ins hok' hm hA hC
          rwa [List.take_append_drop] at this
        have hrows : (insR rs k (newRow (m / 256))).set k ((newRow (m / 256)).setWord (m % 256 / 64) (2 ^ (m % 64))) = insR rs k ((newRow (m / 256)).put m) := by
          rw [insR_set _ _ _ _ hk.le]
          unfold Row.put
          rw [newRow_word, Nat.zero_or]
        rw [hrows] at hown
        have htot := total_put h.ok hp hm hh
        refine ⟨by rw [hret], v', _, ⟨?_, hown, hp.ok⟩, hp.nums h.ok hm, ht, hmv⟩
        rw [htot]
        exact hblk
      · have hg : ∃ g, v = .slice (some ⟨g, 0, none⟩) rs.length c := by
          rcases h.rows.2 with ⟨_, h0⟩ | ⟨g, cap, cur, e, _⟩
          · rw [List.eq_nil_of_length_eq_zero h0] at hr
            simp [hasRow] at hr
          · rw [e] at hv
            injection hv with e1 e2 e3
            exact ⟨g, by rw [e, e3]⟩
        obtain ⟨g, rfl⟩ := hg
        refine (add_found b g rs.length c rs m _ _ w h hm hh rfl hr (by omega) (pow_lt64 m) (bit_known m hm)).mono ?_
        rintro e w' ⟨rfl, k, r, v', hk, hrk, hra, hblk, hown, ht, rfl⟩
        have hp : Put rs (rs.set k (r.put m)) m := by
          have hok' := h.ok
          rw [split_row hrk] at hok'
          have := put_set hok' hra
          rw [← split_row hrk] at this
          rwa [set_row hrk]
        have htot := total_put h.ok hp hm hh
        refine ⟨by rw [hret], _, rs.set k (r.put m), ⟨?_, hown, hp.ok⟩, hp.nums h.ok hm, ht, Moved.refl _ _⟩
        rw [htot]
        exact hblk
    · refine (add_has b v rs m w h hm hh).mono ?_
      rintro e w' ⟨rfl, ht⟩
      exact ⟨by rw [hok, hb, hh]; rfl, v, rs, h.turn' ht, by rw [putL_no (by rw [hb, hh]; simp)], ht.more (by simp), Moved.refl _ _⟩
end Go.Proofs.YtbocejiclellfaaDoor

/- Slices in memory: what they read as, append onto one of the program's own. -/
set_option linter.unusedSimpArgs false
set_option linter.unusedVariables false
set_option maxRecDepth 100000
namespace Go.Proofs.YtbocejiclellfaaDoor
open Go.RowKit

theorem spot_none {W : World} {a : Addr} {v : Value} (h : W.cell? (a.add 0) = some v) : a.spot = none := by
  obtain ⟨b, off, spot⟩ := a
  cases spot with
  | none => rfl
  | some s => simp [Addr.add, World.cell?] at h; split at h <;> simp at h
theorem cell_lt {w : World} {g o : Nat} {v : Value} (h : w.cell? ⟨g, o, none⟩ = some v) : g < w.heap.size := by
  by_cases hh : g < w.heap.size
  · exact hh
  · simp only [World.cell?] at h
    rw [Array.getElem?_eq_none (by omega)] at h
    cases h

/-- F' has blocks of F, and such from n on. -/
def Foot (n : Nat) (F F' : List Nat) : Prop := ∀ g ∈ F', g ∈ F ∨ n ≤ g
theorem Foot.refl (n : Nat) (F : List Nat) : Foot n F F := fun g h => .inl h
theorem Foot.trans {n m : Nat} {F F' F'' : List Nat} (h : Foot n F F') (k : Foot m F' F'') (hm : n ≤ m) : Foot n F F'' := fun g hg => by
  rcases k g hg with h1 | h1
  · exact h g h1
  · exact .inr (by omega)

/-- The slice at A, m things of sz cells each, reads as the cells xs. -/
def Rws (w : World) (sz : Nat) (A : Option Addr) (m : Nat) (xs : List Value) : Prop :=
  xs.length = m * sz ∧ (m = 0 ∨ ∃ b off, A = some ⟨b, off, none⟩ ∧ b < w.heap.size ∧ ∀ j u, xs[j]? = some u → w.cell? ⟨b, off + j, none⟩ = some u)
theorem Rws.none (w : World) (sz : Nat) (A : Option Addr) : Rws w sz A 0 [] := ⟨by simp, .inl rfl⟩
theorem Rws.turn {w w' : World} {sz m : Nat} {A : Option Addr} {xs : List Value} {F : List Nat} (h : Rws w sz A m xs) (t : Turn F w w') (hF : ∀ b off, A = some ⟨b, off, Option.none⟩ → b ∉ F) : Rws w' sz A m xs := by
  refine ⟨h.1, ?_⟩
  rcases h.2 with h0 | ⟨b, off, rfl, hb, hc⟩
  · exact .inl h0
  · exact .inr ⟨b, off, rfl, Nat.lt_of_lt_of_le hb t.size, fun j u hu => (t.cell (p := ⟨b, off + j, Option.none⟩) hb (hF b off rfl)).trans (hc j u hu)⟩
theorem Rws.turn' {w w' : World} {sz m : Nat} {A : Option Addr} {xs : List Value} (h : Rws w sz A m xs) (t : Turn [] w w') : Rws w' sz A m xs := h.turn t (by simp)
theorem Rws.of_owns {w : World} {B e sz n : Nat} {A : Option Addr} {l c : Nat} {xs : List Value} (h : w.ownsRow B e sz (.slice A l c) n xs) : l = n ∧ n ≤ c ∧ Rws w sz A n xs := by
  rcases h.2 with ⟨hv, rfl⟩ | ⟨g, cap, cur, hv, hb, hg, hnc, hcm, hcs, ht⟩
  · injection hv with h1 h2 h3
    subst h1 h2 h3
    exact ⟨rfl, Nat.le_refl _, h.1, .inl rfl⟩
  · injection hv with h1 h2 h3
    subst h1 h2 h3
    refine ⟨rfl, hnc, h.1, .inr ⟨g, 0, rfl, (Array.getElem?_eq_some_iff.1 hg).1, fun j u hu => ?_⟩⟩
    have hj : j < l * sz := by
      have := (List.getElem?_eq_some_iff.1 hu).1
      rw [h.1] at this
      exact this
    rw [Nat.zero_add, World.ownsRow.cellAt h j hj]
    exact hu
theorem owns_form {w : World} {B e sz n : Nat} {v : Value} {xs : List Value} (h : w.ownsRow B e sz v n xs) : ∃ A c, v = .slice A n c ∧ n ≤ c ∧ c ≤ maxLen := by
  rcases h.2 with ⟨rfl, rfl⟩ | ⟨g, cap, cur, rfl, hb, hg, hnc, hcm, _⟩
  · exact ⟨_, _, rfl, Nat.le_refl _, Nat.zero_le _⟩
  · exact ⟨_, _, rfl, hnc, hcm⟩
theorem owns_lt {w : World} {B e sz n : Nat} {v : Value} {xs : List Value} (h : w.ownsRow B e sz v n xs) {g : Nat} (hg : v.ownBlock = some g) : g < w.heap.size ∧ ∃ cs, w.heap[g]? = some (.cells cs e (0, 0)) := by
  rcases h.2 with ⟨rfl, _⟩ | ⟨g', cap, cur, rfl, _, hb, _⟩
  · cases hg
  · injection hg with hg
    subst hg
    exact ⟨(Array.getElem?_eq_some_iff.1 hb).1, _, hb⟩

section
variable {P : Program}
/-- append of whatever lies in a slice onto one of the program's own. -/
theorem run_appR (w : World) (t ty e : TypeId) (i : TypeInfo) (z : Value) (size bytes : Nat) (ht : P.underlying t = some (.slice e)) (hi : P.info? e = some i) (hz : i.zero = some z)
    (hsize : i.size = size) (hby : i.bytes = bytes) (hzs : z.cells.size = size) (hsz : 0 < size)
    (v : Value) (n : Nat) (xs : List Value) (hown : w.ownsRow 0 e size v n xs)
    (A : Option Addr) (m c : Nat) (news : List Value) (hr : Rws w size A m news) (h1 : ∀ u ∈ news, u.oneCell' = true)
    (h63 : n + m ≤ maxLen) (hbytes : (n + m) * bytes ≤ 140737488355328) :
    ∃ v' w', (Builtin.append_ #[t, t] ty #[v, .slice A m c]).run P w = .ok v' w' ∧ w'.ownsRow 0 e size v' (n + m) (xs ++ news) ∧ Turn v.ownBlock.toList w w' ∧
      (v'.ownBlock = v.ownBlock ∨ v'.ownBlock = some w.heap.size) := by
  have hT : ∀ w' : World, w.grownBy w' v.ownBlock → Turn v.ownBlock.toList w w' := fun w' hg => (Turn.refl _ w).grown hg (fun k hk => .inl (by simp [hk]))
  by_cases hm : m = 0
  · subst hm
    have hn : news = [] := List.eq_nil_of_length_eq_zero (by rw [hr.1]; simp)
    subst hn
    obtain ⟨A', c', rfl, hle, _⟩ := owns_form hown
    refine ⟨_, w, ?_, by simpa using hown, Turn.refl _ _, .inl rfl⟩
    cases A' <;> cases A <;> simp [Builtin.append_, run_underlying ht, sizeOf, typeInfo, hi, Builtin.lenOf, Builtin.firstCells, hle, loadCells, loadCellsFrom, storeCells]
  · rcases hr.2 with h0 | ⟨b, off, rfl, hb, hc⟩
    · exact absurd h0 hm
    · obtain ⟨v', w', e1, e2, e3, _, e5⟩ := run_append_own_at (P := P) w 0 t ty e i z size bytes ht hi hz hsize hby hzs hsz v n xs hown ⟨b, off, none⟩ m c news hr.1 (fun j u hj => by rw [Addr.add_lit]; exact hc j u hj) h1 h63 hbytes (Nat.zero_le _)
      exact ⟨v', w', e1, e2, hT w' e3, e5⟩
/-- The same at the operation. -/
theorem wpList_appR {ops : Array Oper} {rest : List Oper} {o : Oper} {a : Act} {Q : Exit → Act → World → Prop} (hgd : o.guard = none) (s x : Operand) (t : TypeId)
    (ho : o.op = .call { callee := .builtin .append, args := #[s, x], argTypes := #[t, t] })
    (w : World) (e : TypeId) (z : Value) (size bytes : Nat) (ht : P.underlying t = some (.slice e)) (hi : (P.info? e).map (fun i => (i.zero, i.size, i.bytes)) = some (some z, size, bytes))
    (hzs : z.cells.size = size) (hsz : 0 < size)
    (v : Value) (n : Nat) (xs : List Value) (hs : a.eval s = v) (hown : w.ownsRow 0 e size v n xs)
    (A : Option Addr) (m c : Nat) (news : List Value) (hx : a.eval x = .slice A m c) (hr : Rws w size A m news) (h1 : ∀ u ∈ news, u.oneCell' = true)
    (h63 : n + m ≤ maxLen) (hbytes : (n + m) * bytes ≤ 140737488355328)
    (h : ∀ v' w', w'.ownsRow 0 e size v' (n + m) (xs ++ news) → Turn v.ownBlock.toList w w' → (v'.ownBlock = v.ownBlock ∨ v'.ownBlock = some w.heap.size) → wpList P ops Q rest (a.put o.dst v') w') :
    wpList P ops Q (o :: rest) a w := by
  obtain ⟨i, hi0, hz0, hz1, hz2⟩ := info_parts hi
  refine wpList_plain hgd fun K hK => ?_
  obtain ⟨v', w', hrun, h2, h3, h5⟩ := run_appR (P := P) w t o.type e i z size bytes ht hi0 hz0 hz1 hz2 hzs hsz v n xs hown A m c news hr h1 h63 hbytes
  unfold Oper.wp execOp
  simp only [ho, resolve, invoke, builtin, Sem.run_bind, Sem.run_pure, Result.andThen_ok, List.map_toArray, List.map_cons, List.map_nil, hs, hx, hrun]
  exact hK _ _ (h v' w' h2 h3 h5)
/-- The same inside a region that draws its order. -/
theorem step_appR {ops : Array Oper} {o : Oper} {a : Act} {K : Act → World → Prop} {Q : Exit → Act → World → Prop} {E : Prop} (hgd : o.guard = none) (s x : Operand) (t : TypeId)
    (ho : o.op = .call { callee := .builtin .append, args := #[s, x], argTypes := #[t, t] })
    (w : World) (e : TypeId) (z : Value) (size bytes : Nat) (ht : P.underlying t = some (.slice e)) (hi : (P.info? e).map (fun i => (i.zero, i.size, i.bytes)) = some (some z, size, bytes))
    (hzs : z.cells.size = size) (hsz : 0 < size)
    (v : Value) (n : Nat) (xs : List Value) (hs : a.eval s = v) (hown : w.ownsRow 0 e size v n xs)
    (A : Option Addr) (m c : Nat) (news : List Value) (hx : a.eval x = .slice A m c) (hr : Rws w size A m news) (h1 : ∀ u ∈ news, u.oneCell' = true)
    (h63 : n + m ≤ maxLen) (hbytes : (n + m) * bytes ≤ 140737488355328)
    (h : ∀ v' w', w'.ownsRow 0 e size v' (n + m) (xs ++ news) → Turn v.ownBlock.toList w w' → (v'.ownBlock = v.ownBlock ∨ v'.ownBlock = some w.heap.size) → K (a.put o.dst v') w') :
    if Region.wanted o (yielded ops a.tmps) = true then Oper.wp P o a w K Q else E := by
  have hw : Region.wanted o (yielded ops a.tmps) = true := by simp [Region.wanted, hgd]
  rw [if_pos hw]
  obtain ⟨i, hi0, hz0, hz1, hz2⟩ := info_parts hi
  obtain ⟨v', w', hrun, h2, h3, h5⟩ := run_appR (P := P) w t o.type e i z size bytes ht hi0 hz0 hz1 hz2 hzs hsz v n xs hown A m c news hr h1 h63 hbytes
  unfold Oper.wp execOp
  simp only [ho, resolve, invoke, builtin, Sem.run_bind, Sem.run_pure, Result.andThen_ok, List.map_toArray, List.map_cons, List.map_nil, hs, hx, hrun]
  exact h v' w' h2 h3 h5
end
end Go.Proofs.YtbocejiclellfaaDoor

/- Lists of things of the program's own making: how their cells read as data, append. -/
set_option linter.unusedSimpArgs false
set_option linter.unusedVariables false
set_option maxRecDepth 100000
namespace Go.Proofs.YtbocejiclellfaaDoor
open Go.RowKit

/-- How cells read as a thing, all that it leads to in blocks that A allows. -/
abbrev Rdg (α : Type) := (Nat → Prop) → World → List Value → α → Prop
structure GoodR {α : Type} (sz : Nat) (R : Rdg α) : Prop where
  turn : ∀ {A : Nat → Prop} {w w' : World} {F : List Nat} {cs : List Value} {x : α}, R A w cs x → Turn F w w' → (∀ g ∈ F, ¬ A g) → R A w' cs x
  mono : ∀ {A B : Nat → Prop} {w : World} {cs : List Value} {x : α}, R A w cs x → (∀ g, A g → g < w.heap.size → B g) → R B w cs x
  len : ∀ {A : Nat → Prop} {w : World} {cs : List Value} {x : α}, R A w cs x → cs.length = sz
  one : ∀ {A : Nat → Prop} {w : World} {cs : List Value} {x : α}, R A w cs x → ∀ u ∈ cs, u.oneCell' = true

/-- The slice v reads as the things l. -/
def RdV {α : Type} (sz : Nat) (R : Rdg α) (A : Nat → Prop) (w : World) (v : Value) (l : List α) : Prop :=
  ∃ P c, v = .slice P l.length c ∧ l.length ≤ c ∧ (l = [] ∨ ∃ b, P = some ⟨b, 0, none⟩ ∧ A b ∧ b < w.heap.size ∧
    ∀ (i : Nat) x, l[i]? = some x → ∃ cs : List Value, (∀ k y, cs[k]? = some y → w.cell? ⟨b, i * sz + k, none⟩ = some y) ∧ R A w cs x)
/-- It is of the program's own making, too. -/
def OwnL {α : Type} (e sz : Nat) (R : Rdg α) (A : Nat → Prop) (w : World) (v : Value) (l : List α) : Prop :=
  ∃ css : List (List Value), css.length = l.length ∧ w.ownsRow 0 e sz v l.length css.flatten ∧ (∀ g, v.ownBlock = some g → A g) ∧
    ∀ (i : Nat) (cs : List Value) (x : α), css[i]? = some cs → l[i]? = some x → R (fun g => A g ∧ v.ownBlock ≠ some g) w cs x

section
variable {α : Type} {e sz : Nat} {R : Rdg α} {A B : Nat → Prop} {w w' : World} {v : Value} {l : List α}
theorem RdV.nil (R : Rdg α) (A : Nat → Prop) (w : World) : RdV sz R A w (.slice none 0 0) [] := ⟨none, 0, rfl, Nat.le_refl _, .inl rfl⟩
theorem RdV.turn {F : List Nat} (hR : GoodR sz R) (h : RdV sz R A w v l) (t : Turn F w w') (hF : ∀ g ∈ F, ¬ A g) : RdV sz R A w' v l := by
  obtain ⟨P, c, e1, e2, h⟩ := h
  refine ⟨P, c, e1, e2, ?_⟩
  rcases h with h | ⟨b, eb, hA, hb, h⟩
  · exact .inl h
  · refine .inr ⟨b, eb, hA, Nat.lt_of_lt_of_le hb t.size, fun i x hx => ?_⟩
    obtain ⟨cs, hc, hr⟩ := h i x hx
    exact ⟨cs, fun k y hy => (t.cell (p := ⟨b, i * sz + k, none⟩) hb (fun hg => hF b hg hA)).trans (hc k y hy), hR.turn hr t hF⟩
theorem RdV.mono (hR : GoodR sz R) (h : RdV sz R A w v l) (hB : ∀ g, A g → g < w.heap.size → B g) : RdV sz R B w v l := by
  obtain ⟨P, c, e1, e2, h⟩ := h
  refine ⟨P, c, e1, e2, ?_⟩
  rcases h with h | ⟨b, eb, hA, hb, h⟩
  · exact .inl h
  · refine .inr ⟨b, eb, hB b hA hb, hb, fun i x hx => ?_⟩
    obtain ⟨cs, hc, hr⟩ := h i x hx
    exact ⟨cs, hc, hR.mono hr hB⟩

theorem OwnL.nil (R : Rdg α) (A : Nat → Prop) (w : World) : OwnL e sz R A w (.slice none 0 0) [] :=
  ⟨[], rfl, World.ownsRow_nil w 0 e sz, (by intro g h; cases h), (by intro i cs x h; simp at h)⟩
theorem OwnL.turn {F : List Nat} (hR : GoodR sz R) (h : OwnL e sz R A w v l) (t : Turn F w w') (hF : ∀ g ∈ F, ¬ A g) : OwnL e sz R A w' v l := by
  obtain ⟨css, h1, h2, h3, h4⟩ := h
  exact ⟨css, h1, Turn.owns t h2 (fun g hg hf => hF g hf (h3 g hg)), h3, fun i cs x hc hx => hR.turn (h4 i cs x hc hx) t (fun g hg ha => hF g hg ha.1)⟩
theorem OwnL.mono (hR : GoodR sz R) (h : OwnL e sz R A w v l) (hB : ∀ g, A g → g < w.heap.size → B g) : OwnL e sz R B w v l := by
  obtain ⟨css, h1, h2, h3, h4⟩ := h
  exact ⟨css, h1, h2, fun g hg => hB g (h3 g hg) (owns_lt h2 hg).1, fun i cs x hc hx => hR.mono (h4 i cs x hc hx) (fun g ha hg => ⟨hB g ha.1 hg, ha.2⟩)⟩
theorem OwnL.lt (h : OwnL e sz R A w v l) {g : Nat} (hg : v.ownBlock = some g) : g < w.heap.size ∧ A g := by
  obtain ⟨css, h1, h2, h3, h4⟩ := h
  exact ⟨(owns_lt h2 hg).1, h3 g hg⟩
theorem flat_at {β : Type} {sz : Nat} : ∀ {css : List (List β)} {i : Nat} {cs : List β}, (∀ c ∈ css, c.length = sz) → css[i]? = some cs → ∀ k y, cs[k]? = some y → css.flatten[i * sz + k]? = some y
  | [], i, cs, _, h => by simp at h
  | c :: css, 0, cs, hl, h => by
    intro k y hy
    simp at h
    subst h
    rw [List.flatten_cons, Nat.zero_mul, Nat.zero_add, List.getElem?_append_left (List.getElem?_eq_some_iff.1 hy).1]
    exact hy
  | c :: css, i + 1, cs, hl, h => by
    intro k y hy
    have hc := hl c (by simp)
    rw [List.flatten_cons, List.getElem?_append_right (by rw [hc, Nat.add_mul]; omega), hc, show (i + 1) * sz + k - sz = i * sz + k by rw [Nat.add_mul]; omega]
    exact flat_at (fun c hc => hl c (by simp [hc])) (by simpa using h) k y hy
theorem OwnL.lens (hR : GoodR sz R) {css : List (List Value)} (h1 : css.length = l.length) (h4 : ∀ (i : Nat) (cs : List Value) (x : α), css[i]? = some cs → l[i]? = some x → R A w cs x) : ∀ c ∈ css, c.length = sz := by
  intro c hc
  obtain ⟨i, hi, rfl⟩ := List.mem_iff_getElem.1 hc
  have hl : i < l.length := by omega
  exact hR.len (h4 i css[i] l[i] (List.getElem?_eq_getElem hi) (List.getElem?_eq_getElem hl))
theorem OwnL.rdv (hR : GoodR sz R) (h : OwnL e sz R A w v l) : RdV sz R A w v l := by
  obtain ⟨css, h1, h2, h3, h4⟩ := h
  have hlens := OwnL.lens hR h1 h4
  have h2' := h2
  rcases h2.2 with ⟨rfl, hn⟩ | ⟨g, cap, cur, rfl, hb, hg, hnc, _, _, ht⟩
  · refine ⟨none, 0, by rw [hn], by omega, .inl (List.eq_nil_of_length_eq_zero hn)⟩
  · refine ⟨_, cap, rfl, hnc, .inr ⟨g, rfl, h3 g rfl, (Array.getElem?_eq_some_iff.1 hg).1, fun i x hx => ?_⟩⟩
    have hil : i < l.length := (List.getElem?_eq_some_iff.1 hx).1
    have hic : i < css.length := by omega
    have hcs : css[i]? = some css[i] := List.getElem?_eq_getElem hic
    refine ⟨css[i], fun k y hy => ?_, hR.mono (h4 i _ x hcs hx) (fun g ha _ => ha.1)⟩
    have hk : k < sz := by
      have := (List.getElem?_eq_some_iff.1 hy).1
      rw [hlens css[i] (List.getElem_mem hic)] at this
      exact this
    have hlt : i * sz + k < l.length * sz := by
      calc i * sz + k < i * sz + sz := by omega
        _ = (i + 1) * sz := by rw [Nat.add_mul]; omega
        _ ≤ l.length * sz := Nat.mul_le_mul_right _ hil
    rw [World.ownsRow.cellAt (cap := cap) h2' _ hlt]
    exact flat_at hlens hcs k y hy
end

section
variable {P : Program} {α : Type}
/-- append of one thing, laid in a block of its own, onto a list of the program's own. -/
theorem wpList_appL {ops : Array Oper} {rest : List Oper} {o : Oper} {a : Act} {Q : Exit → Act → World → Prop} (hgd : o.guard = none) (s x : Operand) (t : TypeId)
    (ho : o.op = .call { callee := .builtin .append, args := #[s, x], argTypes := #[t, t] })
    (W : World) (e sz bytes : Nat) (z : Value) (R : Rdg α) (hR : GoodR sz R) (A : Nat → Prop) (ht : P.underlying t = some (.slice e)) (hi : (P.info? e).map (fun i => (i.zero, i.size, i.bytes)) = some (some z, sz, bytes))
    (hzs : z.cells.size = sz) (hsz : 0 < sz) (hby : bytes ≤ 1000)
    (v : Value) (l : List α) (hs : a.eval s = v) (hown : OwnL e sz R A W v l) (C : Array Value) (cs : List Value) (y : α) (c : Nat) (hC : C = cs.toArray) (hr : R (fun g => A g ∧ v.ownBlock ≠ some g) W cs y)
    (hx : a.eval x = .slice (some ⟨W.heap.size, 0, none⟩) 1 c) (hl : l.length ≤ 1000000) (hA : A (W.heap.size + 1))
    (h : ∀ v' w', OwnL e sz R A w' v' (l ++ [y]) → Turn v.ownBlock.toList W w' → (v'.ownBlock = v.ownBlock ∨ ∃ g, v'.ownBlock = some g ∧ W.heap.size ≤ g) → wpList P ops Q rest (a.put o.dst v') w') :
    wpList P ops Q (o :: rest) a (W.alloc (.cells C e)) := by
  subst hC
  obtain ⟨css, h1, h2, h3, h4⟩ := hown
  have hal : Turn [] W (W.alloc (.cells cs.toArray e)) := (Turn.refl [] W).alloc _
  have hlen := hR.len hr
  refine wpList_appR hgd s x t ho (W.alloc (.cells cs.toArray e)) e z sz bytes ht hi hzs hsz v l.length css.flatten hs (Turn.owns hal h2 (by simp)) _ 1 c cs hx ?_ (hR.one hr) (by simp only [maxLen]; omega) ?_ ?_
  · refine ⟨by rw [hlen]; omega, .inr ⟨W.heap.size, 0, rfl, by simp, fun j u hj => ?_⟩⟩
    rw [Nat.zero_add, cell_of_row _ W.heap.size _ _ _ _ (heap_alloc_new W _)]
    simpa using hj
  · have : (l.length + 1) * bytes ≤ 1000001 * 1000 := Nat.mul_le_mul (by omega) hby
    omega
  · intro v' w' k1 k2 k3
    have t2 : Turn v.ownBlock.toList W w' := by
      refine (hal.more (by simp)).trans k2 (fun g hg => .inl hg)
    have hne : v'.ownBlock = v.ownBlock ∨ v'.ownBlock = some (W.heap.size + 1) := by
      rcases k3 with k3 | k3
      · exact .inl k3
      · right; rw [k3]; simp
    refine h v' w' ⟨css ++ [cs], by simp [h1], ?_, ?_, ?_⟩ t2 ?_
    · rw [List.length_append, List.flatten_append]
      simpa using k1
    · intro g hg
      rcases hne with k | k
      · exact h3 g (by rw [← k]; exact hg)
      · rw [k] at hg; injection hg with hg; rw [← hg]; exact hA
    · have hold : ∀ cs' x', R (fun g => A g ∧ v.ownBlock ≠ some g) W cs' x' → R (fun g => A g ∧ v'.ownBlock ≠ some g) w' cs' x' := fun cs' x' hr' => by
        have hm : R (fun g => (A g ∧ v.ownBlock ≠ some g) ∧ g < W.heap.size) W cs' x' := hR.mono hr' (fun g ha hg => ⟨ha, hg⟩)
        refine hR.mono (hR.turn hm t2 (fun g hg ha => ha.1.2 (by simpa using hg))) (fun g ha _ => ⟨ha.1.1, fun e => ?_⟩)
        rcases hne with k | k
        · exact ha.1.2 (by rw [← k]; exact e)
        · rw [k] at e; injection e with e; have := ha.2; omega
      intro i cs' x' hc hx'
      by_cases hi' : i < l.length
      · rw [List.getElem?_append_left (by omega)] at hc
        rw [List.getElem?_append_left hi'] at hx'
        exact hold _ _ (h4 i cs' x' hc hx')
      · have hil : i = l.length := by
          have := (List.getElem?_eq_some_iff.1 hx').1
          rw [List.length_append] at this
          simp at this
          omega
        subst hil
        rw [List.getElem?_append_right (by omega), h1] at hc
        rw [List.getElem?_append_right (Nat.le_refl _)] at hx'
        simp at hc hx'
        subst hc hx'
        exact hold _ _ hr
    · rcases hne with k | k
      · exact .inl k
      · exact .inr ⟨_, k, by omega⟩
end
end Go.Proofs.YtbocejiclellfaaDoor

/- append of one thing onto a list of the program's own, at a step of a region that draws its order. -/
set_option linter.unusedSimpArgs false
set_option linter.unusedVariables false
set_option maxRecDepth 100000
namespace Go.Proofs.YtbocejiclellfaaDoor
open Go.RowKit

section
variable {P : Program} {α : Type}
theorem step_appL {ops : Array Oper} {o : Oper} {a : Act} {K : Act → World → Prop} {Q : Exit → Act → World → Prop} {E : Prop} (hgd : o.guard = none) (s x : Operand) (t : TypeId)
    (ho : o.op = .call { callee := .builtin .append, args := #[s, x], argTypes := #[t, t] })
    (W : World) (e sz bytes : Nat) (z : Value) (R : Rdg α) (hR : GoodR sz R) (A : Nat → Prop) (ht : P.underlying t = some (.slice e)) (hi : (P.info? e).map (fun i => (i.zero, i.size, i.bytes)) = some (some z, sz, bytes))
    (hzs : z.cells.size = sz) (hsz : 0 < sz) (hby : bytes ≤ 1000)
    (v : Value) (l : List α) (hs : a.eval s = v) (hown : OwnL e sz R A W v l) (vb c : Nat) (cs : List Value) (y : α) (hb : W.heap[vb]? = some (.cells cs.toArray e (0, 0))) (hr : R (fun g => A g ∧ v.ownBlock ≠ some g) W cs y)
    (hx : a.eval x = .slice (some ⟨vb, 0, none⟩) 1 c) (hl : l.length ≤ 1000000) (hA : A W.heap.size)
    (h : ∀ v' w', OwnL e sz R A w' v' (l ++ [y]) → Turn v.ownBlock.toList W w' → K (a.put o.dst v') w') :
    if Region.wanted o (yielded ops a.tmps) = true then Oper.wp P o a W K Q else E := by
  obtain ⟨css, h1, h2, h3, h4⟩ := hown
  have hlen := hR.len hr
  refine step_appR hgd s x t ho W e z sz bytes ht hi hzs hsz v l.length css.flatten hs h2 _ 1 c cs hx ?_ (hR.one hr) (by simp only [maxLen]; omega) ?_ ?_
  · refine ⟨by rw [hlen]; omega, .inr ⟨vb, 0, rfl, (Array.getElem?_eq_some_iff.1 hb).1, fun j u hj => ?_⟩⟩
    rw [Nat.zero_add, cell_of_row _ vb _ _ _ _ hb]
    simpa using hj
  · have : (l.length + 1) * bytes ≤ 1000001 * 1000 := Nat.mul_le_mul (by omega) hby
    omega
  · intro v' w' k1 k2 hne
    refine h v' w' ⟨css ++ [cs], by simp [h1], ?_, ?_, ?_⟩ k2
    · rw [List.length_append, List.flatten_append]
      simpa using k1
    · intro g hg
      rcases hne with k | k
      · exact h3 g (by rw [← k]; exact hg)
      · rw [k] at hg; injection hg with hg; rw [← hg]; exact hA
    · have hold : ∀ cs' x', R (fun g => A g ∧ v.ownBlock ≠ some g) W cs' x' → R (fun g => A g ∧ v'.ownBlock ≠ some g) w' cs' x' := fun cs' x' hr' => by
        have hm : R (fun g => (A g ∧ v.ownBlock ≠ some g) ∧ g < W.heap.size) W cs' x' := hR.mono hr' (fun g ha hg => ⟨ha, hg⟩)
        refine hR.mono (hR.turn hm k2 (fun g hg ha => ha.1.2 (by simpa using hg))) (fun g ha _ => ⟨ha.1.1, fun e => ?_⟩)
        rcases hne with k | k
        · exact ha.1.2 (by rw [← k]; exact e)
        · rw [k] at e; injection e with e; have := ha.2; omega
      intro i cs' x' hc hx'
      by_cases hi' : i < l.length
      · rw [List.getElem?_append_left (by omega)] at hc
        rw [List.getElem?_append_left hi'] at hx'
        exact hold _ _ (h4 i cs' x' hc hx')
      · have hil : i = l.length := by
          have := (List.getElem?_eq_some_iff.1 hx').1
          rw [List.length_append] at this
          simp at this
          omega
        subst hil
        rw [List.getElem?_append_right (by omega), h1] at hc
        rw [List.getElem?_append_right (Nat.le_refl _)] at hx'
        simp at hc hx'
        subst hc hx'
        exact hold _ _ hr
end
end Go.Proofs.YtbocejiclellfaaDoor

/- The program's wide sets: of numbers below 2^20 (at most one of package ints' sets). Printed by mkwid.py. -/
set_option linter.unusedSimpArgs false
set_option linter.unusedVariables false
set_option maxRecDepth 100000
namespace Go.Proofs.YtbocejiclellfaaDoor
open Go.RowKit

theorem of_none (w : World) : Calls Tryd.prog 74 #[.slice none 0 0] w fun e w' => e = .returned (.pointer (some ⟨w.heap.size, 0, none⟩)) ∧ w' = w.alloc (.cells #[.slice none 0 0, .int .i64 0] 129) := by
  go_enter Tryd.func74, Tryd.ntmps74
  go_wp2
  refine wp_loop_rounds 1 ?_
  rw [rounds_succ]
  go_wp2
  go_ret
  exact ⟨rfl, rfl⟩
theorem pSet_info : (Tryd.prog.info? 122).map (fun i => (i.zero, i.size, i.bytes)) = some (some (.pointer none), 1, 8) := by kernel_rfl

/-- Block b is a wide set of the numbers l, all of it in the blocks F. -/
def Wd (w : World) (b : Nat) (F : List Nat) (l : List Int) : Prop :=
  (w.heap[b]? = some (.cells #[.slice none 0 0] 106 (0, 0)) ∧ l = [] ∧ F = [b]) ∨
  ∃ g c sb v rs, w.heap[b]? = some (.cells #[.slice (some ⟨g, 0, none⟩) 1 c] 106 (0, 0)) ∧ g < w.heap.size ∧ w.cell? ⟨g, 0, none⟩ = some (.pointer (some ⟨sb, 0, none⟩)) ∧ SetAt w sb v rs ∧ nums rs = l ∧
    F = b :: g :: sb :: v.ownBlock.toList ∧ b ≠ g ∧ b ≠ sb ∧ g ≠ sb ∧ (∀ x, v.ownBlock = some x → x ≠ b ∧ x ≠ g)
theorem Wd.turn {w w' : World} {b : Nat} {F G : List Nat} {l : List Int} (h : Wd w b F l) (t : Turn G w w') (hG : ∀ g ∈ G, g ∉ F) : Wd w' b F l := by
  rcases h with ⟨h1, h2, rfl⟩ | ⟨g, c, sb, v, rs, h1, h2, h3, h4, h5, rfl, h6, h7, h8, h9⟩
  · exact .inl ⟨t.heap h1 (fun hg => hG b hg (by simp)), h2, rfl⟩
  · exact .inr ⟨g, c, sb, v, rs, t.heap h1 (fun hg => hG b hg (by simp)), Nat.lt_of_lt_of_le h2 t.size, (t.cell (p := ⟨g, 0, none⟩) h2 (fun hg => hG g hg (by simp))).trans h3,
      h4.turn t (fun hg => hG sb hg (by simp)) (fun x hx hg => hG x hg (by simp [hx])), h5, rfl, h6, h7, h8, h9⟩
theorem Wd.lt {w : World} {b : Nat} {F : List Nat} {l : List Int} (h : Wd w b F l) : b ∈ F ∧ ∀ g ∈ F, g < w.heap.size := by
  rcases h with ⟨h1, h2, rfl⟩ | ⟨g, c, sb, v, rs, h1, h2, h3, h4, h5, rfl, h6, h7, h8, h9⟩
  · have := (Array.getElem?_eq_some_iff.1 h1).1
    exact ⟨by simp, by simp; exact this⟩
  · have hb := (Array.getElem?_eq_some_iff.1 h1).1
    have hs := h4.lt
    refine ⟨by simp, fun x hx => ?_⟩
    simp at hx
    rcases hx with rfl | rfl | rfl | hx
    · exact hb
    · exact h2
    · exact hs
    · exact (h4.rows.lt x hx).2
theorem Wd.new (w : World) : Wd (w.alloc (.cells #[.slice none 0 0] 106)) w.heap.size [w.heap.size] [] := .inl ⟨heap_alloc_new w _, rfl, rfl⟩
/-- Is there no set yet? -/
def noSet (w : World) (b : Nat) : Nat := match w.cell? ⟨b, 0, none⟩ with
  | some (.slice none _ _) => 1
  | _ => 0

theorem wd_made {w wr W5 w6 : World} {b r : Nat} {F F' : List Nat} {l : List Int} {v6 : Value} (hbl : b < wr.heap.size) (hl : l = [] ∧ F' = [b]) (hT : Turn F w wr) (hF : Foot w.heap.size F F') (h6 : Turn [] wr w6) (h5 : wr.heap.size ≤ W5.heap.size)
    (hb : w6.heap[b]? = some (.cells #[.slice none 0 0] 106 (0, 0))) (hs : w6.heap[r]? = some (.cells #[.slice none 0 0, .int .i64 0] 129 (0, 0))) (ho : w6.ownsRow 0 122 1 v6 (0 + 1) ([] ++ [.pointer (some ⟨r, 0, none⟩)]))
    (hm : v6.ownBlock = (Value.slice none 0 0).ownBlock ∨ v6.ownBlock = some W5.heap.size) (hzr : wr.heap.size = r) :
    ∃ F'', Wd (w6.setCell ⟨b, 0, none⟩ v6) b F'' l ∧ Turn F w (w6.setCell ⟨b, 0, none⟩ v6) ∧ Foot w.heap.size F F'' := by
  obtain ⟨rfl, rfl⟩ := hl
  have ho2 := ho
  rcases ho.2 with ⟨_, h0⟩ | ⟨g, cap, cur, rfl, _, hg, hnc, hcm, hcs, ht⟩
  · simp at h0
  have hgl : g < w6.heap.size := (Array.getElem?_eq_some_iff.1 hg).1
  have hgb : g ≠ b := fun e => by rw [e, hb] at hg; injection hg with hg; injection hg with _ hg _; cases hg
  have hgr : g ≠ r := fun e => by rw [e, hs] at hg; injection hg with hg; injection hg with _ hg _; cases hg
  have hrb : r ≠ b := by omega
  have hgw : wr.heap.size ≤ g := by
    rcases hm with hm | hm
    · cases hm
    · have hm' : some g = some W5.heap.size := hm
      injection hm' with hm'
      omega
  have hcell : w6.cell? ⟨g, 0, none⟩ = some (.pointer (some ⟨r, 0, none⟩)) := by
    rcases (Rws.of_owns ho2).2.2.2 with h | ⟨b', off, e, _, hc⟩
    · simp at h
    · injection e with e
      injection e with e1 e2
      subst e1 e2
      exact hc 0 _ rfl
  have ts : Turn [b] w6 (w6.setCell ⟨b, 0, none⟩ (.slice (some ⟨g, 0, none⟩) (0 + 1) cap)) := (Turn.refl [b] w6).setCell (.inl (by simp)) _
  have hwr := hT.size
  refine ⟨b :: g :: r :: (Value.slice none 0 0).ownBlock.toList, .inr ⟨g, cap, r, .slice none 0 0, [], heap_setCell_same w6 b 0 _ _ _ hb, Nat.lt_of_lt_of_le hgl ts.size, (ts.cell (p := ⟨g, 0, none⟩) hgl (by simpa using hgb)).trans hcell, ⟨ts.heap hs (by simpa using hrb), World.ownsRow_nil _ 0 135 5, Ok.nil⟩, rfl, rfl, fun e => hgb e.symm, fun e => hrb e.symm, hgr, fun x hx => by cases hx⟩, (hT.trans' h6).setCell (hF b (by simp)) _, ?_⟩
  intro x hx
  simp [Value.ownBlock] at hx
  rcases hx with rfl | rfl | rfl
  · exact hF _ (by simp)
  · exact .inr (by omega)
  · exact .inr (by omega)
theorem wd_less {wr w6 : World} {b : Nat} {v6 : Value} {xs : List Value} (h : wr.heap[b]? = some (.cells #[.slice none 0 0] 106 (0, 0))) (h6 : w6.heap[b]? = some (.cells #[.slice none 0 0] 106 (0, 0))) (ho : w6.ownsRow 0 122 1 v6 (0 + 1) xs) :
    noSet (w6.setCell ⟨b, 0, none⟩ v6) b < noSet wr b := by
  rcases ho.2 with ⟨_, h0⟩ | ⟨g, cap, cur, rfl, _⟩
  · simp at h0
  have e1 : noSet wr b = 1 := by unfold noSet; rw [cell_of_row wr b 0 _ _ _ h]; rfl
  have e2 : noSet (w6.setCell ⟨b, 0, none⟩ (.slice (some ⟨g, 0, none⟩) (0 + 1) cap)) b = 0 := by
    unfold noSet
    rw [cell_of_row _ b 0 _ _ _ (heap_setCell_same w6 b 0 _ _ _ h6)]
    rfl
  omega
theorem wd_added {w wr w1 : World} {b g c sb : Nat} {v v' : Value} {rs' : List Row} {F F' : List Nat} (hT : Turn F w wr) (hF : Foot w.heap.size F F')
    (hX : wr.heap[b]? = some (.cells #[.slice (some ⟨g, 0, none⟩) 1 c] 106 (0, 0)) ∧ g < wr.heap.size ∧ wr.cell? ⟨g, 0, none⟩ = some (.pointer (some ⟨sb, 0, none⟩)) ∧ F' = b :: g :: sb :: v.ownBlock.toList ∧ b ≠ g ∧ b ≠ sb ∧ g ≠ sb ∧ (∀ x, v.ownBlock = some x → x ≠ b ∧ x ≠ g))
    (hs : SetAt w1 sb v' rs') (t : Turn (sb :: v.ownBlock.toList) wr w1) (hm : Moved wr v v') :
    ∃ F'', Wd w1 b F'' (nums rs') ∧ Turn F w w1 ∧ Foot w.heap.size F F'' := by
  obtain ⟨hb, hg, hc, rfl, n1, n2, n3, n4⟩ := hX
  have hbl := (Array.getElem?_eq_some_iff.1 hb).1
  have hnb : b ∉ sb :: v.ownBlock.toList := by
    simp
    exact ⟨n2, fun h => (n4 b h).1 rfl⟩
  have hng : g ∉ sb :: v.ownBlock.toList := by
    simp
    exact ⟨n3, fun h => (n4 g h).2 rfl⟩
  have hv' : ∀ x, v'.ownBlock = some x → (v.ownBlock = some x ∨ wr.heap.size ≤ x) := fun x hx => by
    rcases hm with hm | ⟨y, hy, hle⟩
    · exact .inl (by rw [← hm]; exact hx)
    · rw [hx] at hy
      injection hy with hy
      subst hy
      exact .inr hle
  refine ⟨b :: g :: sb :: v'.ownBlock.toList, .inr ⟨g, c, sb, v', rs', t.heap hb hnb, Nat.lt_of_lt_of_le hg t.size, (t.cell (p := ⟨g, 0, none⟩) hg hng).trans hc, hs, rfl, rfl, n1, n2, n3, ?_⟩, ?_, ?_⟩
  · intro x hx
    rcases hv' x hx with h | h
    · exact n4 x h
    · exact ⟨by omega, by omega⟩
  · refine hT.trans t (fun x hx => ?_)
    have : x ∈ b :: g :: sb :: v.ownBlock.toList := by simp at hx ⊢; rcases hx with rfl | hx <;> simp_all
    exact hF x this
  · intro x hx
    simp at hx
    rcases hx with rfl | rfl | rfl | hx
    · exact hF _ (by simp)
    · exact hF _ (by simp)
    · exact hF _ (by simp)
    · rcases hv' x hx with h | h
      · exact hF x (by simp [h])
      · exact .inr (Nat.le_trans hT.size h)

set_option maxHeartbeats 6400000 in
theorem wadd_any (b : Nat) (F : List Nat) (l : List Int) (n : Nat) (hn : n < 1048576) (w : World) (h : Wd w b F l) :
    Calls Tryd.prog 57 #[.pointer (some ⟨b, 0, none⟩), .int .i64 (n : Int)] w fun e w' => e = .returned (.bool (!hasB l n)) ∧ ∃ F', Wd w' b F' (putL l n) ∧ Turn F w w' ∧ Foot w.heap.size F F' := by
  have d0 : Int.tdiv (n : Int) 1048576 = 0 := Int.tdiv_eq_zero_of_lt (by omega) (by omega)
  have d1 : Int.tmod (n : Int) 1048576 = (n : Int) := Int.tmod_eq_of_lt (by omega) (by omega)
  have d2 : (n : Int) / 1048576 = 0 := by omega
  have d3 : (n : Int) % 1048576 = (n : Int) := by omega
  have HH := Lib.hid h
  clear h
  go_enter Tryd.func57, Tryd.ntmps57
  go_wp2_with fail
  go_loopw [12] (fun _ wr => Hid (∃ F', Wd wr b F' l ∧ Turn F w wr ∧ Foot w.heap.size F F')) (fun _ wr => noSet wr b)
  case atStart => exact Lib.hid ⟨F, HH.out, Turn.refl _ _, Foot.refl _ _⟩
  case round =>
    have HR := hrel
    clear hrel
    obtain ⟨F', hW, hT, hF⟩ := HR.out
    have HT := Lib.hid hT
    have HF := Lib.hid hF
    clear hT hF HR
    rcases hW with ⟨hb, hl, hF'⟩ | ⟨g, c, sb, v, rs, hb, hg, hc, hs, hnums, hF', n1, n2, n3, n4⟩
    · have c0 : wr.cell? ⟨b, 0, none⟩ = some (.slice none 0 0) := cell_of_row wr b 0 _ _ _ hb
      have hbl : b < wr.heap.size := (Array.getElem?_eq_some_iff.1 hb).1
      have HB := Lib.hid hb
      have HL := Lib.hid (And.intro hl hF')
      obtain ⟨r, hr⟩ : ∃ r, wr.heap.size = r := ⟨_, rfl⟩
      have t4 : Turn [] wr (wr.drew.alloc (.cells #[.slice none 0 0, .int .i64 0] 129)) := ((Turn.refl [] wr).drew).alloc _
      have c4 : (wr.drew.alloc (.cells #[.slice none 0 0, .int .i64 0] 129)).cell? ⟨b, 0, none⟩ = some (.slice none 0 0) := (t4.cell (p := ⟨b, 0, none⟩) hbl (by simp)).trans c0
      obtain ⟨W4, hW4⟩ : ∃ W, wr.drew.alloc (.cells #[.slice none 0 0, .int .i64 0] 129) = W := ⟨_, rfl⟩
      have hs4 : W4.heap.size = r + 1 := by rw [← hW4, ← hr]; simp
      have b4 : W4.heap[r]? = some (.cells #[.slice none 0 0, .int .i64 0] 129 (0, 0)) := by rw [← hW4, ← hr]; exact heap_alloc_new wr.drew _
      rw [hW4] at t4 c4
      have HO : Hid (Calls Tryd.prog 74 #[.slice none 0 0] wr.drew fun e w' => e = .returned (.pointer (some ⟨r, 0, none⟩)) ∧ w' = W4) := Lib.hid ((of_none wr.drew).mono fun e w' h => by rw [← hr, ← hW4]; exact h)
      obtain ⟨W5, hW5⟩ : ∃ W, W4.alloc (.cells #[.pointer (some ⟨r, 0, none⟩)] 122) = W := ⟨_, rfl⟩
      have t5 : Turn [] W4 W5 := by rw [← hW5]; exact (Turn.refl [] W4).alloc _
      have c5 : W5.cell? ⟨b, 0, none⟩ = some (.slice none 0 0) := (t5.cell (p := ⟨b, 0, none⟩) (show b < W4.heap.size by omega) (by simp)).trans c4
      have b5 : W5.heap[r]? = some (.cells #[.slice none 0 0, .int .i64 0] 129 (0, 0)) := t5.heap b4 (by simp)
      have p5 : W5.heap[r + 1]? = some (.cells #[.pointer (some ⟨r, 0, none⟩)] 122 (0, 0)) := by rw [← hW5, ← hs4]; exact heap_alloc_new W4 _
      have c6 : (W4.alloc (.cells #[.pointer (some ⟨r, 0, none⟩)] 122)).cell? ⟨b, 0, none⟩ = some (.slice none 0 0) := by rw [hW5]; exact c5
      have HT5 := Lib.hid (t4.trans' t5)
      have HW5 := Lib.hid hW5
      have HB5 := Lib.hid (And.intro b5 p5)
      have HSZ := Lib.hid (And.intro hs4 hr)
      clear hb hl hF' hW4 hW5 t4 t5 b4 b5 p5
      go_wp2_with fail
      refine wp_region_held_drew (S := fun w' => True) (by kernel_rfl) ?_ (fun hHeld => ?_)
      · trivial
      refine wpAnyH_take (i := 0) (oi := { dst := some 13, op := Op.move (Operand.tmp 0), type := 121, pos := _, after := #[], guard := none }) (v := ?_) rfl (by kernel_rfl) (by kernel_rfl) (by kernel_rfl) (fun _ _ _ h => h) (Or.inl ⟨by rfl, ?_⟩) (by assumption) ?_
      rotate_left
      · intro w hSw; (try dsimp only at hSw); go_simp; (try with_reducible rfl)
      try simp only [Act.put, List.setIfInBounds_toArray, List.set_cons_zero, List.set_cons_succ]
      refine wpAnyH_take (i := 1) (oi := { dst := some 14, op := Op.move (Operand.tmp 0), type := 121, pos := _, after := #[], guard := none }) (v := ?_) rfl (by kernel_rfl) (by kernel_rfl) (by kernel_rfl) (fun _ _ _ h => h) (Or.inl ⟨by rfl, ?_⟩) (by assumption) ?_
      rotate_left
      · intro w hSw; (try dsimp only at hSw); go_simp; (try with_reducible rfl)
      try simp only [Act.put, List.setIfInBounds_toArray, List.set_cons_zero, List.set_cons_succ]
      refine wpAnyH_take (i := 2) (oi := { dst := some 15, op := Op.nilCheck (Operand.tmp 14), type := 0, pos := _, after := #[{ on := 1, ground := Ground.data }], guard := none }) (v := ?_) rfl (by kernel_rfl) (by kernel_rfl) (by kernel_rfl) (fun _ _ _ h => h) (Or.inl ⟨by rfl, ?_⟩) (by assumption) ?_
      rotate_left
      · intro w hSw; (try dsimp only at hSw); go_simp; (try with_reducible rfl)
      try simp only [Act.put, List.setIfInBounds_toArray, List.set_cons_zero, List.set_cons_succ]
      refine wpAnyH_take (i := 3) (oi := { dst := some 16, op := Op.fieldAddr 106 (Operand.tmp 15) 0, type := 0, pos := _, after := #[{ on := 2, ground := Ground.data }], guard := none }) (v := ?_) rfl (by kernel_rfl) (by kernel_rfl) (by kernel_rfl) (fun _ _ _ h => h) (Or.inl ⟨by rfl, ?_⟩) (by assumption) ?_
      rotate_left
      · intro w hSw; (try dsimp only at hSw); go_simp; (try with_reducible rfl)
      try simp only [Act.put, List.setIfInBounds_toArray, List.set_cons_zero, List.set_cons_succ]
      refine wpAnyH_ready (rs := [4, 5]) (by kernel_rfl) (by simp) ?_
      refine AllReadyH.cons (o := { dst := some 17, op := Op.load 104 (Operand.tmp 16), type := 104, pos := _, after := #[{ on := 3, ground := Ground.data }], guard := none }) rfl (fun K hK => ?_) (AllReadyH.cons (o := { dst := some 18, op := Op.call { callee := Callee.value (Operand.func 74), args := #[Operand.const (Value.slice none 0 0)], argTypes := #[59] }, type := 122, pos := _, after := #[], guard := none }) rfl (fun K hK => ?_) AllReadyH.nil)
      · go_simp
        refine hK.out _ _ ?_ (fun hHeld => ?_)
        · trivial
        clear hK K
        try simp only [Act.put, List.setIfInBounds_toArray, List.set_cons_zero, List.set_cons_succ]
        refine wpAnyH_ready (rs := [5]) (by kernel_rfl) (by simp) ?_
        refine AllReadyH.cons (o := { dst := some 18, op := Op.call { callee := Callee.value (Operand.func 74), args := #[Operand.const (Value.slice none 0 0)], argTypes := #[59] }, type := 122, pos := _, after := #[], guard := none }) rfl (fun K hK => ?_) AllReadyH.nil
        go_simp
        go_at_call 74
        (with_reducible refine HO.out.mono ?_)
        rintro e4 w4 ⟨rfl, hw4⟩
        obtain rfl := hw4.symm
        try go_wp2_with fail
        refine hK.out _ _ ?_ (fun hHeld => ?_)
        · trivial
        clear hK K
        try simp only [Act.put, List.setIfInBounds_toArray, List.set_cons_zero, List.set_cons_succ]
        refine wpAnyH_ready (rs := [6]) (by kernel_rfl) (by simp) ?_
        refine AllReadyH.cons (o := { dst := some 19, op := Op.buildSlice 104 1 #[(0, Operand.tmp 18)], type := 104, pos := _, after := #[{ on := 5, ground := Ground.data }], guard := none }) rfl (fun K hK => ?_) AllReadyH.nil
        go_simp
        refine hK.out _ _ ?_ (fun hHeld => ?_)
        · trivial
        clear hK K
        try simp only [Act.put, List.setIfInBounds_toArray, List.set_cons_zero, List.set_cons_succ]
        refine wpAnyH_ready (rs := [7]) (by kernel_rfl) (by simp) ?_
        refine AllReadyH.cons (o := { dst := some 20, op := Op.call { callee := Callee.builtin Builtin.append, args := #[Operand.tmp 17, Operand.tmp 19], argTypes := #[104, 104] }, type := 104, pos := _, after := #[{ on := 4, ground := Ground.data }, { on := 6, ground := Ground.data }, { on := 5, ground := Ground.chain }], guard := none }) rfl (fun K hK => ?_) AllReadyH.nil
        rw [HW5.out]
        refine step_appR rfl (.tmp 17) (.tmp 19) 104 rfl W5 122 (.pointer none) 1 8 Tryd.underlying104 pSet_info rfl (by omega) (.slice none 0 0) 0 [] (by simp [Act.eval, Act.put]) (World.ownsRow_nil W5 0 122 1) (some ⟨W4.heap.size, 0, none⟩) 1 1 [.pointer (some ⟨r, 0, none⟩)] (by simp [Act.eval, Act.put]) ⟨rfl, .inr ⟨W4.heap.size, 0, rfl, by rw [HSZ.out.1]; exact (Array.getElem?_eq_some_iff.1 HB5.out.2).1, fun j u hj => by rw [HSZ.out.1, Nat.zero_add, cell_of_row W5 (r + 1) j _ _ _ HB5.out.2]; simpa using hj⟩⟩ (by intro u hu; simp at hu; subst hu; rfl) (by decide) (by decide) ?_
        intro v6 w6 ho6 t6 hm6
        obtain ⟨A6, q6, rfl, _, _⟩ := owns_form ho6
        have t6' : Turn [] W5 w6 := t6
        have d4 : w6.cell? ⟨b, 0, none⟩ = some (.slice none 0 0) := (t6'.cell (p := ⟨b, 0, none⟩) (show b < W5.heap.size by have := HT5.out.size; omega) (by simp)).trans c5
        have HT6 := Lib.hid (HT5.out.trans' t6')
        have hb6 := HT6.out.heap HB.out (by simp)
        have df : w6.frozen? ⟨b, 0, none⟩ = false := frozen_of_row w6 b 0 _ _ hb6
        have HS6 := Lib.hid (t6'.heap HB5.out.1 (by simp))
        have HO6 := Lib.hid (And.intro ho6 hm6)
        have HB6 := Lib.hid hb6
        have HT56 := Lib.hid t6'
        clear ho6 t6 hm6 hb6 t6'
        refine hK.out _ _ ?_ (fun hHeld => ?_)
        · trivial
        clear hK K
        try simp only [Act.put, List.setIfInBounds_toArray, List.set_cons_zero, List.set_cons_succ]
        refine wpAnyH_take (i := 8) (oi := { dst := some 21, op := Op.nilCheck (Operand.tmp 13), type := 0, pos := _, after := #[{ on := 0, ground := Ground.data }, { on := 0, ground := Ground.phase }, { on := 1, ground := Ground.phase }, { on := 2, ground := Ground.phase }, { on := 3, ground := Ground.phase }, { on := 4, ground := Ground.phase }, { on := 5, ground := Ground.phase }, { on := 6, ground := Ground.phase }, { on := 7, ground := Ground.phase }], guard := none }) (v := ?_) rfl (by kernel_rfl) (by kernel_rfl) (by kernel_rfl) (fun _ _ _ h => h) (Or.inl ⟨by rfl, ?_⟩) (by assumption) ?_
        rotate_left
        · intro w hSw; (try dsimp only at hSw); go_simp; (try with_reducible rfl)
        try simp only [Act.put, List.setIfInBounds_toArray, List.set_cons_zero, List.set_cons_succ]
        refine wpAnyH_take (i := 9) (oi := { dst := some 22, op := Op.fieldAddr 106 (Operand.tmp 21) 0, type := 0, pos := _, after := #[{ on := 8, ground := Ground.data }, { on := 0, ground := Ground.phase }, { on := 1, ground := Ground.phase }, { on := 2, ground := Ground.phase }, { on := 3, ground := Ground.phase }, { on := 4, ground := Ground.phase }, { on := 5, ground := Ground.phase }, { on := 6, ground := Ground.phase }, { on := 7, ground := Ground.phase }], guard := none }) (v := ?_) rfl (by kernel_rfl) (by kernel_rfl) (by kernel_rfl) (fun _ _ _ h => h) (Or.inl ⟨by rfl, ?_⟩) (by assumption) ?_
        rotate_left
        · intro w hSw; (try dsimp only at hSw); go_simp; (try with_reducible rfl)
        try simp only [Act.put, List.setIfInBounds_toArray, List.set_cons_zero, List.set_cons_succ]
        refine wpAnyH_ready (rs := [10]) (by kernel_rfl) (by simp) ?_
        refine AllReadyH.cons (o := { dst := none, op := Op.store 104 (Operand.tmp 22) (Operand.tmp 20), type := 0, pos := _, after := #[{ on := 9, ground := Ground.data }, { on := 7, ground := Ground.data }, { on := 7, ground := Ground.chain }, { on := 0, ground := Ground.phase }, { on := 1, ground := Ground.phase }, { on := 2, ground := Ground.phase }, { on := 3, ground := Ground.phase }, { on := 4, ground := Ground.phase }, { on := 5, ground := Ground.phase }, { on := 6, ground := Ground.phase }, { on := 7, ground := Ground.phase }], guard := none }) rfl (fun K hK => ?_) AllReadyH.nil
        go_simp
        refine hK.out _ _ ?_ (fun hHeld => ?_)
        · trivial
        clear hK K
        try simp only [Act.put, List.setIfInBounds_toArray, List.set_cons_zero, List.set_cons_succ]
        refine wpAnyH_done (by kernel_rfl) ?_ _
        go_wp2_with fail
        go_roundw
        case rel => exact Lib.hid (wd_made hbl HL.out HT.out HF.out HT6.out HT5.out.size HB6.out HS6.out HO6.out.1 HO6.out.2 HSZ.out.2)
        case measure => exact wd_less HB.out HB6.out HO6.out.1
      · go_simp
        go_at_call 74
        (with_reducible refine HO.out.mono ?_)
        rintro e4 w4 ⟨rfl, hw4⟩
        obtain rfl := hw4.symm
        try go_wp2_with fail
        refine hK.out _ _ ?_ (fun hHeld => ?_)
        · trivial
        clear hK K
        try simp only [Act.put, List.setIfInBounds_toArray, List.set_cons_zero, List.set_cons_succ]
        refine wpAnyH_ready (rs := [4, 6]) (by kernel_rfl) (by simp) ?_
        refine AllReadyH.cons (o := { dst := some 17, op := Op.load 104 (Operand.tmp 16), type := 104, pos := _, after := #[{ on := 3, ground := Ground.data }], guard := none }) rfl (fun K hK => ?_) (AllReadyH.cons (o := { dst := some 19, op := Op.buildSlice 104 1 #[(0, Operand.tmp 18)], type := 104, pos := _, after := #[{ on := 5, ground := Ground.data }], guard := none }) rfl (fun K hK => ?_) AllReadyH.nil)
        · go_simp
          refine hK.out _ _ ?_ (fun hHeld => ?_)
          · trivial
          clear hK K
          try simp only [Act.put, List.setIfInBounds_toArray, List.set_cons_zero, List.set_cons_succ]
          refine wpAnyH_ready (rs := [6]) (by kernel_rfl) (by simp) ?_
          refine AllReadyH.cons (o := { dst := some 19, op := Op.buildSlice 104 1 #[(0, Operand.tmp 18)], type := 104, pos := _, after := #[{ on := 5, ground := Ground.data }], guard := none }) rfl (fun K hK => ?_) AllReadyH.nil
          go_simp
          refine hK.out _ _ ?_ (fun hHeld => ?_)
          · trivial
          clear hK K
          try simp only [Act.put, List.setIfInBounds_toArray, List.set_cons_zero, List.set_cons_succ]
          refine wpAnyH_ready (rs := [7]) (by kernel_rfl) (by simp) ?_
          refine AllReadyH.cons (o := { dst := some 20, op := Op.call { callee := Callee.builtin Builtin.append, args := #[Operand.tmp 17, Operand.tmp 19], argTypes := #[104, 104] }, type := 104, pos := _, after := #[{ on := 4, ground := Ground.data }, { on := 6, ground := Ground.data }, { on := 5, ground := Ground.chain }], guard := none }) rfl (fun K hK => ?_) AllReadyH.nil
          rw [HW5.out]
          refine step_appR rfl (.tmp 17) (.tmp 19) 104 rfl W5 122 (.pointer none) 1 8 Tryd.underlying104 pSet_info rfl (by omega) (.slice none 0 0) 0 [] (by simp [Act.eval, Act.put]) (World.ownsRow_nil W5 0 122 1) (some ⟨W4.heap.size, 0, none⟩) 1 1 [.pointer (some ⟨r, 0, none⟩)] (by simp [Act.eval, Act.put]) ⟨rfl, .inr ⟨W4.heap.size, 0, rfl, by rw [HSZ.out.1]; exact (Array.getElem?_eq_some_iff.1 HB5.out.2).1, fun j u hj => by rw [HSZ.out.1, Nat.zero_add, cell_of_row W5 (r + 1) j _ _ _ HB5.out.2]; simpa using hj⟩⟩ (by intro u hu; simp at hu; subst hu; rfl) (by decide) (by decide) ?_
          intro v6 w6 ho6 t6 hm6
          obtain ⟨A6, q6, rfl, _, _⟩ := owns_form ho6
          have t6' : Turn [] W5 w6 := t6
          have d4 : w6.cell? ⟨b, 0, none⟩ = some (.slice none 0 0) := (t6'.cell (p := ⟨b, 0, none⟩) (show b < W5.heap.size by have := HT5.out.size; omega) (by simp)).trans c5
          have HT6 := Lib.hid (HT5.out.trans' t6')
          have hb6 := HT6.out.heap HB.out (by simp)
          have df : w6.frozen? ⟨b, 0, none⟩ = false := frozen_of_row w6 b 0 _ _ hb6
          have HS6 := Lib.hid (t6'.heap HB5.out.1 (by simp))
          have HO6 := Lib.hid (And.intro ho6 hm6)
          have HB6 := Lib.hid hb6
          have HT56 := Lib.hid t6'
          clear ho6 t6 hm6 hb6 t6'
          refine hK.out _ _ ?_ (fun hHeld => ?_)
          · trivial
          clear hK K
          try simp only [Act.put, List.setIfInBounds_toArray, List.set_cons_zero, List.set_cons_succ]
          refine wpAnyH_take (i := 8) (oi := { dst := some 21, op := Op.nilCheck (Operand.tmp 13), type := 0, pos := _, after := #[{ on := 0, ground := Ground.data }, { on := 0, ground := Ground.phase }, { on := 1, ground := Ground.phase }, { on := 2, ground := Ground.phase }, { on := 3, ground := Ground.phase }, { on := 4, ground := Ground.phase }, { on := 5, ground := Ground.phase }, { on := 6, ground := Ground.phase }, { on := 7, ground := Ground.phase }], guard := none }) (v := ?_) rfl (by kernel_rfl) (by kernel_rfl) (by kernel_rfl) (fun _ _ _ h => h) (Or.inl ⟨by rfl, ?_⟩) (by assumption) ?_
          rotate_left
          · intro w hSw; (try dsimp only at hSw); go_simp; (try with_reducible rfl)
          try simp only [Act.put, List.setIfInBounds_toArray, List.set_cons_zero, List.set_cons_succ]
          refine wpAnyH_take (i := 9) (oi := { dst := some 22, op := Op.fieldAddr 106 (Operand.tmp 21) 0, type := 0, pos := _, after := #[{ on := 8, ground := Ground.data }, { on := 0, ground := Ground.phase }, { on := 1, ground := Ground.phase }, { on := 2, ground := Ground.phase }, { on := 3, ground := Ground.phase }, { on := 4, ground := Ground.phase }, { on := 5, ground := Ground.phase }, { on := 6, ground := Ground.phase }, { on := 7, ground := Ground.phase }], guard := none }) (v := ?_) rfl (by kernel_rfl) (by kernel_rfl) (by kernel_rfl) (fun _ _ _ h => h) (Or.inl ⟨by rfl, ?_⟩) (by assumption) ?_
          rotate_left
          · intro w hSw; (try dsimp only at hSw); go_simp; (try with_reducible rfl)
          try simp only [Act.put, List.setIfInBounds_toArray, List.set_cons_zero, List.set_cons_succ]
          refine wpAnyH_ready (rs := [10]) (by kernel_rfl) (by simp) ?_
          refine AllReadyH.cons (o := { dst := none, op := Op.store 104 (Operand.tmp 22) (Operand.tmp 20), type := 0, pos := _, after := #[{ on := 9, ground := Ground.data }, { on := 7, ground := Ground.data }, { on := 7, ground := Ground.chain }, { on := 0, ground := Ground.phase }, { on := 1, ground := Ground.phase }, { on := 2, ground := Ground.phase }, { on := 3, ground := Ground.phase }, { on := 4, ground := Ground.phase }, { on := 5, ground := Ground.phase }, { on := 6, ground := Ground.phase }, { on := 7, ground := Ground.phase }], guard := none }) rfl (fun K hK => ?_) AllReadyH.nil
          go_simp
          refine hK.out _ _ ?_ (fun hHeld => ?_)
          · trivial
          clear hK K
          try simp only [Act.put, List.setIfInBounds_toArray, List.set_cons_zero, List.set_cons_succ]
          refine wpAnyH_done (by kernel_rfl) ?_ _
          go_wp2_with fail
          go_roundw
          case rel => exact Lib.hid (wd_made hbl HL.out HT.out HF.out HT6.out HT5.out.size HB6.out HS6.out HO6.out.1 HO6.out.2 HSZ.out.2)
          case measure => exact wd_less HB.out HB6.out HO6.out.1
        · go_simp
          refine hK.out _ _ ?_ (fun hHeld => ?_)
          · trivial
          clear hK K
          try simp only [Act.put, List.setIfInBounds_toArray, List.set_cons_zero, List.set_cons_succ]
          refine wpAnyH_ready (rs := [4]) (by kernel_rfl) (by simp) ?_
          refine AllReadyH.cons (o := { dst := some 17, op := Op.load 104 (Operand.tmp 16), type := 104, pos := _, after := #[{ on := 3, ground := Ground.data }], guard := none }) rfl (fun K hK => ?_) AllReadyH.nil
          go_simp
          refine hK.out _ _ ?_ (fun hHeld => ?_)
          · trivial
          clear hK K
          try simp only [Act.put, List.setIfInBounds_toArray, List.set_cons_zero, List.set_cons_succ]
          refine wpAnyH_ready (rs := [7]) (by kernel_rfl) (by simp) ?_
          refine AllReadyH.cons (o := { dst := some 20, op := Op.call { callee := Callee.builtin Builtin.append, args := #[Operand.tmp 17, Operand.tmp 19], argTypes := #[104, 104] }, type := 104, pos := _, after := #[{ on := 4, ground := Ground.data }, { on := 6, ground := Ground.data }, { on := 5, ground := Ground.chain }], guard := none }) rfl (fun K hK => ?_) AllReadyH.nil
          rw [HW5.out]
          refine step_appR rfl (.tmp 17) (.tmp 19) 104 rfl W5 122 (.pointer none) 1 8 Tryd.underlying104 pSet_info rfl (by omega) (.slice none 0 0) 0 [] (by simp [Act.eval, Act.put]) (World.ownsRow_nil W5 0 122 1) (some ⟨W4.heap.size, 0, none⟩) 1 1 [.pointer (some ⟨r, 0, none⟩)] (by simp [Act.eval, Act.put]) ⟨rfl, .inr ⟨W4.heap.size, 0, rfl, by rw [HSZ.out.1]; exact (Array.getElem?_eq_some_iff.1 HB5.out.2).1, fun j u hj => by rw [HSZ.out.1, Nat.zero_add, cell_of_row W5 (r + 1) j _ _ _ HB5.out.2]; simpa using hj⟩⟩ (by intro u hu; simp at hu; subst hu; rfl) (by decide) (by decide) ?_
          intro v6 w6 ho6 t6 hm6
          obtain ⟨A6, q6, rfl, _, _⟩ := owns_form ho6
          have t6' : Turn [] W5 w6 := t6
          have d4 : w6.cell? ⟨b, 0, none⟩ = some (.slice none 0 0) := (t6'.cell (p := ⟨b, 0, none⟩) (show b < W5.heap.size by have := HT5.out.size; omega) (by simp)).trans c5
          have HT6 := Lib.hid (HT5.out.trans' t6')
          have hb6 := HT6.out.heap HB.out (by simp)
          have df : w6.frozen? ⟨b, 0, none⟩ = false := frozen_of_row w6 b 0 _ _ hb6
          have HS6 := Lib.hid (t6'.heap HB5.out.1 (by simp))
          have HO6 := Lib.hid (And.intro ho6 hm6)
          have HB6 := Lib.hid hb6
          have HT56 := Lib.hid t6'
          clear ho6 t6 hm6 hb6 t6'
          refine hK.out _ _ ?_ (fun hHeld => ?_)
          · trivial
          clear hK K
          try simp only [Act.put, List.setIfInBounds_toArray, List.set_cons_zero, List.set_cons_succ]
          refine wpAnyH_take (i := 8) (oi := { dst := some 21, op := Op.nilCheck (Operand.tmp 13), type := 0, pos := _, after := #[{ on := 0, ground := Ground.data }, { on := 0, ground := Ground.phase }, { on := 1, ground := Ground.phase }, { on := 2, ground := Ground.phase }, { on := 3, ground := Ground.phase }, { on := 4, ground := Ground.phase }, { on := 5, ground := Ground.phase }, { on := 6, ground := Ground.phase }, { on := 7, ground := Ground.phase }], guard := none }) (v := ?_) rfl (by kernel_rfl) (by kernel_rfl) (by kernel_rfl) (fun _ _ _ h => h) (Or.inl ⟨by rfl, ?_⟩) (by assumption) ?_
          rotate_left
          · intro w hSw; (try dsimp only at hSw); go_simp; (try with_reducible rfl)
          try simp only [Act.put, List.setIfInBounds_toArray, List.set_cons_zero, List.set_cons_succ]
          refine wpAnyH_take (i := 9) (oi := { dst := some 22, op := Op.fieldAddr 106 (Operand.tmp 21) 0, type := 0, pos := _, after := #[{ on := 8, ground := Ground.data }, { on := 0, ground := Ground.phase }, { on := 1, ground := Ground.phase }, { on := 2, ground := Ground.phase }, { on := 3, ground := Ground.phase }, { on := 4, ground := Ground.phase }, { on := 5, ground := Ground.phase }, { on := 6, ground := Ground.phase }, { on := 7, ground := Ground.phase }], guard := none }) (v := ?_) rfl (by kernel_rfl) (by kernel_rfl) (by kernel_rfl) (fun _ _ _ h => h) (Or.inl ⟨by rfl, ?_⟩) (by assumption) ?_
          rotate_left
          · intro w hSw; (try dsimp only at hSw); go_simp; (try with_reducible rfl)
          try simp only [Act.put, List.setIfInBounds_toArray, List.set_cons_zero, List.set_cons_succ]
          refine wpAnyH_ready (rs := [10]) (by kernel_rfl) (by simp) ?_
          refine AllReadyH.cons (o := { dst := none, op := Op.store 104 (Operand.tmp 22) (Operand.tmp 20), type := 0, pos := _, after := #[{ on := 9, ground := Ground.data }, { on := 7, ground := Ground.data }, { on := 7, ground := Ground.chain }, { on := 0, ground := Ground.phase }, { on := 1, ground := Ground.phase }, { on := 2, ground := Ground.phase }, { on := 3, ground := Ground.phase }, { on := 4, ground := Ground.phase }, { on := 5, ground := Ground.phase }, { on := 6, ground := Ground.phase }, { on := 7, ground := Ground.phase }], guard := none }) rfl (fun K hK => ?_) AllReadyH.nil
          go_simp
          refine hK.out _ _ ?_ (fun hHeld => ?_)
          · trivial
          clear hK K
          try simp only [Act.put, List.setIfInBounds_toArray, List.set_cons_zero, List.set_cons_succ]
          refine wpAnyH_done (by kernel_rfl) ?_ _
          go_wp2_with fail
          go_roundw
          case rel => exact Lib.hid (wd_made hbl HL.out HT.out HF.out HT6.out HT5.out.size HB6.out HS6.out HO6.out.1 HO6.out.2 HSZ.out.2)
          case measure => exact wd_less HB.out HB6.out HO6.out.1
    · have hnn : 0 < rs.length ∨ True := .inr trivial
      have c0 : wr.cell? ⟨b, 0, none⟩ = some (.slice (some ⟨g, 0, none⟩) 1 c) := cell_of_row wr b 0 _ _ _ hb
      have hc0 : wr.cell? ⟨g, 0, none⟩ = some (.pointer (some ⟨sb, 0, none⟩)) := hc
      have HA := Lib.hid (add_any sb v rs (n : Int) wr hs)
      have hok : okB (n : Int) = true := by simp [okB]; omega
      have HN := Lib.hid (And.intro hnums hok)
      have HX := Lib.hid (And.intro hb (And.intro hg (And.intro hc (And.intro hF' (And.intro n1 (And.intro n2 (And.intro n3 n4)))))))
      have hgl : g < wr.heap.size := hg
      clear hb hg hc hs hnums hF' n1 n2 n3 n4 hok hnn
      go_wp2_with fail
      refine HA.out.mono ?_
      rintro e w1 ⟨rfl, v', rs', hs', hn', t', hm⟩
      go_wp2_with fail
      go_ret
      refine ⟨ret_bool (by rw [HN.out.2, HN.out.1]; rfl), ?_⟩
      rw [← HN.out.1, ← hn']
      exact wd_added HT.out HF.out HX.out hs' t' hm
end Go.Proofs.YtbocejiclellfaaDoor

/- The table of classes in memory; Len, has, entry. -/
set_option linter.unusedSimpArgs false
set_option linter.unusedVariables false
set_option maxRecDepth 100000
namespace Go.Proofs.YtbocejiclellfaaDoor
open Go.RowKit

def RdN (A : Nat → Prop) (w : World) (cs : List Value) (x : Nat) : Prop := cs = [.int .i64 (x : Int)]
theorem goodN : GoodR 1 RdN where
  turn h _ _ := h
  mono h _ := h
  len h := by unfold RdN at h; rw [h]; rfl
  one h := by unfold RdN at h; rw [h]; intro u hu; simp at hu; rw [hu]; rfl
/-- What a table tells of one. -/
structure En where
  nm : ByteArray
  face : Bool
  sup : Int
  rt : List Nat
theorem rdv_one {α : Type} {sz : Nat} {R : Rdg α} {A : Nat → Prop} {w : World} {v : Value} {l : List α} (h : RdV sz R A w v l) : v.oneCell' = true := by
  obtain ⟨P, c, rfl, _⟩ := h
  rfl
def RdE (A : Nat → Prop) (w : World) (cs : List Value) (x : En) : Prop := ∃ V, cs = [.string x.nm, .bool x.face, .int .i64 x.sup, V] ∧ RdV 1 RdN A w V x.rt
theorem goodE : GoodR 4 RdE where
  turn := by
    rintro A w w' F cs m ⟨V, e, h⟩ t hF
    exact ⟨V, e, h.turn goodN t hF⟩
  mono := by
    rintro A B w cs m ⟨V, e, h⟩ hB
    exact ⟨V, e, h.mono goodN hB⟩
  len := by
    rintro A w cs m ⟨V, rfl, h⟩
    rfl
  one := by
    rintro A w cs m ⟨V, rfl, h⟩ u hu
    simp at hu
    rcases hu with rfl | rfl | rfl | rfl
    all_goals first | rfl | exact rdv_one h
/-- Block t is a table: a map, and the entries, all of them in blocks that A allows. -/
structure Tl (w : World) (A : Nat → Prop) (t : Nat) (M V : Value) (Es : List En) : Prop where
  blk : w.heap[t]? = some (.cells #[M, V] 77 (0, 0))
  ent : RdV 4 RdE A w V Es
  len : Es.length ≤ 1000000
theorem Tl.turn {w w' : World} {A : Nat → Prop} {t : Nat} {M V : Value} {Es : List En} {F : List Nat} (h : Tl w A t M V Es) (k : Turn F w w') (ht : t ∉ F) (hF : ∀ g ∈ F, ¬ A g) : Tl w' A t M V Es := ⟨k.heap h.blk ht, h.ent.turn goodE k hF, h.len⟩
theorem Tl.turn' {w w' : World} {A : Nat → Prop} {t : Nat} {M V : Value} {Es : List En} (h : Tl w A t M V Es) (k : Turn [] w w') : Tl w' A t M V Es := h.turn k (by simp) (by simp)
theorem Tl.form {w : World} {A : Nat → Prop} {t : Nat} {M V : Value} {Es : List En} (h : Tl w A t M V Es) : ∃ P c, V = .slice P Es.length c ∧ Es.length ≤ c := by
  obtain ⟨P, c, e, hc, _⟩ := h.ent
  exact ⟨P, c, e, hc⟩

set_option maxHeartbeats 1600000 in
theorem len_any8 {w : World} {A : Nat → Prop} {t : Nat} {M V : Value} {Es : List En} (h : Tl w A t M V Es) :
    Calls Tryd.prog 37 #[.pointer (some ⟨t, 0, none⟩)] w fun e w' => e = .returned (.int .i64 (Es.length : Int)) ∧ w = w' := by
  obtain ⟨P, c, rfl, hc⟩ := h.form
  have c1 : w.cell? ⟨t, 1, none⟩ = some (.slice P Es.length c) := cell_of_row w t 1 _ _ _ h.blk
  obtain ⟨N, hN⟩ : ∃ N, Es.length = N := ⟨_, rfl⟩
  rw [hN] at c1 hc ⊢
  clear hN h
  go_enter Tryd.func37, Tryd.ntmps37
  go_wp2_with fail
  go_ret
  exact ⟨rfl, rfl⟩
set_option maxHeartbeats 1600000 in
theorem has_any8 {w : World} {A : Nat → Prop} {t : Nat} {M V : Value} {Es : List En} (h : Tl w A t M V Es) (i : Int) :
    Calls Tryd.prog 63 #[.pointer (some ⟨t, 0, none⟩), .int .i64 i] w fun e w' => e = .returned (.bool (decide (0 ≤ i ∧ i < (Es.length : Int)))) ∧ w = w' := by
  have HL := Lib.hid (len_any8 h)
  obtain ⟨N, hN⟩ : ∃ N, Es.length = N := ⟨_, rfl⟩
  rw [hN] at HL ⊢
  clear hN h
  by_cases h0 : 0 ≤ i
  · have d0 : decide (0 ≤ i) = true := by simpa using h0
    go_enter Tryd.func63, Tryd.ntmps63
    go_wp2_with fail
    refine HL.out.mono ?_
    rintro e w1 ⟨rfl, rfl⟩
    go_wp2_with fail
    go_ret
    exact ⟨ret_bool (by simp [h0]), rfl⟩
  · have d0 : decide (0 ≤ i) = false := by simpa using h0
    go_enter Tryd.func63, Tryd.ntmps63
    go_wp2_with fail
    go_ret
    exact ⟨ret_bool (by simp [h0]), rfl⟩
def en0 : En := ⟨⟨#[]⟩, false, -1, []⟩
def enAt (Es : List En) (i : Int) : En := if 0 ≤ i then (Es[i.toNat]?).getD en0 else en0
theorem enAt_nat {Es : List En} {k : Nat} {x : En} (h : Es[k]? = some x) : enAt Es (k : Int) = x := by
  unfold enAt
  rw [if_pos (by omega), Int.toNat_natCast, h]
  rfl
theorem enAt_out {Es : List En} {i : Int} (h : ¬ (0 ≤ i ∧ i < (Es.length : Int))) : enAt Es i = en0 := by
  unfold enAt
  split
  · rw [List.getElem?_eq_none (by omega)]
    rfl
  · rfl
theorem Tl.below {w : World} {A : Nat → Prop} {t : Nat} {M V : Value} {Es : List En} (h : Tl w A t M V Es) {r : Nat} (hr : w.heap.size = r) : Tl w (fun g => A g ∧ g < r) t M V Es :=
  ⟨h.blk, h.ent.mono goodE (fun g ha hg => ⟨ha, by omega⟩), h.len⟩
set_option maxHeartbeats 3200000 in
theorem entry_any8 {w : World} {A : Nat → Prop} {t : Nat} {M V : Value} {Es : List En} (h : Tl w A t M V Es) (i : Int) :
    Calls Tryd.prog 45 #[.pointer (some ⟨t, 0, none⟩), .int .i64 i] w fun e w' => ∃ U, e = .returned (.agg #[.string (enAt Es i).nm, .bool (enAt Es i).face, .int .i64 (enAt Es i).sup, U]) ∧ RdV 1 RdN A w' U (enAt Es i).rt ∧ Turn [] w w' := by
  have HH : Hid (∀ W, Turn [] w W → Calls Tryd.prog 63 #[.pointer (some ⟨t, 0, none⟩), .int .i64 i] W fun e w' => e = .returned (.bool (decide (0 ≤ i ∧ i < (Es.length : Int)))) ∧ W = w') := Lib.hid fun W k => has_any8 (h.turn' k) i
  have t1 : Turn [] w (w.alloc (.cells #[.string ⟨#[]⟩, .bool false, .int .i64 0, .slice none 0 0] 94)) := (Turn.refl [] w).alloc _
  obtain ⟨W1, hW1⟩ : ∃ W, w.alloc (.cells #[.string ⟨#[]⟩, .bool false, .int .i64 0, .slice none 0 0] 94) = W := ⟨_, rfl⟩
  obtain ⟨r, hr⟩ : ∃ r, w.heap.size = r := ⟨_, rfl⟩
  have b1 : W1.heap[r]? = some (.cells #[.string ⟨#[]⟩, .bool false, .int .i64 0, .slice none 0 0] 94 (0, 0)) := by rw [← hW1, ← hr]; exact heap_alloc_new w _
  rw [hW1] at t1
  have h1 : Tl W1 (fun g => A g ∧ g < r) t M V Es := Tl.turn' (Tl.below h hr) t1
  by_cases hi : 0 ≤ i ∧ i < (Es.length : Int)
  · obtain ⟨k, rfl⟩ := Int.eq_ofNat_of_zero_le hi.1
    have hk : k < Es.length := by omega
    obtain ⟨x, hx⟩ := at_lt hk
    rw [enAt_nat hx]
    obtain ⟨P, c, rfl, hc, hh⟩ := h1.ent
    rcases hh with h0 | ⟨g, rfl, hA, hg, hat⟩
    · rw [h0] at hk; simp at hk
    obtain ⟨cs, hcs, U, rfl, hU⟩ := hat k x hx
    have c1 : W1.cell? ⟨t, 1, none⟩ = some (.slice (some ⟨g, 0, none⟩) Es.length c) := cell_of_row W1 t 1 _ _ _ h1.blk
    have e0 : W1.cell? ⟨g, k * 4, none⟩ = some (.string x.nm) := hcs 0 _ rfl
    have e1 : W1.cell? ⟨g, k * 4 + 1, none⟩ = some (.bool x.face) := hcs 1 _ rfl
    have e2 : W1.cell? ⟨g, k * 4 + 2, none⟩ = some (.int .i64 x.sup) := hcs 2 _ rfl
    have e3 : W1.cell? ⟨g, k * 4 + 3, none⟩ = some U := hcs 3 _ rfl
    obtain ⟨PU, cU, hPU, hcU, hhU⟩ := id hU
    subst hPU
    obtain ⟨N, hN⟩ : ∃ N, Es.length = N := ⟨_, rfl⟩
    obtain ⟨nm, face, sup, rt⟩ := x
    obtain ⟨m, hm⟩ : ∃ m, rt.length = m := ⟨_, rfl⟩
    simp only at e0 e1 e2 e3 hU hcU hhU ⊢
    have d1 : decide (0 ≤ (k : Int) ∧ (k : Int) < (N : Int)) = true := by rw [← hN]; simpa using hk
    have d2 : (k : Int) < (N : Int) := by omega
    have hkN : k < N := by omega
    have f0 : W1.frozen? ⟨r, 0, none⟩ = false := frozen_of_row W1 r 0 _ _ b1
    have f1 : W1.frozen? ⟨r, 1, none⟩ = false := frozen_of_row W1 r 1 _ _ b1
    have f2 : W1.frozen? ⟨r, 2, none⟩ = false := frozen_of_row W1 r 2 _ _ b1
    have f3 : W1.frozen? ⟨r, 3, none⟩ = false := frozen_of_row W1 r 3 _ _ b1
    have z0 : W1.cell? ⟨r, 0, none⟩ = some (.string ⟨#[]⟩) := cell_of_row W1 r 0 _ _ _ b1
    have z1 : W1.cell? ⟨r, 1, none⟩ = some (.bool false) := cell_of_row W1 r 1 _ _ _ b1
    have z2 : W1.cell? ⟨r, 2, none⟩ = some (.int .i64 0) := cell_of_row W1 r 2 _ _ _ b1
    have z3 : W1.cell? ⟨r, 3, none⟩ = some (.slice none 0 0) := cell_of_row W1 r 3 _ _ _ b1
    have HH1 := Lib.hid (HH.out W1 t1)
    rw [hm] at e3
    rw [hN] at HH1 c1
    have HU := Lib.hid hU
    have HT1 := Lib.hid t1
    have HW1 := Lib.hid hW1
    have HR := Lib.hid hr
    have HM := Lib.hid hm
    clear h h1 hx hcs hat hU hhU t1 hW1 b1 hm hN HH hi
    go_enter Tryd.func45, Tryd.ntmps45
    go_wp2_with fail
    rw [HW1.out]
    refine HH1.out.mono ?_
    rintro e w2 ⟨rfl, rfl⟩
    rw [d1]
    go_wp2_with fail
    refine bodyPost_ret (v := .agg #[.string nm, .bool face, .int .i64 sup, .slice PU m cU]) (by simp [results, Tryd.results45, go_sem, z0, z1, z2, z3]) rfl ?_
    rw [← HM.out]
    have tE : Turn [r] W1 ((((W1.setCell ⟨r, 0, none⟩ (.string nm)).setCell ⟨r, 1, none⟩ (.bool face)).setCell ⟨r, 2, none⟩ (.int .i64 sup)).setCell ⟨r, 3, none⟩ (.slice PU rt.length cU)) :=
      ((((Turn.refl [r] W1).setCell (.inl (by simp)) _).setCell (.inl (by simp)) _).setCell (.inl (by simp)) _).setCell (.inl (by simp)) _
    exact ⟨_, rfl, (HU.out.turn goodN tE (by simp)).mono goodN (fun g hg _ => hg.1), HT1.out.trans tE (fun g hg => .inr (by simp at hg; omega))⟩
  · rw [enAt_out hi]
    have d1 : decide (0 ≤ i ∧ i < (Es.length : Int)) = false := by simpa using hi
    have f0 : W1.frozen? ⟨r, 0, none⟩ = false := frozen_of_row W1 r 0 _ _ b1
    have f1 : W1.frozen? ⟨r, 1, none⟩ = false := frozen_of_row W1 r 1 _ _ b1
    have f2 : W1.frozen? ⟨r, 2, none⟩ = false := frozen_of_row W1 r 2 _ _ b1
    have f3 : W1.frozen? ⟨r, 3, none⟩ = false := frozen_of_row W1 r 3 _ _ b1
    have z0 : W1.cell? ⟨r, 0, none⟩ = some (.string ⟨#[]⟩) := cell_of_row W1 r 0 _ _ _ b1
    have z1 : W1.cell? ⟨r, 1, none⟩ = some (.bool false) := cell_of_row W1 r 1 _ _ _ b1
    have z2 : W1.cell? ⟨r, 2, none⟩ = some (.int .i64 0) := cell_of_row W1 r 2 _ _ _ b1
    have z3 : W1.cell? ⟨r, 3, none⟩ = some (.slice none 0 0) := cell_of_row W1 r 3 _ _ _ b1
    have HH1 := Lib.hid (HH.out W1 t1)
    have HT1 := Lib.hid t1
    have HW1 := Lib.hid hW1
    clear h h1 t1 hW1 b1 HH hi
    go_enter Tryd.func45, Tryd.ntmps45
    go_wp2_with fail
    rw [HW1.out]
    refine HH1.out.mono ?_
    rintro e w2 ⟨rfl, rfl⟩
    rw [d1]
    go_wp2_with fail
    refine bodyPost_ret (v := .agg #[.string ⟨#[]⟩, .bool false, .int .i64 (-1), .slice none 0 0]) (by simp [results, Tryd.results45, go_sem, z0, z1, z2, z3]) rfl ?_
    have tE : Turn [r] W1 ((((W1.setCell ⟨r, 0, none⟩ (.string ⟨#[]⟩)).setCell ⟨r, 1, none⟩ (.bool false)).setCell ⟨r, 2, none⟩ (.int .i64 (-1))).setCell ⟨r, 3, none⟩ (.slice none 0 0)) :=
      ((((Turn.refl [r] W1).setCell (.inl (by simp)) _).setCell (.inl (by simp)) _).setCell (.inl (by simp)) _).setCell (.inl (by simp)) _
    exact ⟨_, rfl, RdV.nil _ _ _, HT1.out.trans tE (fun g hg => .inr (by simp at hg; omega))⟩
end Go.Proofs.YtbocejiclellfaaDoor
