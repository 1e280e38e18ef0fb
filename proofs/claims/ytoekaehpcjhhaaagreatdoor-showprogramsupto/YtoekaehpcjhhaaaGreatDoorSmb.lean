/- Rows of statements whose names have no blanks; the lines of rows. -/
import Derived.Test.YtoekaehpcjhhaaaGreatDoorSma
set_option linter.unusedSimpArgs false
set_option linter.unusedVariables false
namespace Go.Proofs.YtoekaehpcjhhaaaGreatDoor
open Go.RowKit

set_option maxHeartbeats 1000000 in
theorem pl_gd (d : Int) (x y z t f : ByteArray) (ag : List ByteArray) (n : Int) (h : big (cat [x, y, z, t, f, cat ag]) = true) : ∀ s ∈ pl d x y z t f ag n, Gd s := by
  have h' := big_iff.1 h
  rw [bs_cat] at h'
  simp only [List.flatMap_cons, List.flatMap_nil, List.append_nil, List.mem_append] at h'
  have hx : ∀ c ∈ bs x, 32 < c.toNat := fun c hc => h' c (by simp [hc])
  have hy : ∀ c ∈ bs y, 32 < c.toNat := fun c hc => h' c (by simp [hc])
  have hz : ∀ c ∈ bs z, 32 < c.toNat := fun c hc => h' c (by simp [hc])
  have ht : ∀ c ∈ bs t, 32 < c.toNat := fun c hc => h' c (by simp [hc])
  have hf : ∀ c ∈ bs f, 32 < c.toNat := fun c hc => h' c (by simp [hc])
  have ha : ∀ c ∈ bs (cat ag), 32 < c.toNat := fun c hc => h' c (by simp [hc])
  have x10 := no10 hx
  have y10 := no10 hy
  have z10 := no10 hz
  have t10 := no10 ht
  have f10 := no10 hf
  have i10 := no10 (itoa_big n)
  have j10 : (10 : UInt8) ∉ Lib.join (ag.map bs) [44, 32] := join_no10 _ (by decide) _ (by
    intro a hm
    obtain ⟨b, hb, rfl⟩ := List.mem_map.1 hm
    refine no10 fun c hc => ha c ?_
    rw [bs_cat]
    exact List.mem_flatMap.2 ⟨b, hb, hc⟩)
  have gtgt : ∀ {l : List UInt8}, Gh l → Gh (bs (tgt x) ++ l) := by
    intro l hl
    unfold tgt
    split
    · exact hl
    · rw [bs_append, List.append_assoc]
      exact Gh.after hx ((gh2 _ _ _ (by decide) : Gh _).app _)
  have g10 : (10 : UInt8) ∉ bs (tgt x) := by
    unfold tgt
    split
    · simp [bs_lit]
    · rw [bs_append]; simp [x10, bs_lit]
  intro s hs'
  rw [Option.mem_def, pl] at hs'
  by_cases h_0 : d = 0
  · rw [if_pos h_0] at hs'
    injection hs' with hs'
    subst hs'
    unfold Gd
    rw [bs_cat]
    simp only [List.flatMap_cons, List.flatMap_nil, List.append_nil, bs_lit, bs_mk]
    exact ⟨Gh.after hx ((gh2 _ _ _ (by decide) : Gh _).app _), by simp [x10, y10, z10, t10, f10, i10]⟩
  rw [if_neg h_0] at hs'
  by_cases h_1 : d = 1
  · rw [if_pos h_1] at hs'
    injection hs' with hs'
    subst hs'
    unfold Gd
    rw [bs_cat]
    simp only [List.flatMap_cons, List.flatMap_nil, List.append_nil, bs_lit, bs_mk]
    exact ⟨Gh.after hx ((gh2 _ _ _ (by decide) : Gh _).app _), by simp [x10, y10, z10, t10, f10, i10]⟩
  rw [if_neg h_1] at hs'
  by_cases h_2 : d = 2
  · rw [if_pos h_2] at hs'
    injection hs' with hs'
    subst hs'
    unfold Gd
    rw [bs_cat]
    simp only [List.flatMap_cons, List.flatMap_nil, List.append_nil, bs_lit, bs_mk]
    exact ⟨Gh.after hx ((gh2 _ _ _ (by decide) : Gh _)), by simp [x10, y10, z10, t10, f10, i10]⟩
  rw [if_neg h_2] at hs'
  by_cases h_3 : d = 3
  · rw [if_pos h_3] at hs'
    injection hs' with hs'
    subst hs'
    unfold Gd
    rw [bs_cat]
    simp only [List.flatMap_cons, List.flatMap_nil, List.append_nil, bs_lit, bs_mk]
    exact ⟨Gh.after hx ((gh2 _ _ _ (by decide) : Gh _).app _), by simp [x10, y10, z10, t10, f10, i10]⟩
  rw [if_neg h_3] at hs'
  by_cases h_4 : d = 4
  · rw [if_pos h_4] at hs'
    injection hs' with hs'
    subst hs'
    unfold Gd
    rw [bs_cat]
    simp only [List.flatMap_cons, List.flatMap_nil, List.append_nil, bs_lit, bs_mk]
    exact ⟨Gh.after hx ((gh2 _ _ _ (by decide) : Gh _).app _), by simp [x10, y10, z10, t10, f10, i10]⟩
  rw [if_neg h_4] at hs'
  by_cases h_5 : d = 5
  · rw [if_pos h_5] at hs'
    injection hs' with hs'
    subst hs'
    unfold Gd
    rw [bs_cat]
    simp only [List.flatMap_cons, List.flatMap_nil, List.append_nil, bs_lit, bs_mk]
    exact ⟨Gh.after hx ((gh2 _ _ _ (by decide) : Gh _).app _), by simp [x10, y10, z10, t10, f10, i10]⟩
  rw [if_neg h_5] at hs'
  by_cases h_6 : d = 6
  · rw [if_pos h_6] at hs'
    injection hs' with hs'
    subst hs'
    unfold Gd
    rw [bs_cat]
    simp only [List.flatMap_cons, List.flatMap_nil, List.append_nil, bs_lit, bs_mk]
    exact ⟨Gh.after hx ((gh1 _ _ (by decide) : Gh _).app _), by simp [x10, y10, z10, t10, f10, i10]⟩
  rw [if_neg h_6] at hs'
  by_cases h_7 : d = 7
  · rw [if_pos h_7] at hs'
    injection hs' with hs'
    subst hs'
    unfold Gd
    rw [bs_cat]
    simp only [List.flatMap_cons, List.flatMap_nil, List.append_nil, bs_lit, bs_mk]
    exact ⟨Gh.after hx ((gh2 _ _ _ (by decide) : Gh _).app _), by simp [x10, y10, z10, t10, f10, i10]⟩
  rw [if_neg h_7] at hs'
  by_cases h_8 : d = 8
  · rw [if_pos h_8] at hs'
    injection hs' with hs'
    subst hs'
    unfold Gd
    rw [bs_cat]
    simp only [List.flatMap_cons, List.flatMap_nil, List.append_nil, bs_lit, bs_mk]
    exact ⟨Gh.after ht ((gh1 _ _ (by decide) : Gh _).app _), by simp [x10, y10, z10, t10, f10, i10]⟩
  rw [if_neg h_8] at hs'
  by_cases h_9 : d = 9
  · rw [if_pos h_9] at hs'
    injection hs' with hs'
    subst hs'
    unfold Gd
    rw [bs_cat]
    simp only [List.flatMap_cons, List.flatMap_nil, List.append_nil, bs_lit, bs_mk]
    exact ⟨Gh.after hx ((gh2 _ _ _ (by decide) : Gh _).app _), by simp [x10, y10, z10, t10, f10, i10]⟩
  rw [if_neg h_9] at hs'
  by_cases h_10 : d = 10
  · rw [if_pos h_10] at hs'
    injection hs' with hs'
    subst hs'
    unfold Gd
    rw [bs_cat]
    simp only [List.flatMap_cons, List.flatMap_nil, List.append_nil, bs_lit, bs_mk]
    exact ⟨Gh.after hx ((gh1 _ _ (by decide) : Gh _).app _), by simp [x10, y10, z10, t10, f10, i10]⟩
  rw [if_neg h_10] at hs'
  by_cases h_11 : d = 11
  · rw [if_pos h_11] at hs'
    injection hs' with hs'
    subst hs'
    unfold Gd callT
    rw [bs_cat]
    simp only [List.flatMap_cons, List.flatMap_nil, List.append_nil, bs_lit, bs_mk, bs_cat, bs_jn]
    refine ⟨gtgt (Gh.app (Gh.after hy ((gh1 _ _ (by decide) : Gh _).app _)) _), by simp [x10, y10, z10, t10, f10, i10, j10, g10]⟩
  rw [if_neg h_11] at hs'
  by_cases h_12 : d = 12
  · rw [if_pos h_12] at hs'
    injection hs' with hs'
    subst hs'
    unfold Gd callT
    rw [bs_cat]
    simp only [List.flatMap_cons, List.flatMap_nil, List.append_nil, bs_lit, bs_mk, bs_cat, bs_jn]
    refine ⟨gtgt (Gh.app (Gh.after hy ((gh1 _ _ (by decide) : Gh _).app _)) _), by simp [x10, y10, z10, t10, f10, i10, j10, g10]⟩
  rw [if_neg h_12] at hs'
  by_cases h_13 : d = 13
  · rw [if_pos h_13] at hs'
    injection hs' with hs'
    subst hs'
    unfold Gd callT
    rw [bs_cat]
    simp only [List.flatMap_cons, List.flatMap_nil, List.append_nil, bs_lit, bs_mk, bs_cat, bs_jn]
    refine ⟨gtgt (Gh.app (Gh.after ht ((gh1 _ _ (by decide) : Gh _).app _)) _), by simp [x10, y10, z10, t10, f10, i10, j10, g10]⟩
  rw [if_neg h_13] at hs'
  by_cases h_14 : d = 14
  · rw [if_pos h_14] at hs'
    injection hs' with hs'
    subst hs'
    unfold Gd
    rw [bs_cat]
    simp only [List.flatMap_cons, List.flatMap_nil, List.append_nil, bs_lit, bs_mk]
    exact ⟨Gh.after hx ((gh2 _ _ _ (by decide) : Gh _).app _), by simp [x10, y10, z10, t10, f10, i10]⟩
  rw [if_neg h_14] at hs'
  by_cases h_15 : d = 15
  · rw [if_pos h_15] at hs'
    injection hs' with hs'
    subst hs'
    unfold Gd
    rw [bs_cat]
    simp only [List.flatMap_cons, List.flatMap_nil, List.append_nil, bs_lit, bs_mk]
    exact ⟨Gh.after hx ((gh2 _ _ _ (by decide) : Gh _).app _), by simp [x10, y10, z10, t10, f10, i10]⟩
  rw [if_neg h_15] at hs'
  by_cases h_16 : d = 16
  · rw [if_pos h_16] at hs'
    injection hs' with hs'
    subst hs'
    unfold Gd
    rw [bs_cat]
    simp only [List.flatMap_cons, List.flatMap_nil, List.append_nil, bs_lit, bs_mk]
    exact ⟨Gh.after hx ((gh2 _ _ _ (by decide) : Gh _).app _), by simp [x10, y10, z10, t10, f10, i10]⟩
  rw [if_neg h_16] at hs'
  by_cases h_17 : d = 17
  · rw [if_pos h_17] at hs'
    injection hs' with hs'
    subst hs'
    unfold Gd
    rw [bs_cat]
    simp only [List.flatMap_cons, List.flatMap_nil, List.append_nil, bs_lit, bs_mk]
    exact ⟨Gh.after hx ((gh2 _ _ _ (by decide) : Gh _)), by simp [x10, y10, z10, t10, f10, i10]⟩
  rw [if_neg h_17] at hs'
  by_cases h_18 : d = 18
  · rw [if_pos h_18] at hs'
    injection hs' with hs'
    subst hs'
    unfold Gd
    rw [bs_cat]
    simp only [List.flatMap_cons, List.flatMap_nil, List.append_nil, bs_lit, bs_mk]
    exact ⟨(gh1 _ _ (by decide) : Gh _).app _, by simp [x10, y10, z10, t10, f10, i10]⟩
  rw [if_neg h_18] at hs'
  by_cases h_22 : d = 22
  · rw [if_pos h_22] at hs'
    injection hs' with hs'
    subst hs'
    unfold Gd retT
    split
    · rw [bs_cat]
      simp only [List.flatMap_cons, List.flatMap_nil, List.append_nil, bs_lit, bs_mk]
      exact ⟨gh1 _ _ (by decide), by simp⟩
    · rw [bs_cat]
      simp only [List.flatMap_cons, List.flatMap_nil, List.append_nil, bs_lit, bs_mk]
      exact ⟨(gh1 _ _ (by decide) : Gh _).app _, by simp [x10]⟩
  rw [if_neg h_22] at hs'
  cases hs'

theorem gd_lit (a : UInt8) (r : List UInt8) (xs : List ByteArray) (ha : a ≠ 32) (h10 : (10 : UInt8) ∉ a :: r) (hx : ∀ x ∈ xs, (10 : UInt8) ∉ bs x) : Gd (cat (⟨(a :: r).toArray⟩ :: xs)) := by
  unfold Gd
  rw [bs_cat, List.flatMap_cons]
  refine ⟨(gh1 _ _ ha : Gh (a :: r)).app _, ?_⟩
  rw [List.mem_append, not_or]
  refine ⟨h10, fun h => ?_⟩
  obtain ⟨x, hm, hc⟩ := List.mem_flatMap.1 h
  exact hx x hm hc

mutual
theorem rw1_gd (D : Nat) : ∀ (s : St), nmS s = true → ∀ r ∈ rw1 D s, Gd r.2
  | .mk d x y z t f ag n bd ot ln cl, h => by
    rw [nmS_eq, Bool.and_eq_true, Bool.and_eq_true] at h
    have ib := rwL_gd (D + 1) bd h.2.1
    have io := rwL_gd (D + 1) ot h.2.2
    have h' := big_iff.1 h.1
    rw [bs_cat] at h'
    simp only [List.flatMap_cons, List.flatMap_nil, List.append_nil, List.mem_append] at h'
    have x10 := no10 (x := bs x) fun c hc => h' c (by simp [hc])
    have y10 := no10 (x := bs y) fun c hc => h' c (by simp [hc])
    have z10 := no10 (x := bs z) fun c hc => h' c (by simp [hc])
    have t10 := no10 (x := bs t) fun c hc => h' c (by simp [hc])
    have h1 : Gd tryT := gd_lit _ _ _ (by decide) (by decide) (by simp)
    have h2 : Gd (catchT t x) := gd_lit _ _ _ (by decide) (by decide) (by simp [t10, x10, bs_lit])
    have h3 : Gd (ifT y z) := gd_lit _ _ _ (by decide) (by decide) (by simp [y10, z10, bs_lit])
    have h4 : Gd (whileT y z) := gd_lit _ _ _ (by decide) (by decide) (by simp [y10, z10, bs_lit])
    have h5 : Gd elseT := gd_lit _ _ _ (by decide) (by decide) (by simp)
    have h6 : Gd shutT := gd_lit _ _ _ (by decide) (by decide) (by simp)
    by_cases h19 : d = 19
    · subst h19
      rw [rw1_try]
      intro r hr
      simp only [List.mem_append, List.mem_singleton] at hr
      rcases hr with (((rfl | hr) | rfl) | hr) | rfl
      · exact h1
      · exact ib r hr
      · exact h2
      · exact io r hr
      · exact h6
    · by_cases h20 : d = 20
      · subst h20
        rw [rw1_if]
        intro r hr
        simp only [List.mem_append, List.mem_singleton] at hr
        rcases hr with ((rfl | hr) | hr) | rfl
        · exact h3
        · exact ib r hr
        · split at hr
          · simp at hr
          · simp only [List.mem_append, List.mem_singleton] at hr
            rcases hr with rfl | hr
            · exact h5
            · exact io r hr
        · exact h6
      · by_cases h21 : d = 21
        · subst h21
          rw [rw1_while]
          intro r hr
          simp only [List.mem_append, List.mem_singleton] at hr
          rcases hr with (rfl | hr) | rfl
          · exact h4
          · exact ib r hr
          · exact h6
        · rw [rw1_plain h19 h20 h21]
          intro r hr
          obtain ⟨s, hs', rfl⟩ := List.mem_map.1 hr
          exact pl_gd d x y z t f ag n h.1 s (by simpa using hs')
theorem rwL_gd (D : Nat) : ∀ (l : List St), nmL l = true → ∀ r ∈ rwL D l, Gd r.2
  | [], _ => by rw [rwL_nil]; simp
  | s :: l, h => by
    rw [nmL_cons, Bool.and_eq_true] at h
    rw [rwL_cons]
    intro r hr
    rcases List.mem_append.1 hr with hr | hr
    · exact rw1_gd D s h.1 r hr
    · exact rwL_gd D l h.2 r hr
end

/-- What the lines of a row's text are told by: how many blanks ahead, what is behind them. -/
def tl (t : ByteArray) : ByteArray := mk (Lib.trimLeftB (bs t) 32)
def pc (a : Nat) (t : ByteArray) : Row := (a + t.size - (tl t).size, tl t)
def lnsP : Nat → List ByteArray → List Row
  | _, [] => []
  | a, t :: ts => pc a t :: lnsP 0 ts
def pcs (X : ByteArray) : List ByteArray := Lib.splitB ⟨#[10]⟩ 0 (Lib.countB X ⟨#[10]⟩) X
def lns (R : List Row) : List Row := R.flatMap fun r => lnsP (2 * r.1) (pcs r.2)

theorem tl_le (t : ByteArray) : (tl t).size ≤ t.size := by
  rw [size_bs, size_bs, tl, bs_mk]
  exact (List.dropWhile_sublist _).length_le
theorem index_no10 : ∀ {l : List UInt8}, (10 : UInt8) ∉ l → Lib.index l [10] = -1
  | [], _ => rfl
  | b :: l, h => by
    have h1 : ¬ (10 : UInt8) = b := fun e => h (by simp [e])
    have h2 := index_no10 (l := l) fun hc => h (by simp [hc])
    unfold Lib.index
    rw [if_neg (by simp [List.isPrefixOf, h1]), h2]
    rfl
theorem pcs_no10 {X : ByteArray} (h : (10 : UInt8) ∉ bs X) : pcs X = [X] := by
  unfold pcs
  exact Lib.splitB_miss _ _ _ _ (index_no10 h)
theorem lns_gd {R : List Row} (h : ∀ r ∈ R, Gd r.2) : lns R = R.map fun r => pc (2 * r.1) r.2 := by
  unfold lns
  induction R with
  | nil => rfl
  | cons r R ih =>
    rw [List.flatMap_cons, ih fun q hq => h q (by simp [hq]), pcs_no10 (h r (by simp)).2]
    rfl

theorem lead (l : List UInt8) : l = List.replicate (l.length - (l.dropWhile (· == 32)).length) 32 ++ l.dropWhile (· == 32) := by
  induction l with
  | nil => rfl
  | cons a l ih =>
    by_cases ha : a = 32
    · subst ha
      have hle : (l.dropWhile (· == 32)).length ≤ l.length := (List.dropWhile_sublist _).length_le
      rw [List.dropWhile_cons_of_pos (by rfl), List.length_cons, Nat.succ_sub hle, List.replicate_succ, List.cons_append, ← ih]
    · rw [List.dropWhile_cons_of_neg (by simpa using ha), Nat.sub_self]
      rfl
theorem drop_rep (m : Nat) (l : List UInt8) : (List.replicate m 32 ++ l).dropWhile (· == 32) = l.dropWhile (· == 32) := by
  induction m with
  | zero => rfl
  | succ m ih => rw [List.replicate_succ, List.cons_append, List.dropWhile_cons_of_pos (by rfl), ih]
theorem pc_ln (a : Nat) (X : ByteArray) : List.replicate a 32 ++ bs X = List.replicate (pc a X).1 32 ++ bs (pc a X).2 := by
  have hle := tl_le X
  have e1 : (pc a X).1 = a + ((bs X).length - ((bs X).dropWhile (· == 32)).length) := by
    unfold pc
    simp only
    rw [size_bs, size_bs, tl, bs_mk]
    unfold Lib.trimLeftB
    have : ((bs X).dropWhile (· == 32)).length ≤ (bs X).length := (List.dropWhile_sublist _).length_le
    omega
  have e2 : bs (pc a X).2 = (bs X).dropWhile (· == 32) := by unfold pc tl; simp only; rw [bs_mk]; rfl
  rw [e1, e2, ← List.replicate_append_replicate, List.append_assoc, ← lead]
theorem pc_inj (a b : Nat) (X Y : ByteArray) : pc a X = pc b Y ↔ List.replicate a 32 ++ bs X = List.replicate b 32 ++ bs Y := by
  constructor
  · intro h
    rw [pc_ln, h, ← pc_ln]
  · intro h
    have h1 : (bs X).dropWhile (· == 32) = (bs Y).dropWhile (· == 32) := by rw [← drop_rep a, ← drop_rep b (bs Y), h]
    have h2 : tl X = tl Y := by unfold tl Lib.trimLeftB; rw [h1]
    have h3 : a + X.size = b + Y.size := by
      have := congrArg List.length h
      simpa [← size_bs] using this
    unfold pc
    rw [h2, h3]
theorem map_iff {α β γ : Type} (f : α → β) (g : α → γ) (h : ∀ a b, f a = f b ↔ g a = g b) : ∀ (l m : List α), l.map f = m.map f ↔ l.map g = m.map g
  | [], [] => by simp
  | [], b :: m => by simp
  | a :: l, [] => by simp
  | a :: l, b :: m => by simp [h a b, map_iff f g h l m]
/-- Lines are told alike just if they are. -/
theorem lns_iff {R S : List Row} (hR : ∀ r ∈ R, Gd r.2) (hS : ∀ r ∈ S, Gd r.2) : lns R = lns S ↔ R.map ln = S.map ln := by
  rw [lns_gd hR, lns_gd hS]
  refine map_iff _ _ (fun a b => ?_) R S
  rw [pc_inj]
  unfold ln
  constructor
  · intro h; rw [h]
  · intro h
    have := congrArg bs h
    rwa [bs_mk, bs_mk] at this

theorem cut10 : ∀ {a b m n : List UInt8}, (10 : UInt8) ∉ a → (10 : UInt8) ∉ b → a ++ 10 :: m = b ++ 10 :: n → a = b ∧ m = n
  | [], [], m, n, _, _, h => by simpa using h
  | [], c :: b, m, n, _, hb, h => by
    simp at h
    exact absurd (by simp [← h.1]) hb
  | c :: a, [], m, n, ha, _, h => by
    simp at h
    exact absurd (by simp [h.1]) ha
  | c :: a, d :: b, m, n, ha, hb, h => by
    rw [List.cons_append, List.cons_append] at h
    injection h with h1 h2
    obtain ⟨e1, e2⟩ := cut10 (fun hc => ha (by simp [hc])) (fun hc => hb (by simp [hc])) h2
    exact ⟨by rw [h1, e1], e2⟩
theorem tail_inj : ∀ {l m : List (List UInt8)} {a b : List UInt8}, l.length = m.length → (10 : UInt8) ∉ a → (10 : UInt8) ∉ b → (∀ x ∈ l, (10 : UInt8) ∉ x) → (∀ x ∈ m, (10 : UInt8) ∉ x) → a ++ Lib.joinTail [10] l = b ++ Lib.joinTail [10] m → a = b ∧ l = m
  | [], [], a, b, _, _, _, _, _, h => by simpa [Lib.joinTail] using h
  | [], _ :: _, a, b, h, _, _, _, _, _ => by simp at h
  | _ :: _, [], a, b, h, _, _, _, _, _ => by simp at h
  | c :: l, d :: m, a, b, hl, ha, hb, h1, h2, h => by
    have e : ∀ (q : List UInt8) (r : List (List UInt8)), Lib.joinTail [10] (q :: r) = 10 :: (q ++ Lib.joinTail [10] r) := fun q r => by simp [Lib.joinTail]
    rw [e, e] at h
    obtain ⟨e1, e2⟩ := cut10 ha hb h
    obtain ⟨e3, e4⟩ := tail_inj (by simpa using hl) (h1 c (by simp)) (h2 d (by simp)) (fun x hx => h1 x (by simp [hx])) (fun x hx => h2 x (by simp [hx])) e2
    exact ⟨e1, by rw [e3, e4]⟩
theorem jn_inj {L M : List ByteArray} (hl : L.length = M.length) (h1 : ∀ x ∈ L, (10 : UInt8) ∉ bs x) (h2 : ∀ x ∈ M, (10 : UInt8) ∉ bs x) (h : jn L ⟨#[10]⟩ = jn M ⟨#[10]⟩) : L = M := by
  have h' := congrArg bs h
  rw [bs_jn, bs_jn] at h'
  cases L with
  | nil =>
    cases M with
    | nil => rfl
    | cons b M => simp at hl
  | cons a L =>
    cases M with
    | nil => simp at hl
    | cons b M =>
      rw [List.map_cons, List.map_cons, Lib.join_cons, Lib.join_cons] at h'
      obtain ⟨e1, e2⟩ := tail_inj (by simpa using hl) (h1 a (by simp)) (h2 b (by simp)) (by
        intro x hx
        obtain ⟨y, hy, rfl⟩ := List.mem_map.1 hx
        exact h1 y (by simp [hy])) (by
        intro x hx
        obtain ⟨y, hy, rfl⟩ := List.mem_map.1 hx
        exact h2 y (by simp [hy])) h'
      rw [bs_inj e1]
      congr 1
      have := congrArg (List.map mk) e2
      rw [List.map_map, List.map_map] at this
      have hid : (mk ∘ bs) = id := funext mk_bs
      rwa [hid, List.map_id, List.map_id] at this
theorem ln_no10 {r : Row} (h : Gd r.2) : (10 : UInt8) ∉ bs (ln r) := by
  unfold ln
  rw [bs_mk, List.mem_append, not_or]
  exact ⟨fun hc => absurd (List.eq_of_mem_replicate hc) (by decide), h.2⟩
/-- The document's answer on two lists of statements. -/
theorem same_iff {R S : List Row} (hR : ∀ r ∈ R, Gd r.2) (hS : ∀ r ∈ S, Gd r.2) : (R.length = S.length ∧ jn (R.map ln) ⟨#[10]⟩ = jn (S.map ln) ⟨#[10]⟩) ↔ lns R = lns S := by
  rw [lns_iff hR hS]
  constructor
  · rintro ⟨h1, h2⟩
    refine jn_inj (by simpa using h1) ?_ ?_ h2
    · intro x hx
      obtain ⟨r, hr, rfl⟩ := List.mem_map.1 hx
      exact ln_no10 (hR r hr)
    · intro x hx
      obtain ⟨r, hr, rfl⟩ := List.mem_map.1 hx
      exact ln_no10 (hS r hr)
  · intro h
    exact ⟨by simpa using congrArg List.length h, by rw [h]⟩
end Go.Proofs.YtoekaehpcjhhaaaGreatDoor
