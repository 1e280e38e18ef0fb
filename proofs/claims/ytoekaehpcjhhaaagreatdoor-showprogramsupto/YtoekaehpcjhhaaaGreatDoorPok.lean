/- How much rows make up. -/
import Derived.Test.YtoekaehpcjhhaaaGreatDoorSmb
import Derived.Test.YtoekaehpcjhhaaaGreatDoorPtx
import Derived.Test.YtoekaehpcjhhaaaGreatDoorLns
import Derived.Test.YtoekaehpcjhhaaaGreatDoorRmt
set_option linter.unusedSimpArgs false
set_option linter.unusedVariables false
namespace Go.Proofs.YtoekaehpcjhhaaaGreatDoor
open Go.RowKit

theorem tail_len (sep : List UInt8) : ∀ (l : List (List UInt8)), (Lib.joinTail sep l).length = (l.map List.length).sum + l.length * sep.length
  | [] => by simp [Lib.joinTail]
  | a :: l => by
    have := tail_len sep l
    unfold Lib.joinTail at this ⊢
    simp only [List.map_cons, List.flatten_cons, List.length_append, List.sum_cons, List.length_cons, Nat.add_mul, Nat.one_mul] at this ⊢
    omega
theorem jn_cat_le (ag : List ByteArray) (sep : ByteArray) : (jn ag sep).size ≤ (cat ag).size + ag.length * sep.size := by
  rw [size_bs, bs_jn, size_cat]
  cases ag with
  | nil => simp [Lib.join_nil]
  | cons a l =>
    rw [List.map_cons, Lib.join_cons, List.length_append, tail_len, List.map_cons, List.sum_cons, List.length_cons, Nat.add_mul, List.length_map, List.map_map, ← size_bs, ← size_bs]
    have : (List.map (List.length ∘ bs) l).sum = (List.map (fun x => x.size) l).sum := by
      congr 1
    omega

theorem pl_tight (d : Int) (x y z t f : ByteArray) (ag : List ByteArray) (n : Int) (hs : x.size + y.size + z.size + t.size + f.size ≤ 100) (ha : ag.length ≤ 8) (hc : (cat ag).size ≤ 100) (hn : -9223372036854775808 ≤ n ∧ n ≤ 9223372036854775807) :
    ∀ s ∈ (pl d x y z t f ag n), 0 < s.size ∧ s.size ≤ 1000 := by
  have hi : (mk (Lib.itoa n)).size ≤ 21 := by rw [size_bs, bs_mk]; exact Lib.itoa_length_le n hn.1 hn.2
  have hj : (jn ag ⟨#[44, 32]⟩).size ≤ 116 := by
    have h1 := jn_cat_le ag ⟨#[44, 32]⟩
    have h2 : (⟨#[44, 32]⟩ : ByteArray).size = 2 := rfl
    rw [h2] at h1
    omega
  have ht : (tgt x).size ≤ x.size + 3 := by
    unfold tgt
    split
    · rename_i h0; rw [h0]; decide
    · rw [size_app, show (⟨#[32, 61, 32]⟩ : ByteArray).size = 3 from rfl]; omega
  have hr : 0 < (retT x).size ∧ (retT x).size ≤ 1000 := by
    unfold retT
    split <;> rw [size_cat] <;> simp [sz_lit] <;> omega
  intro s hs'
  rw [Option.mem_def, pl] at hs'
  by_cases h_0 : d = 0
  · rw [if_pos h_0] at hs'
    injection hs' with hs'
    subst hs'
    rw [size_cat]; simp [sz_lit]; omega
  rw [if_neg h_0] at hs'
  by_cases h_1 : d = 1
  · rw [if_pos h_1] at hs'
    injection hs' with hs'
    subst hs'
    rw [size_cat]; simp [sz_lit]; omega
  rw [if_neg h_1] at hs'
  by_cases h_2 : d = 2
  · rw [if_pos h_2] at hs'
    injection hs' with hs'
    subst hs'
    rw [size_cat]; simp [sz_lit]; omega
  rw [if_neg h_2] at hs'
  by_cases h_3 : d = 3
  · rw [if_pos h_3] at hs'
    injection hs' with hs'
    subst hs'
    rw [size_cat]; simp [sz_lit]; omega
  rw [if_neg h_3] at hs'
  by_cases h_4 : d = 4
  · rw [if_pos h_4] at hs'
    injection hs' with hs'
    subst hs'
    rw [size_cat]; simp [sz_lit]; omega
  rw [if_neg h_4] at hs'
  by_cases h_5 : d = 5
  · rw [if_pos h_5] at hs'
    injection hs' with hs'
    subst hs'
    rw [size_cat]; simp [sz_lit]; omega
  rw [if_neg h_5] at hs'
  by_cases h_6 : d = 6
  · rw [if_pos h_6] at hs'
    injection hs' with hs'
    subst hs'
    rw [size_cat]; simp [sz_lit]; omega
  rw [if_neg h_6] at hs'
  by_cases h_7 : d = 7
  · rw [if_pos h_7] at hs'
    injection hs' with hs'
    subst hs'
    rw [size_cat]; simp [sz_lit]; omega
  rw [if_neg h_7] at hs'
  by_cases h_8 : d = 8
  · rw [if_pos h_8] at hs'
    injection hs' with hs'
    subst hs'
    rw [size_cat]; simp [sz_lit]; omega
  rw [if_neg h_8] at hs'
  by_cases h_9 : d = 9
  · rw [if_pos h_9] at hs'
    injection hs' with hs'
    subst hs'
    rw [size_cat]; simp [sz_lit]; omega
  rw [if_neg h_9] at hs'
  by_cases h_10 : d = 10
  · rw [if_pos h_10] at hs'
    injection hs' with hs'
    subst hs'
    rw [size_cat]; simp [sz_lit]; omega
  rw [if_neg h_10] at hs'
  by_cases h_11 : d = 11
  · rw [if_pos h_11] at hs'
    injection hs' with hs'
    subst hs'
    unfold callT; rw [size_cat]; simp [sz_lit, size_cat]; omega
  rw [if_neg h_11] at hs'
  by_cases h_12 : d = 12
  · rw [if_pos h_12] at hs'
    injection hs' with hs'
    subst hs'
    unfold callT; rw [size_cat]; simp [sz_lit, size_cat]; omega
  rw [if_neg h_12] at hs'
  by_cases h_13 : d = 13
  · rw [if_pos h_13] at hs'
    injection hs' with hs'
    subst hs'
    unfold callT; rw [size_cat]; simp [sz_lit, size_cat]; omega
  rw [if_neg h_13] at hs'
  by_cases h_14 : d = 14
  · rw [if_pos h_14] at hs'
    injection hs' with hs'
    subst hs'
    rw [size_cat]; simp [sz_lit]; omega
  rw [if_neg h_14] at hs'
  by_cases h_15 : d = 15
  · rw [if_pos h_15] at hs'
    injection hs' with hs'
    subst hs'
    rw [size_cat]; simp [sz_lit]; omega
  rw [if_neg h_15] at hs'
  by_cases h_16 : d = 16
  · rw [if_pos h_16] at hs'
    injection hs' with hs'
    subst hs'
    rw [size_cat]; simp [sz_lit]; omega
  rw [if_neg h_16] at hs'
  by_cases h_17 : d = 17
  · rw [if_pos h_17] at hs'
    injection hs' with hs'
    subst hs'
    rw [size_cat]; simp [sz_lit]; omega
  rw [if_neg h_17] at hs'
  by_cases h_18 : d = 18
  · rw [if_pos h_18] at hs'
    injection hs' with hs'
    subst hs'
    rw [size_cat]; simp [sz_lit]; omega
  rw [if_neg h_18] at hs'
  by_cases h_22 : d = 22
  · rw [if_pos h_22] at hs'
    injection hs' with hs'
    subst hs'
    exact hr
  rw [if_neg h_22] at hs'
  cases hs'


theorem mem_rwL {D : Nat} {r : Row} : ∀ {l : List St}, r ∈ rwL D l → ∃ s ∈ l, r ∈ rw1 D s
  | [], h => by rw [rwL_nil] at h; simp at h
  | s :: l, h => by
    rw [rwL_cons] at h
    rcases List.mem_append.1 h with h | h
    · exact ⟨s, by simp, h⟩
    · obtain ⟨u, hu, hr⟩ := mem_rwL h
      exact ⟨u, by simp [hu], hr⟩
theorem rwL_tight : ∀ (k : Nat) (l : List St) (D : Nat), smL k l = true → OkL l → ∀ r ∈ rwL D l, r.2.size ≤ 1000 ∧ r.1 + 1 ≤ D + k
  | 0, l, D, h, _ => by
    have : l = [] := List.eq_nil_of_length_eq_zero (by simpa [smL] using h)
    subst this
    rw [rwL_nil]
    simp
  | k + 1, l, D, h, ho => by
    rw [smL_succ, Bool.and_eq_true, decide_eq_true_eq, List.all_eq_true] at h
    intro r hr
    obtain ⟨s, hs, hr⟩ := mem_rwL hr
    have hsm := h.2 s hs
    have hok := OkL_mem ho hs
    obtain ⟨d, x, y, z, t, f, ag, n, bd, ot, lin, cl⟩ := s
    obtain ⟨p1, p2, p3, p4, p5⟩ := smS_parts hsm
    obtain ⟨_, hn, _, _, _, hob, hoo⟩ := hok.parts
    have ib := rwL_tight k bd (D + 1) p4 hob
    have io := rwL_tight k ot (D + 1) p5 hoo
    have h1 : tryT.size ≤ 1000 := by decide
    have h2 : (catchT t x).size ≤ 1000 := by unfold catchT; rw [size_cat]; simp [sz_lit]; omega
    have h3 : (ifT y z).size ≤ 1000 := by unfold ifT; rw [size_cat]; simp [sz_lit]; omega
    have h4 : (whileT y z).size ≤ 1000 := by unfold whileT; rw [size_cat]; simp [sz_lit]; omega
    have h5 : elseT.size ≤ 1000 := by decide
    have h6 : shutT.size ≤ 1000 := by decide
    by_cases h19 : d = 19
    · subst h19
      rw [rw1_try] at hr
      simp only [List.mem_append, List.mem_singleton] at hr
      rcases hr with (((rfl | hr) | rfl) | hr) | rfl
      · exact ⟨h1, by omega⟩
      · have := ib r hr; exact ⟨this.1, by omega⟩
      · exact ⟨h2, by omega⟩
      · have := io r hr; exact ⟨this.1, by omega⟩
      · exact ⟨h6, by omega⟩
    · by_cases h20 : d = 20
      · subst h20
        rw [rw1_if] at hr
        simp only [List.mem_append, List.mem_singleton] at hr
        rcases hr with ((rfl | hr) | hr) | rfl
        · exact ⟨h3, by omega⟩
        · have := ib r hr; exact ⟨this.1, by omega⟩
        · split at hr
          · simp at hr
          · simp only [List.mem_append, List.mem_singleton] at hr
            rcases hr with rfl | hr
            · exact ⟨h5, by omega⟩
            · have := io r hr; exact ⟨this.1, by omega⟩
        · exact ⟨h6, by omega⟩
      · by_cases h21 : d = 21
        · subst h21
          rw [rw1_while] at hr
          simp only [List.mem_append, List.mem_singleton] at hr
          rcases hr with (rfl | hr) | rfl
          · exact ⟨h4, by omega⟩
          · have := ib r hr; exact ⟨this.1, by omega⟩
          · exact ⟨h6, by omega⟩
        · rw [rw1_plain h19 h20 h21] at hr
          obtain ⟨s, hs', rfl⟩ := List.mem_map.1 hr
          exact ⟨(pl_tight d x y z t f ag n p1 p2 p3 hn s (by simpa using hs')).2, by show D + 1 ≤ D + (k + 1); omega⟩

/-- How many octets rows make. -/
theorem txL_append (R S : List Row) : (txL (R ++ S)).length = (txL R).length + (txL S).length := by unfold txL; rw [List.flatMap_append, List.length_append]
theorem txL_le (k m : Nat) : ∀ (R : List Row), (∀ r ∈ R, r.2.size ≤ k ∧ r.1 ≤ m) → (txL R).length ≤ R.length * (2 * m + k + 1)
  | [], _ => by simp [txL]
  | r :: R, h => by
    have h1 := txL_le k m R fun q hq => h q (by simp [hq])
    have h2 := h r (by simp)
    have e : txL (r :: R) = (List.replicate (2 * r.1) 32 ++ bs r.2 ++ [10]) ++ txL R := by unfold txL; rw [List.flatMap_cons]; unfold ln; rw [bs_mk]
    rw [e, List.length_append, List.length_append, List.length_append, List.length_replicate, ← size_bs, List.length_cons, List.length_cons, List.length_nil, Nat.add_mul]
    omega
theorem lns_le : ∀ (R : List Row), (lns R).length ≤ (txL R).length
  | [] => by simp [lns]
  | r :: R => by
    have h1 := lns_le R
    have h2 := pcs_le r.2
    have e : lns (r :: R) = lnsP (2 * r.1) (pcs r.2) ++ lns R := by unfold lns; rw [List.flatMap_cons]
    have e2 : txL (r :: R) = (List.replicate (2 * r.1) 32 ++ bs r.2 ++ [10]) ++ txL R := by unfold txL; rw [List.flatMap_cons]; unfold ln; rw [bs_mk]
    rw [e, e2, List.length_append, lnsP_len, List.length_append, List.length_append, List.length_append, List.length_replicate, ← size_bs, List.length_cons, List.length_nil]
    omega
/-- Statements' rows are short and not far in. -/
def TgM (m : Mt) : Prop := ∀ D, ∀ r ∈ rwL D m.bd, r.2.size ≤ 1000 ∧ r.1 ≤ D + 8
structure TgC (c : Cl) : Prop where
  ms : ∀ m ∈ c.ms, TgM m
  init : ∀ m, c.init = some m → TgM m
structure TgP (p : Pr) : Prop where
  cs : ∀ c ∈ p.cs, TgC c
  main : TgM p.main

theorem Alrow {R S : List Row} {P : Row → Prop} (h1 : ∀ r ∈ R, P r) (h2 : ∀ r ∈ S, P r) : ∀ r ∈ R ++ S, P r := fun r hr => (List.mem_append.1 hr).elim (h1 r) (h2 r)
theorem flat_all {α : Type} {f : α → List Row} {P : Row → Prop} {l : List α} (h : ∀ a ∈ l, ∀ r ∈ f a, P r) : ∀ r ∈ l.flatMap f, P r := fun r hr => by
  obtain ⟨a, ha, hr⟩ := List.mem_flatMap.1 hr
  exact h a ha r hr
theorem flat_tx {α : Type} {f : α → List Row} {k : Nat} : ∀ {l : List α}, (∀ a ∈ l, (txL (f a)).length ≤ k) → (txL (l.flatMap f)).length ≤ l.length * k
  | [], _ => by simp [txL]
  | a :: l, h => by
    have h1 := h a (by simp)
    have h2 := flat_tx (f := f) (k := k) (l := l) fun b hb => h b (by simp [hb])
    rw [List.flatMap_cons, txL_append, List.length_cons, Nat.add_mul]
    omega

/-- Rows are within bounds, k deep at most. -/
def Okr (k : Nat) (R : List Row) : Prop := ∀ r ∈ R, r.2.size ≤ 40000000 ∧ r.1 ≤ k
theorem one_tx (D : Nat) (t : ByteArray) (h : t.size ≤ 40000000) (hD : D ≤ 10) : (txL [(D, t)]).length ≤ 40000021 := by
  have := txL_le 40000000 10 [(D, t)] (by simp; omega)
  simpa using this
theorem varR_facts (D : Nat) (hD : D ≤ 10) {k : ByteArray} (hk : k.size ≤ 100) {l : List Vr} (h : FtV l) : Okr 10 (varR D k l) ∧ (txL (varR D k l)).length ≤ 24000200 := by
  have key : ∀ r ∈ varR D k l, r.2.size ≤ 3000000 ∧ r.1 ≤ 10 := by
    intro r hr
    obtain ⟨v, hv, rfl⟩ := List.mem_map.1 hr
    have := h.2 v hv
    refine ⟨?_, hD⟩
    rw [size_cat]
    simp [sz_lit, sp]
    omega
  refine ⟨fun r hr => ⟨by have := (key r hr).1; omega, (key r hr).2⟩, ?_⟩
  have h1 := txL_le 3000000 10 _ key
  rw [varR_len] at h1
  have h2 : l.length * (2 * 10 + 3000000 + 1) ≤ 8 * (2 * 10 + 3000000 + 1) := Nat.mul_le_mul_right _ h.1
  omega
theorem inR_facts (D : Nat) (hD : D ≤ 2 + 1) {m : Mt} (h : FtM m) (ht : TgM m) : Okr 12 (inR D m) ∧ (txL (inR D m)).length ≤ 1800000000 + 24000200 := by
  have hv := varR_facts D (by omega) (k := varK) (by decide) h.2.2.2.1
  have hr := h.2.2.2.2.2.2.2 D
  have hk := ht D
  refine ⟨Alrow (fun r hr => ⟨(hv.1 r hr).1, by have := (hv.1 r hr).2; omega⟩) (fun r hr => ⟨by have := (hk r hr).1; omega, by have := (hk r hr).2; omega⟩), ?_⟩
  have h1 := txL_le 1000 12 (rwL D m.bd) (fun r hr => ⟨(hk r hr).1, by have := (hk r hr).2; omega⟩)
  have h2 : (rwL D m.bd).length * (2 * 12 + 1000 + 1) ≤ 1700000 * (2 * 12 + 1000 + 1) := Nat.mul_le_mul_right _ hr
  unfold inR
  rw [txL_append]
  omega
theorem blkR_facts (D : Nat) (hD : D ≤ 2) {h : ByteArray} (hh : h.size ≤ 40000000) {m : Mt} (hm : FtM m) (ht : TgM m) : Okr 12 (blkR D h m) ∧ (txL (blkR D h m)).length ≤ 2000000000 := by
  have h1 := inR_facts (D + 1) (by omega) hm ht
  have h2 : shutT.size ≤ 40000000 := by decide
  refine ⟨Alrow (Alrow (by simp [Okr]; omega) h1.1) (by simp; omega), ?_⟩
  have h3 := one_tx D h hh (by omega)
  have h4 := one_tx D shutT h2 (by omega)
  unfold blkR
  rw [txL_append, txL_append]
  omega
theorem metR_facts (D : Nat) (hD : D ≤ 2) {m : Mt} (hm : FtM m) (ht : TgM m) : Okr 12 (metR D m) ∧ (txL (metR D m)).length ≤ 2000000000 := by
  have hh := hdT_size hm
  unfold metR
  split
  · have h1 : (cat [hdT m, ⟨#[59]⟩]).size ≤ 40000000 := by rw [size_cat]; simp [sz_lit]; omega
    exact ⟨by simp [Okr]; omega, by have := one_tx D _ h1 (by omega); omega⟩
  · split
    · exact blkR_facts D hD (by rw [size_cat]; simp [sz_lit, openT]; omega) hm ht
    · exact blkR_facts D hD (by rw [size_cat]; simp [sz_lit, openT]; omega) hm ht
theorem metsR_facts (D : Nat) (hD : D ≤ 2) {l : List Mt} (h : l.length ≤ 5 ∧ ∀ m ∈ l, FtM m) (ht : ∀ m ∈ l, TgM m) : Okr 12 (metsR D l) ∧ (txL (metsR D l)).length ≤ 10000000000 := by
  refine ⟨flat_all fun m hm => (metR_facts D hD (h.2 m hm) (ht m hm)).1, ?_⟩
  have h1 := flat_tx (f := metR D) (k := 2000000000) (l := l) fun m hm => (metR_facts D hD (h.2 m hm) (ht m hm)).2
  have h2 : l.length * 2000000000 ≤ 5 * 2000000000 := Nat.mul_le_mul_right _ h.1
  unfold metsR
  omega
theorem initR_facts (D : Nat) (hD : D ≤ 2) {o : Option Mt} (h : ∀ m, o = some m → FtM m) (ht : ∀ m, o = some m → TgM m) : Okr 12 (initR D o) ∧ (txL (initR D o)).length ≤ 2000000000 := by
  cases o with
  | none => exact ⟨by simp [initR, Okr], by simp [initR, txL]⟩
  | some m => exact blkR_facts D hD (by rw [size_cat]; decide) (h m rfl) (ht m rfl)
theorem bodyR_facts (D : Nat) (hD : D ≤ 2) {c : Cl} (h : FtC c) (ht : TgC c) : Okr 12 (bodyR D c) ∧ (txL (bodyR D c)).length ≤ 13000000000 := by
  have h1 := varR_facts D (by omega) (k := fieldK) (by decide) h.fs
  have h2 := varR_facts D (by omega) (k := staticK) (by decide) h.ss
  have h3 := initR_facts D hD h.init ht.init
  have h4 := metsR_facts D hD h.ms ht.ms
  have w1 : ∀ r ∈ varR D fieldK c.fs, r.2.size ≤ 40000000 ∧ r.1 ≤ 12 := fun r hr => ⟨(h1.1 r hr).1, by have := (h1.1 r hr).2; omega⟩
  have w2 : ∀ r ∈ varR D staticK c.ss, r.2.size ≤ 40000000 ∧ r.1 ≤ 12 := fun r hr => ⟨(h2.1 r hr).1, by have := (h2.1 r hr).2; omega⟩
  refine ⟨Alrow (Alrow (Alrow w1 w2) h3.1) h4.1, ?_⟩
  unfold bodyR
  rw [txL_append, txL_append, txL_append]
  omega
theorem abo_size {k : ByteArray} (hk : k.size ≤ 100) {l : List ByteArray} (h : l.length ≤ 8 ∧ ∀ f ∈ l, f.size ≤ 1048576) : (aboT k l).size ≤ 8389000 := by
  have := faces_size h
  unfold aboT
  split
  · decide
  · simp only [size_app, sp, sz_lit, List.size_toArray, List.length_cons, List.length_nil]; omega
theorem sup_size {s : ByteArray} (h : s.size ≤ 1048576) : (supT s).size ≤ 8389000 := by
  unfold supT
  split
  · decide
  · exact abo_size (by decide) ⟨by simp, fun f hf => by simp at hf; rw [hf]; exact h⟩
theorem clsR_facts {c : Cl} (h : FtC c) (ht : TgC c) : Okr 12 (clsR 0 c) ∧ (txL (clsR 0 c)).length ≤ 13100000000 := by
  have h2 : shutT.size ≤ 40000000 := by decide
  have h4 := one_tx 0 shutT h2 (by omega)
  have n1 := h.name
  have s1 := abo_size (k := extK) (by decide) h.faces
  have s2 := abo_size (k := impK) (by decide) h.faces
  have s3 := sup_size h.super
  unfold clsR
  split
  · have b1 := metsR_facts (0 + 1) (by omega) h.ms ht.ms
    have f1 : (facT c).size ≤ 40000000 := by unfold facT; rw [size_cat]; simp [sz_lit, openT]; omega
    have h3 := one_tx 0 _ f1 (by omega)
    refine ⟨Alrow (Alrow (by simp [Okr]; omega) b1.1) (by simp; omega), ?_⟩
    rw [txL_append, txL_append]
    omega
  · have b1 := bodyR_facts (0 + 1) (by omega) h ht
    have f1 : (claT c).size ≤ 40000000 := by unfold claT; rw [size_cat]; simp [sz_lit, openT]; omega
    have h3 := one_tx 0 _ f1 (by omega)
    refine ⟨Alrow (Alrow (by simp [Okr]; omega) b1.1) (by simp; omega), ?_⟩
    rw [txL_append, txL_append]
    omega
theorem prgR_facts {p : Pr} (h : FtP p) (ht : TgP p) : Okr 12 (prgR p) ∧ (txL (prgR p)).length ≤ 100000000000 := by
  have h1 := blkR_facts 0 (by omega) (h := mainT) (by decide) h.main ht.main
  refine ⟨Alrow (flat_all fun c hc => (clsR_facts (h.cs.2 c hc) (ht.cs c hc)).1) h1.1, ?_⟩
  have h2 := flat_tx (f := clsR 0) (k := 13100000000) (l := p.cs) fun c hc => (clsR_facts (h.cs.2 c hc) (ht.cs c hc)).2
  have h3 : p.cs.length * 13100000000 ≤ 6 * 13100000000 := Nat.mul_le_mul_right _ h.cs.1
  unfold prgR
  rw [txL_append]
  unfold clssR
  omega
theorem initR_deep (D : Nat) (o : Option Mt) : (initR D o).map (fun r => ((r.1 + 1, r.2) : Row)) = initR (D + 1) o := by
  cases o with
  | none => rfl
  | some m => exact blkR_deep _ _ _
theorem metsR_deep (D : Nat) (l : List Mt) : (metsR D l).map (fun r => ((r.1 + 1, r.2) : Row)) = metsR (D + 1) l := by
  unfold metsR
  induction l with
  | nil => rfl
  | cons m l ih => rw [List.flatMap_cons, List.flatMap_cons, List.map_append, ih, metR_deep]
theorem bodyR_deep (D : Nat) (c : Cl) : (bodyR D c).map (fun r => ((r.1 + 1, r.2) : Row)) = bodyR (D + 1) c := by
  unfold bodyR
  rw [List.map_append, List.map_append, List.map_append, varR_deep, varR_deep, initR_deep, metsR_deep]
end Go.Proofs.YtoekaehpcjhhaaaGreatDoor
