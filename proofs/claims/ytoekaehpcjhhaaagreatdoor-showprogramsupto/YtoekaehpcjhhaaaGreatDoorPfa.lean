/- What follows from a program's being small; texts tell lines apart. -/
import Derived.Test.YtoekaehpcjhhaaaGreatDoorRpg
import Derived.Test.YtoekaehpcjhhaaaGreatDoorLsp
import Derived.Test.YtoekaehpcjhhaaaGreatDoorRsd
set_option linter.unusedSimpArgs false
set_option linter.unusedVariables false
namespace Go.Proofs.YtoekaehpcjhhaaaGreatDoor
open Go.RowKit

/-- No text is greater than what can come in. -/
def BkV (l : List Vr) : Prop := ∀ v ∈ l, v.1.size ≤ 1048576 ∧ v.2.size ≤ 1048576
def BkM (m : Mt) : Prop := OkM m ∧ BkV m.ps ∧ BkV m.ls
structure BkC (c : Cl) : Prop where
  name : c.name.size ≤ 1048576
  super : c.super.size ≤ 1048576
  faces : ∀ f ∈ c.faces, f.size ≤ 1048576
  fs : BkV c.fs
  ss : BkV c.ss
  ms : ∀ m ∈ c.ms, BkM m
  init : ∀ m, c.init = some m → BkM m
structure BkP (p : Pr) : Prop where
  cs : ∀ c ∈ p.cs, BkC c
  main : BkM p.main

theorem BkP.ok {p : Pr} (h : BkP p) : OkP p := ⟨h.main.1, fun c hc => ⟨fun m hm => ((h.cs c hc).ms m hm).1, fun m hm => ((h.cs c hc).init m hm).1⟩⟩
theorem met_facts {m : Mt} (h : smM m = true) (hb : BkM m) : FtM m ∧ TgM m ∧ RSaidL m.bd := by
  unfold smM at h
  simp only [Bool.and_eq_true, decide_eq_true_eq] at h
  obtain ⟨a, b, c, d⟩ := h
  obtain ⟨f1, f2, f3, f4⟩ := sm_facts 5 m.bd d hb.1.2.2
  refine ⟨⟨by omega, by omega, ⟨by omega, hb.2.1⟩, ⟨by omega, hb.2.2⟩, f1, f2, f3, fun D => Nat.le_trans (f4 D) (by decide)⟩, fun D r hr => ?_, rall (by omega) d hb.1.2.2⟩
  have := rwL_tight 5 m.bd D d hb.1.2.2 r hr
  exact ⟨this.1, by omega⟩
theorem cls_facts {c : Cl} (h : smC c = true) (hb : BkC c) : FtC c ∧ TgC c ∧ (∀ m ∈ c.ms, RSaidL m.bd) ∧ ∀ m, c.init = some m → RSaidL m.bd := by
  unfold smC at h
  simp only [Bool.and_eq_true, decide_eq_true_eq, List.all_eq_true] at h
  obtain ⟨h1, h2, h3, h4, h5, h6⟩ := h
  have hm : ∀ m ∈ c.ms, FtM m ∧ TgM m ∧ RSaidL m.bd := fun m hm => met_facts (h6 m hm) (hb.ms m hm)
  have hi : ∀ m, c.init = some m → FtM m ∧ TgM m ∧ RSaidL m.bd := fun m hm => met_facts (by rw [hm] at h5; exact h5) (hb.init m hm)
  exact ⟨⟨hb.name, hb.super, ⟨by omega, hb.faces⟩, ⟨by omega, hb.fs⟩, ⟨by omega, hb.ss⟩, ⟨h4, fun m q => (hm m q).1⟩, fun m q => (hi m q).1⟩, ⟨fun m q => (hm m q).2.1, fun m q => (hi m q).2.1⟩, fun m q => (hm m q).2.2, fun m q => (hi m q).2.2⟩
/-- All that the contracts ask of a program. -/
structure Good (p : Pr) : Prop where
  ft : FtP p
  tg : TgP p
  cs : ∀ c ∈ p.cs, (∀ m ∈ c.ms, RSaidL m.bd) ∧ ∀ m, c.init = some m → RSaidL m.bd
  main : RSaidL p.main.bd
theorem good_of {p : Pr} (h : smP p = true) (hb : BkP p) : Good p := by
  unfold smP at h
  simp only [Bool.and_eq_true, decide_eq_true_eq, List.all_eq_true] at h
  obtain ⟨h1, h2, h3⟩ := h
  have hc : ∀ c ∈ p.cs, _ := fun c q => cls_facts (h3 c q) (hb.cs c q)
  have hm := met_facts h2 hb.main
  exact ⟨⟨⟨h1, fun c q => (hc c q).1⟩, hm.1⟩, ⟨fun c q => (hc c q).2.1, hm.2.1⟩, fun c q => (hc c q).2.2, hm.2.2⟩

theorem idx10 : ∀ (l : List UInt8), (Lib.index l [10] = -1 ∧ (10 : UInt8) ∉ l) ∨ ∃ (i : Nat) (a b : List UInt8), Lib.index l [10] = i ∧ l = a ++ 10 :: b ∧ a.length = i ∧ (10 : UInt8) ∉ a
  | [] => .inl ⟨rfl, by simp⟩
  | c :: l => by
    by_cases hc : (10 : UInt8) = c
    · subst hc
      exact .inr ⟨0, [], l, by unfold Lib.index; rw [if_pos (by simp [List.isPrefixOf])]; rfl, rfl, rfl, by simp⟩
    · have hp : ¬ (List.isPrefixOf [10] (c :: l)) = true := by simp [List.isPrefixOf, hc]
      rcases idx10 l with ⟨h1, h2⟩ | ⟨i, a, b, h1, h2, h3, h4⟩
      · exact .inl ⟨by unfold Lib.index; rw [if_neg hp, h1]; rfl, by simp [hc, h2]⟩
      · refine .inr ⟨i + 1, c :: a, b, ?_, by rw [h2]; rfl, by simp [h3], by simp [hc, h4]⟩
        unfold Lib.index
        rw [if_neg hp, h1]
        have : ¬ ((i : Int) == -1) = true := by simp
        rw [if_neg this]
        rfl
theorem split10 : ∀ (k : Nat) (X : ByteArray), Lib.countB X ⟨#[10]⟩ = k → (∀ t ∈ Lib.splitB ⟨#[10]⟩ 0 k X, (10 : UInt8) ∉ bs t) ∧ (Lib.splitB ⟨#[10]⟩ 0 k X).flatMap (fun x => bs x ++ [10]) = bs X ++ [10] := by
  intro k
  induction k with
  | zero =>
    intro X hk
    rcases idx10 (bs X) with ⟨h1, h2⟩ | ⟨i, a, b, h1, h2, h3, h4⟩
    · rw [Lib.splitB_zero]
      exact ⟨by simpa using h2, by simp⟩
    · have := Lib.countB_hit X ⟨#[10]⟩ i (by decide) h1
      omega
  | succ k ih =>
    intro X hk
    rcases idx10 (bs X) with ⟨h1, h2⟩ | ⟨i, a, b, h1, h2, h3, h4⟩
    · have := Lib.countB_miss X ⟨#[10]⟩ h1
      omega
    · have hh := Lib.countB_hit X ⟨#[10]⟩ i (by decide) h1
      rw [Lib.splitB_hit ⟨#[10]⟩ 0 k X i h1]
      have e1 : bs (X.extract 0 (i + 0)) = a := by
        have : bs (X.extract 0 (i + 0)) = (bs X).take i := by unfold bs; rw [Lib.extract_from_zero]; rfl
        rw [this, h2, ← h3, List.take_left]
      have e2 : bs (X.extract (i + (⟨#[10]⟩ : ByteArray).size) X.size) = b := by
        have : bs (X.extract (i + 1) X.size) = (bs X).drop (i + 1) := by unfold bs; rw [Lib.extract_to_end]
        rw [show (⟨#[10]⟩ : ByteArray).size = 1 from rfl, this, h2, ← h3]
        simp
      obtain ⟨r1, r2⟩ := ih (X.extract (i + (⟨#[10]⟩ : ByteArray).size) X.size) (by omega)
      refine ⟨fun t ht => ?_, ?_⟩
      · rcases List.mem_cons.1 ht with rfl | ht
        · rw [e1]; exact h4
        · exact r1 t ht
      · rw [List.flatMap_cons, r2, e1, e2, h2]
        simp

/-- Lines put back. -/
def unl (L : List Row) : List UInt8 := L.flatMap fun r => List.replicate r.1 32 ++ bs r.2 ++ [10]
theorem unl_P : ∀ (ts : List ByteArray) (t : ByteArray) (a : Nat), unl (lnsP a (t :: ts)) = List.replicate a 32 ++ (t :: ts).flatMap fun x => bs x ++ [10]
  | [], t, a => by
    unfold unl lnsP lnsP
    simp only [List.flatMap_cons, List.flatMap_nil, List.append_nil]
    rw [← pc_ln, List.append_assoc]
  | u :: ts, t, a => by
    have ih := unl_P ts u 0
    have e : unl (lnsP a (t :: u :: ts)) = (List.replicate (pc a t).1 32 ++ bs (pc a t).2 ++ [10]) ++ unl (lnsP 0 (u :: ts)) := by
      show unl (pc a t :: lnsP 0 (u :: ts)) = _
      unfold unl
      rw [List.flatMap_cons]
    rw [e, ih, ← pc_ln, List.flatMap_cons (x := t)]
    simp
theorem unl_append (L M : List Row) : unl (L ++ M) = unl L ++ unl M := by unfold unl; rw [List.flatMap_append]
theorem unl_lns : ∀ (R : List Row), unl (lns R) = txL R
  | [] => rfl
  | r :: R => by
    have e : lns (r :: R) = lnsP (2 * r.1) (pcs r.2) ++ lns R := by unfold lns; rw [List.flatMap_cons]
    have e2 : txL (r :: R) = (List.replicate (2 * r.1) 32 ++ bs r.2 ++ [10]) ++ txL R := by unfold txL; rw [List.flatMap_cons]; unfold ln; rw [bs_mk]
    rw [e, e2, unl_append, unl_lns R]
    congr 1
    have hp := (split10 _ r.2 rfl).2
    have hl := pcs_len r.2
    change (pcs r.2).flatMap _ = _ at hp
    cases hq : pcs r.2 with
    | nil => rw [hq] at hl; simp at hl
    | cons t ts =>
      rw [hq] at hp
      rw [unl_P, hp, List.append_assoc]
/-- A line as it is told. -/
def Pcd (r : Row) : Prop := ∃ a t, r = pc a t ∧ (10 : UInt8) ∉ bs t
theorem lnsP_pcd : ∀ (ts : List ByteArray) (a : Nat), (∀ t ∈ ts, (10 : UInt8) ∉ bs t) → ∀ r ∈ lnsP a ts, Pcd r
  | [], a, _ => by unfold lnsP; simp
  | t :: ts, a, h => by
    intro r hr
    unfold lnsP at hr
    rcases List.mem_cons.1 hr with rfl | hr
    · exact ⟨a, t, rfl, h t (by simp)⟩
    · exact lnsP_pcd ts 0 (fun u hu => h u (by simp [hu])) r hr
theorem lns_pcd (R : List Row) : ∀ r ∈ lns R, Pcd r := by
  intro r hr
  obtain ⟨q, _, hq⟩ := List.mem_flatMap.1 hr
  exact lnsP_pcd _ _ (split10 _ q.2 rfl).1 r hq
theorem unl_inj : ∀ (L M : List Row), (∀ r ∈ L, Pcd r) → (∀ r ∈ M, Pcd r) → unl L = unl M → L = M
  | [], [], _, _, _ => rfl
  | [], r :: M, _, _, h => by
    unfold unl at h
    rw [List.flatMap_cons] at h
    simp at h
  | r :: L, [], _, _, h => by
    unfold unl at h
    rw [List.flatMap_cons] at h
    simp at h
  | r :: L, s :: M, hL, hM, h => by
    obtain ⟨a, t, rfl, ht⟩ := hL r (by simp)
    obtain ⟨b, u, rfl, hu⟩ := hM s (by simp)
    have e : ∀ (c : Nat) (v : ByteArray) (N : List Row), unl (pc c v :: N) = (List.replicate c 32 ++ bs v) ++ 10 :: unl N := fun c v N => by
      unfold unl
      rw [List.flatMap_cons, ← pc_ln]
      simp
    rw [e, e] at h
    have n32 : ∀ (c : Nat) {v : ByteArray}, (10 : UInt8) ∉ bs v → (10 : UInt8) ∉ List.replicate c 32 ++ bs v := fun c v hv => by
      rw [List.mem_append, not_or]
      exact ⟨fun hc => absurd (List.eq_of_mem_replicate hc) (by decide), hv⟩
    obtain ⟨h1, h2⟩ := cut10 (n32 a ht) (n32 b hu) h
    rw [(pc_inj a b t u).2 h1, unl_inj L M (fun r hr => hL r (by simp [hr])) (fun r hr => hM r (by simp [hr])) h2]
theorem tx_iff (R S : List Row) : lns R = lns S ↔ mk (txL R) = mk (txL S) := by
  rw [← unl_lns, ← unl_lns]
  constructor
  · intro h; rw [h]
  · intro h
    have := congrArg bs h
    rw [bs_mk, bs_mk] at this
    exact unl_inj _ _ (lns_pcd R) (lns_pcd S) this
end Go.Proofs.YtoekaehpcjhhaaaGreatDoor
