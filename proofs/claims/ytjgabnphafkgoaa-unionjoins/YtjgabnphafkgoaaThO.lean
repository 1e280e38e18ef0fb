/- Plain facts: in whatever order pairs are joined, the heads are the same. -/
import Derived.Test.YtjgabnphafkgoaaTh
set_option linter.unusedVariables false
namespace Go.Proofs.Ytjgabnphafkgoaa

/-- All pairs joined, one after another. -/
def runJ (ps : List (Nat × Nat)) : Nat → Nat := ps.foldl (fun H p => mg H p.1 p.2) (fun i => i)
theorem runJ_snoc (ps : List (Nat × Nat)) (p : Nat × Nat) : runJ (ps ++ [p]) = mg (runJ ps) p.1 p.2 := by simp [runJ]

/-- Led to each other by pairs: whatever holds of each with itself, of the pairs, both ways, and on from one to the next, holds of the two. -/
def Conn (ps : List (Nat × Nat)) (a b : Nat) : Prop :=
  ∀ R : Nat → Nat → Prop, (∀ x, R x x) → (∀ p : Nat × Nat, p ∈ ps → R p.1 p.2) → (∀ x y, R x y → R y x) → (∀ x y z, R x y → R y z → R x z) → R a b
theorem Conn.refl {ps : List (Nat × Nat)} (a : Nat) : Conn ps a a := fun _ h _ _ _ => h a
theorem Conn.edge {ps : List (Nat × Nat)} (p : Nat × Nat) (hp : p ∈ ps) : Conn ps p.1 p.2 := fun _ _ h _ _ => h p hp
theorem Conn.symm {ps : List (Nat × Nat)} {a b : Nat} (h : Conn ps a b) : Conn ps b a := fun R h1 h2 h3 h4 => h3 _ _ (h R h1 h2 h3 h4)
theorem Conn.trans {ps : List (Nat × Nat)} {a b c : Nat} (h : Conn ps a b) (k : Conn ps b c) : Conn ps a c := fun R h1 h2 h3 h4 => h4 _ _ _ (h R h1 h2 h3 h4) (k R h1 h2 h3 h4)

theorem Conn.more {ps qs : List (Nat × Nat)} (hs : ∀ p ∈ ps, Conn qs p.1 p.2) {a b : Nat} (h : Conn ps a b) : Conn qs a b :=
  h (Conn qs) (fun x => Conn.refl x) hs (fun _ _ k => Conn.symm k) (fun _ _ _ k k2 => Conn.trans k k2)

theorem mg_conn {qs : List (Nat × Nat)} {H : Nat → Nat} (h : ∀ a, Conn qs a (H a)) {x y : Nat} (hxy : Conn qs x y) (a : Nat) : Conn qs a (mg H x y a) := by
  unfold mg
  split
  · rename_i e
    have h1 : Conn qs (H x) (H y) := Conn.trans (Conn.symm (h x)) (.trans hxy (h y))
    have h2 : Conn qs a (max (H x) (H y)) := by rw [← e]; exact h a
    rcases Nat.le_total (H x) (H y) with hle | hle
    · rw [Nat.max_eq_right hle] at h2
      rw [Nat.min_eq_left hle]
      exact .trans h2 (Conn.symm h1)
    · rw [Nat.max_eq_left hle] at h2
      rw [Nat.min_eq_right hle]
      exact Conn.trans h2 h1
  · exact h a

theorem fold_conn {qs : List (Nat × Nat)} : ∀ (ps : List (Nat × Nat)) (H : Nat → Nat), (∀ p ∈ ps, p ∈ qs) → (∀ a, Conn qs a (H a)) → ∀ a, Conn qs a (ps.foldl (fun H p => mg H p.1 p.2) H a)
  | [], _, _, h => h
  | p :: t, H, hs, h => fold_conn t _ (fun q hq => hs q (by simp [hq])) (mg_conn h (Conn.edge p (hs p (by simp))))
theorem runJ_conn (ps : List (Nat × Nat)) (a : Nat) : Conn ps a (runJ ps a) := fold_conn ps _ (fun _ h => h) (fun a => Conn.refl a) a

theorem fold_keeps : ∀ (ps : List (Nat × Nat)) (H : Nat → Nat) {a b : Nat}, H a = H b → ps.foldl (fun H p => mg H p.1 p.2) H a = ps.foldl (fun H p => mg H p.1 p.2) H b
  | [], _, _, _, h => h
  | p :: t, H, a, b, h => fold_keeps t _ (mg_keeps p.1 p.2 h)
theorem fold_edge : ∀ (ps : List (Nat × Nat)) (H : Nat → Nat) (p : Nat × Nat), p ∈ ps → ps.foldl (fun H p => mg H p.1 p.2) H p.1 = ps.foldl (fun H p => mg H p.1 p.2) H p.2
  | [], _, _, h => by simp at h
  | q :: t, H, p, h => by
    rcases List.mem_cons.1 h with rfl | h
    · exact fold_keeps t _ (mg_join H p.1 p.2)
    · exact fold_edge t _ p h
theorem conn_runJ {ps : List (Nat × Nat)} {a b : Nat} (h : Conn ps a b) : runJ ps a = runJ ps b :=
  h (fun x y => runJ ps x = runJ ps y) (fun _ => rfl) (fun p hp => fold_edge ps _ p hp) (fun _ _ k => k.symm) (fun _ _ _ k k2 => k.trans k2)

theorem runJ_heads {n : Nat} : ∀ (ps : List (Nat × Nat)) (H : Nat → Nat), Heads n H → (∀ p ∈ ps, p.1 < n ∧ p.2 < n) → Heads n (ps.foldl (fun H p => mg H p.1 p.2) H)
  | [], _, h, _ => h
  | p :: t, H, h, hs => runJ_heads t _ (h.mg (hs p (by simp)).1 (hs p (by simp)).2) (fun q hq => hs q (by simp [hq]))

theorem heads_ext {n : Nat} {G H : Nat → Nat} (hG : Heads n G) (hH : Heads n H) (h : ∀ a b, G a = G b ↔ H a = H b) : G = H := by
  funext a
  have h1 : H (G a) = H a := (h (G a) a).1 (hG.twice a)
  have h2 : G (H a) = G a := (h (H a) a).2 (hH.twice a)
  have h3 := hH.le (G a)
  have h4 := hG.le (H a)
  omega

/-- Back to front, and each pair turned about: the same heads. -/
def turnd (ps : List (Nat × Nat)) : List (Nat × Nat) := ps.reverse.map (fun p => (p.2, p.1))
theorem runJ_turned {n : Nat} {ps : List (Nat × Nat)} (h : ∀ p ∈ ps, p.1 < n ∧ p.2 < n) : runJ (turnd ps) = runJ ps := by
  have h' : ∀ p ∈ turnd ps, p.1 < n ∧ p.2 < n := by
    intro p hp
    obtain ⟨q, hq, rfl⟩ := List.mem_map.1 hp
    have := h q (by simpa using hq)
    exact ⟨this.2, this.1⟩
  have c1 : ∀ p ∈ ps, Conn (turnd ps) p.1 p.2 := fun p hp => Conn.symm (Conn.edge (p.2, p.1) (List.mem_map.2 ⟨p, by simpa using hp, rfl⟩))
  have c2 : ∀ p ∈ turnd ps, Conn ps p.1 p.2 := by
    intro p hp
    obtain ⟨q, hq, rfl⟩ := List.mem_map.1 hp
    exact Conn.symm (Conn.edge q (by simpa using hq))
  refine heads_ext (n := n) (runJ_heads _ _ (Heads.start n) h') (runJ_heads _ _ (Heads.start n) h) fun a b => ⟨fun e => ?_, fun e => ?_⟩
  · refine conn_runJ (Conn.more c2 (Conn.trans (runJ_conn (turnd ps) a) (Conn.symm ?_)))
    rw [e]
    exact runJ_conn (turnd ps) b
  · refine conn_runJ (Conn.more c1 (Conn.trans (runJ_conn ps a) (Conn.symm ?_)))
    rw [e]
    exact runJ_conn ps b
theorem turnd_length (ps : List (Nat × Nat)) : (turnd ps).length = ps.length := by simp [turnd]
theorem turnd_at {ps : List (Nat × Nat)} {i : Nat} {x y : Nat} (hi : i < ps.length) (h : ps[ps.length - 1 - i]? = some (x, y)) : (turnd ps)[i]? = some (y, x) := by
  unfold turnd
  rw [List.getElem?_map, List.getElem?_reverse hi, h]
  rfl
end Go.Proofs.Ytjgabnphafkgoaa
