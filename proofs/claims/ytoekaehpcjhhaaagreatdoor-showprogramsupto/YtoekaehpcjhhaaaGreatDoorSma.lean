/- Small statements and names, as plain functions; what follows from them. -/
import Derived.Test.YtoekaehpcjhhaaaGreatDoorBld
import Derived.Lib.Split
set_option linter.unusedSimpArgs false
set_option linter.unusedVariables false
namespace Go.Proofs.YtoekaehpcjhhaaaGreatDoor
open Go.RowKit

/-- Are statements not too great, k deep? -/
def smL : Nat → List St → Bool
  | 0, l => decide (l.length = 0)
  | k + 1, l => decide (l.length ≤ 8) && l.all fun s => match s with
    | .mk _ x y z t f ag _ bd ot _ _ => decide (x.size + y.size + z.size + t.size + f.size ≤ 100) && decide (ag.length ≤ 8) && decide ((cat ag).size ≤ 100) && smL k bd && smL k ot
def smS (k : Nat) : St → Bool
  | .mk _ x y z t f ag _ bd ot _ _ => decide (x.size + y.size + z.size + t.size + f.size ≤ 100) && decide (ag.length ≤ 8) && decide ((cat ag).size ≤ 100) && smL k bd && smL k ot
theorem smL_succ (k : Nat) (l : List St) : smL (k + 1) l = (decide (l.length ≤ 8) && l.all (smS k)) := rfl
theorem smS_parts {k : Nat} {d : Int} {x y z t f : ByteArray} {ag : List ByteArray} {n : Int} {bd ot : List St} {ln cl : Int} (h : smS k (.mk d x y z t f ag n bd ot ln cl) = true) :
    x.size + y.size + z.size + t.size + f.size ≤ 100 ∧ ag.length ≤ 8 ∧ (cat ag).size ≤ 100 ∧ smL k bd = true ∧ smL k ot = true := by
  simpa [smS, and_assoc] using h
theorem cat_mem_le {a : ByteArray} : ∀ {l : List ByteArray}, a ∈ l → a.size ≤ (cat l).size
  | [], h => by simp at h
  | b :: l, h => by
    rw [size_cat, List.map_cons, List.sum_cons]
    rcases List.mem_cons.1 h with rfl | h
    · omega
    · have := cat_mem_le h
      rw [size_cat] at this
      omega
theorem FtL_of : ∀ {l : List St}, (∀ s ∈ l, FtS s) → FtL l
  | [], _ => by rw [FtL]; trivial
  | s :: l, h => by rw [FtL]; exact ⟨h s (by simp), FtL_of fun u hu => h u (by simp [hu])⟩
theorem LnL_of : ∀ {l : List St}, (∀ s ∈ l, LnS s) → LnL l
  | [], _ => by rw [LnL]; trivial
  | s :: l, h => by rw [LnL]; exact ⟨h s (by simp), LnL_of fun u hu => h u (by simp [hu])⟩
theorem OkL_mem : ∀ {l : List St} {s : St}, OkL l → s ∈ l → OkS s := fun {l s} h hs => by
  obtain ⟨j, hj⟩ := List.getElem?_of_mem hs
  exact h.at hj
def cnt : Nat → Nat
  | 0 => 0
  | k + 1 => 8 * (3 + 2 * cnt k)
theorem rw1_len (D m : Nat) (s : St) (h : ∀ d x y z t f ag n bd ot ln cl, s = .mk d x y z t f ag n bd ot ln cl → (rwL (D + 1) bd).length ≤ m ∧ (rwL (D + 1) ot).length ≤ m) : (rw1 D s).length ≤ 3 + 2 * m := by
  obtain ⟨d, x, y, z, t, f, ag, n, bd, ot, ln, cl⟩ := s
  obtain ⟨h1, h2⟩ := h _ _ _ _ _ _ _ _ _ _ _ _ rfl
  by_cases h19 : d = 19
  · subst h19; rw [rw1_try]; simp; omega
  by_cases h20 : d = 20
  · subst h20
    rw [rw1_if]
    split <;> simp <;> omega
  by_cases h21 : d = 21
  · subst h21; rw [rw1_while]; simp; omega
  rw [rw1_plain h19 h20 h21]
  have := pl_len d x y z t f ag n D
  omega
theorem rwL_len (D m : Nat) : ∀ (l : List St), (∀ s ∈ l, (rw1 D s).length ≤ m) → (rwL D l).length ≤ l.length * m
  | [], _ => by rw [rwL_nil]; simp
  | s :: l, h => by
    rw [rwL_cons, List.length_append, List.length_cons, Nat.add_mul]
    have := h s (by simp)
    have := rwL_len D m l fun u hu => h u (by simp [hu])
    omega
theorem sm_facts : ∀ (k : Nat) (l : List St), smL k l = true → OkL l → FtL l ∧ LnL l ∧ l.length ≤ 8 ∧ ∀ D, (rwL D l).length ≤ cnt k
  | 0, l, h, ho => by
    have : l = [] := List.eq_nil_of_length_eq_zero (by simpa [smL] using h)
    subst this
    exact ⟨by rw [FtL]; trivial, by rw [LnL]; trivial, by simp, fun D => by rw [rwL_nil]; simp⟩
  | k + 1, l, h, ho => by
    rw [smL_succ, Bool.and_eq_true, decide_eq_true_eq, List.all_eq_true] at h
    have key : ∀ s ∈ l, FtS s ∧ LnS s ∧ ∀ D, (rw1 D s).length ≤ 3 + 2 * cnt k := by
      intro s hs
      have hsm := h.2 s hs
      have hok := OkL_mem ho hs
      obtain ⟨d, x, y, z, t, f, ag, n, bd, ot, ln, cl⟩ := s
      obtain ⟨p1, p2, p3, p4, p5⟩ := smS_parts hsm
      obtain ⟨_, hn, _, _, _, hob, hoo⟩ := hok.parts
      obtain ⟨b1, b2, b3, b4⟩ := sm_facts k bd p4 hob
      obtain ⟨o1, o2, o3, o4⟩ := sm_facts k ot p5 hoo
      refine ⟨?_, ?_, fun D => rw1_len D _ _ ?_⟩
      · rw [FtS]
        refine ⟨hn, by omega, ⟨by omega, fun a ha => ?_⟩, b1, o1⟩
        have := cat_mem_le ha
        omega
      · rw [LnS]
        exact ⟨by omega, by omega, b2, o2⟩
      · intro d' x' y' z' t' f' ag' n' bd' ot' ln' cl' e
        injection e with _ _ _ _ _ _ _ _ e1 e2
        subst e1 e2
        exact ⟨b4 _, o4 _⟩
    refine ⟨FtL_of fun s hs => (key s hs).1, LnL_of fun s hs => (key s hs).2.1, h.1, fun D => ?_⟩
    have h1 := rwL_len D _ l fun s hs => (key s hs).2.2 D
    have h2 : l.length * (3 + 2 * cnt k) ≤ 8 * (3 + 2 * cnt k) := Nat.mul_le_mul_right _ h.1
    rw [cnt]
    omega
theorem cnt_le {k : Nat} (h : k ≤ 5) : cnt k ≤ 2000000 := by
  have : k = 0 ∨ k = 1 ∨ k = 2 ∨ k = 3 ∨ k = 4 ∨ k = 5 := by omega
  rcases this with rfl | rfl | rfl | rfl | rfl | rfl <;> decide

/-- Has a text octets above the blank alone? -/
def big (x : ByteArray) : Bool := (bs x).all fun c => decide (32 < c.toNat)
mutual
def nmS : St → Bool
  | .mk d x y z t f ag n bd ot ln cl => big (cat [x, y, z, t, f, cat ag]) && (nmL bd && nmL ot)
def nmL : List St → Bool
  | [] => true
  | s :: l => nmS s && nmL l
end
theorem nmS_eq (d : Int) (x y z t f : ByteArray) (ag : List ByteArray) (n : Int) (bd ot : List St) (ln cl : Int) : nmS (.mk d x y z t f ag n bd ot ln cl) = (big (cat [x, y, z, t, f, cat ag]) && (nmL bd && nmL ot)) := by rw [nmS]
theorem nmL_nil : nmL [] = true := by rw [nmL]
theorem nmL_cons (s : St) (l : List St) : nmL (s :: l) = (nmS s && nmL l) := by rw [nmL]
theorem nmL_one (s : St) : nmL [s] = nmS s := by rw [nmL_cons, nmL_nil, Bool.and_true]
theorem nmL_take_succ {l : List St} {k : Nat} {s : St} (h : l[k]? = some s) : nmL (l.take (k + 1)) = (nmL (l.take k) && nmS s) := by
  rw [take_snoc h]
  generalize l.take k = m
  induction m with
  | nil => rw [List.nil_append, nmL_one, nmL_nil, Bool.true_and]
  | cons u m ih => rw [List.cons_append, nmL_cons, nmL_cons, ih, Bool.and_assoc]
theorem nmL_take_false {l : List St} {k : Nat} (h : nmL (l.take k) = false) : nmL l = false := by
  have key : ∀ (m n : List St), nmL m = false → nmL (m ++ n) = false := by
    intro m n
    induction m with
    | nil => intro h; rw [nmL_nil] at h; cases h
    | cons u m ih =>
      intro h
      rw [List.cons_append, nmL_cons]
      rw [nmL_cons] at h
      cases hu : nmS u with
      | false => rfl
      | true => rw [hu, Bool.true_and] at h; rw [ih h]; rfl
  have := key (l.take k) (l.drop k) h
  rwa [List.take_append_drop] at this
theorem nmL_of_all {l : List St} (h : ∀ s ∈ l, nmS s = true) : nmL l = true := by
  induction l with
  | nil => exact nmL_nil
  | cons u l ih => rw [nmL_cons, h u (by simp), ih fun s hs => h s (by simp [hs])]; rfl
theorem nmL_mem {l : List St} (h : nmL l = true) : ∀ s ∈ l, nmS s = true := by
  induction l with
  | nil => simp
  | cons u l ih =>
    rw [nmL_cons, Bool.and_eq_true] at h
    intro s hs
    rcases List.mem_cons.1 hs with rfl | hs
    · exact h.1
    · exact ih h.2 s hs

/-- It begins neither with nothing nor with two blanks. -/
def Gh (l : List UInt8) : Prop := ∃ a r, l = a :: r ∧ (a = 32 → ∃ b r', r = b :: r' ∧ b ≠ 32)
theorem Gh.app {l : List UInt8} (h : Gh l) (m : List UInt8) : Gh (l ++ m) := by
  obtain ⟨a, r, rfl, hr⟩ := h
  refine ⟨a, r ++ m, rfl, fun ha => ?_⟩
  obtain ⟨b, r', rfl, hb⟩ := hr ha
  exact ⟨b, r' ++ m, rfl, hb⟩
theorem Gh.after {x l : List UInt8} (hx : ∀ c ∈ x, 32 < c.toNat) (h : Gh l) : Gh (x ++ l) := by
  cases x with
  | nil => exact h
  | cons a r => exact ⟨a, r ++ l, rfl, fun ha => by have := hx a (by simp); rw [ha] at this; exact absurd this (by decide)⟩
theorem gh2 (a b : UInt8) (r : List UInt8) (h : b ≠ 32) : Gh (a :: b :: r) := ⟨a, _, rfl, fun _ => ⟨b, r, rfl, h⟩⟩
theorem gh1 (a : UInt8) (r : List UInt8) (h : a ≠ 32) : Gh (a :: r) := ⟨a, _, rfl, fun e => absurd e h⟩
def Gd (s : ByteArray) : Prop := Gh (bs s) ∧ (10 : UInt8) ∉ bs s

theorem big_iff {x : ByteArray} : big x = true ↔ ∀ c ∈ bs x, 32 < c.toNat := by simp [big]
theorem no10 {x : List UInt8} (h : ∀ c ∈ x, 32 < c.toNat) : (10 : UInt8) ∉ x := fun hc => absurd (h 10 hc) (by decide)
theorem dec_big (u : Nat) : ∀ c ∈ Lib.decDigits u, 32 < c.toNat := by
  rw [Lib.decDigits_eq]
  intro c hc
  obtain ⟨t, _, rfl⟩ := List.mem_map.1 hc
  unfold Lib.dg
  have : u / 10 ^ (Lib.nDigits u - 1 - t) % 10 < 10 := Nat.mod_lt _ (by decide)
  generalize u / 10 ^ (Lib.nDigits u - 1 - t) % 10 = q at this
  have : q = 0 ∨ q = 1 ∨ q = 2 ∨ q = 3 ∨ q = 4 ∨ q = 5 ∨ q = 6 ∨ q = 7 ∨ q = 8 ∨ q = 9 := by omega
  rcases this with rfl | rfl | rfl | rfl | rfl | rfl | rfl | rfl | rfl | rfl <;> decide
theorem itoa_big (n : Int) : ∀ c ∈ Lib.itoa n, 32 < c.toNat := by
  unfold Lib.itoa
  split
  · intro c hc
    rcases List.mem_cons.1 hc with rfl | hc
    · decide
    · exact dec_big _ c hc
  · exact dec_big _
theorem join_no10 (sep : List UInt8) (hs : (10 : UInt8) ∉ sep) : ∀ (l : List (List UInt8)), (∀ a ∈ l, (10 : UInt8) ∉ a) → (10 : UInt8) ∉ Lib.join l sep
  | [], _ => by rw [Lib.join_nil]; simp
  | a :: l, h => by
    rw [Lib.join_cons, List.mem_append, not_or]
    refine ⟨h a (by simp), ?_⟩
    unfold Lib.joinTail
    intro hc
    obtain ⟨q, hq, hc⟩ := List.mem_flatten.1 hc
    obtain ⟨b, hb, rfl⟩ := List.mem_map.1 hq
    rcases List.mem_append.1 hc with hc | hc
    · exact hs hc
    · exact h b (by simp [hb]) hc
end Go.Proofs.YtoekaehpcjhhaaaGreatDoor
