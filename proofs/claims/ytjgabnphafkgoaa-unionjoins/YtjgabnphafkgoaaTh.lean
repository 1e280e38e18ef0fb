/- Plain facts: parents and heads of numbers, how many heads there are, what joining does. -/
namespace Go.Proofs.Ytjgabnphafkgoaa

/-- Each number's parent: no greater than itself; numbers from n on have none but themselves. -/
structure Par (n : Nat) (p : Nat → Nat) : Prop where
  le : ∀ i, p i ≤ i
  out : ∀ i, n ≤ i → p i = i
/-- H tells the heads of the parents p. -/
structure Hd (p H : Nat → Nat) : Prop where
  top : ∀ i, p (H i) = H i
  step : ∀ i, H (p i) = H i
  own : ∀ i, p i = i → H i = i
/-- Heads by themselves: no greater, their own, and beyond n each by itself. -/
structure Heads (n : Nat) (H : Nat → Nat) : Prop where
  le : ∀ i, H i ≤ i
  twice : ∀ i, H (H i) = H i
  out : ∀ i, n ≤ i → H i = i

theorem Hd.heads {n : Nat} {p H : Nat → Nat} (h : Hd p H) (hp : Par n p) : Heads n H where
  le := by
    intro i
    induction i using Nat.strongRecOn with
    | ind i ih =>
      by_cases e : p i = i
      · exact Nat.le_of_eq (h.own i e)
      · have h1 := hp.le i
        have h2 := ih (p i) (by omega)
        rw [h.step i] at h2
        omega
  twice := fun i => h.own _ (h.top i)
  out := fun i hi => h.own i (hp.out i hi)
theorem Hd.iff {p H : Nat → Nat} (h : Hd p H) (i : Nat) : p i = i ↔ H i = i :=
  ⟨h.own i, fun e => by have := h.top i; rw [e] at this; exact this⟩

/-- One value put in a function's place. -/
def upd (p : Nat → Nat) (x y : Nat) : Nat → Nat := fun i => if i = x then y else p i
theorem upd_same (p : Nat → Nat) (x y : Nat) : upd p x y x = y := by simp [upd]
theorem upd_other {p : Nat → Nat} {x y i : Nat} (h : i ≠ x) : upd p x y i = p i := by simp [upd, h]
theorem Par.upd {n : Nat} {p : Nat → Nat} (h : Par n p) {x y : Nat} (hx : x < n) (hy : y ≤ x) : Par n (upd p x y) where
  le := fun i => by
    by_cases e : i = x
    · subst e; rw [upd_same]; exact hy
    · rw [upd_other e]; exact h.le i
  out := fun i hi => by rw [upd_other (by omega)]; exact h.out i hi

/-- A number laid right below its head: the heads stay. -/
theorem Hd.short {p H : Nat → Nat} (h : Hd p H) {x : Nat} (hx : H x ≠ x) : Hd (upd p x (H x)) H where
  top := fun i => by
    have : H i ≠ x := fun e => hx (by have := h.own _ (h.top i); rw [e] at this; exact this)
    rw [upd_other this]; exact h.top i
  step := fun i => by
    by_cases e : i = x
    · subst e; rw [upd_same]; exact h.own _ (h.top i)
    · rw [upd_other e]; exact h.step i
  own := fun i hi => by
    by_cases e : i = x
    · subst e; rw [upd_same] at hi; exact hi
    · rw [upd_other e] at hi; exact h.own i hi

/-- Two classes made one. -/
def mg (H : Nat → Nat) (a b : Nat) : Nat → Nat := fun i => if H i = max (H a) (H b) then min (H a) (H b) else H i

theorem mg_same {H : Nat → Nat} {a b : Nat} (h : H a = H b) : mg H a b = H := by
  funext i
  unfold mg
  split
  · rename_i e
    rw [h, Nat.max_self] at e
    rw [h, Nat.min_self, e]
  · rfl

theorem Hd.link {p H : Nat → Nat} (h : Hd p H) {a b : Nat} (hne : H a ≠ H b) : Hd (upd p (max (H a) (H b)) (min (H a) (H b))) (mg H a b) := by
  have ha := h.own _ (h.top a)
  have hb := h.own _ (h.top b)
  have pa := h.top a
  have pb := h.top b
  have hmin : H (min (H a) (H b)) = min (H a) (H b) ∧ p (min (H a) (H b)) = min (H a) (H b) ∧ min (H a) (H b) ≠ max (H a) (H b) ∧ H (max (H a) (H b)) = max (H a) (H b) := by
    by_cases e : H a ≤ H b
    · rw [Nat.min_eq_left e, Nat.max_eq_right e]; exact ⟨ha, pa, hne, hb⟩
    · have e' : H b ≤ H a := by omega
      rw [Nat.min_eq_right e', Nat.max_eq_left e']; exact ⟨hb, pb, fun x => hne x.symm, ha⟩
  obtain ⟨h1, h2, h3, h4⟩ := hmin
  refine ⟨fun i => ?_, fun i => ?_, fun i hi => ?_⟩
  · unfold mg
    split
    · rw [upd_other h3]; exact h2
    · rename_i e
      rw [upd_other e]; exact h.top i
  · by_cases e : i = max (H a) (H b)
    · rw [e, upd_same]
      unfold mg
      rw [h1, h4, if_neg h3, if_pos rfl]
    · rw [upd_other e]
      unfold mg
      rw [h.step i]
  · by_cases e : i = max (H a) (H b)
    · rw [e, upd_same] at hi
      exact absurd hi h3
    · rw [upd_other e] at hi
      unfold mg
      rw [h.own i hi, if_neg e]

theorem Heads.start (n : Nat) : Heads n (fun i => i) := ⟨fun i => Nat.le_refl i, fun _ => rfl, fun _ _ => rfl⟩
theorem Hd.start : Hd (fun i => i) (fun i => i) := ⟨fun _ => rfl, fun _ => rfl, fun _ _ => rfl⟩
theorem Par.start (n : Nat) : Par n (fun i => i) := ⟨fun i => Nat.le_refl i, fun _ _ => rfl⟩
theorem Heads.lt {n : Nat} {H : Nat → Nat} (h : Heads n H) {i : Nat} (hi : i < n) : H i < n := Nat.lt_of_le_of_lt (h.le i) hi

theorem Heads.mg {n : Nat} {H : Nat → Nat} (h : Heads n H) {a b : Nat} (ha : a < n) (hb : b < n) : Heads n (mg H a b) := by
  by_cases hne : H a = H b
  · rw [mg_same hne]; exact h
  · have : Hd H H := ⟨h.twice, h.twice, fun i hi => hi⟩
    exact (this.link hne).heads (Par.upd ⟨h.le, h.out⟩ (by have := h.lt ha; have := h.lt hb; omega) (by omega))

theorem mg_join (H : Nat → Nat) (a b : Nat) : mg H a b a = mg H a b b := by
  have h1 : mg H a b a = min (H a) (H b) := by
    unfold mg
    split
    · rfl
    · rename_i e; omega
  have h2 : mg H a b b = min (H a) (H b) := by
    unfold mg
    split
    · rfl
    · rename_i e; omega
  rw [h1, h2]
theorem mg_keeps {H : Nat → Nat} (a b : Nat) {i j : Nat} (h : H i = H j) : mg H a b i = mg H a b j := by unfold mg; rw [h]

/-- How many of the first n are heads. -/
def hc (n : Nat) (H : Nat → Nat) : Nat := (List.range n).countP (fun i => decide (H i = i))
/-- How many aren't. -/
def nc (n : Nat) (H : Nat → Nat) : Nat := (List.range n).countP (fun i => decide (H i ≠ i))
theorem hc_nc (n : Nat) (H : Nat → Nat) : hc n H + nc n H = n := by
  have := List.length_eq_countP_add_countP (fun i => decide (H i = i)) (l := List.range n)
  rw [List.length_range] at this
  unfold hc nc
  have e : List.countP (fun i => decide (H i ≠ i)) (List.range n) = List.countP (fun a => decide ¬decide (H a = a) = true) (List.range n) :=
    List.countP_congr (fun x _ => by simp)
  omega
theorem hc_succ (n : Nat) (H : Nat → Nat) : hc (n + 1) H = hc n H + if H n = n then 1 else 0 := by
  unfold hc
  rw [List.range_succ, List.countP_append]
  by_cases h : H n = n <;> simp [h]
theorem nc_succ (n : Nat) (H : Nat → Nat) : nc (n + 1) H = nc n H + if H n = n then 0 else 1 := by
  unfold nc
  rw [List.range_succ, List.countP_append]
  by_cases h : H n = n <;> simp [h]
theorem hc_le (n : Nat) (H : Nat → Nat) : hc n H ≤ n := by have := hc_nc n H; omega
theorem nc_le (n : Nat) (H : Nat → Nat) : nc n H ≤ n := by have := hc_nc n H; omega
theorem nc_start (n : Nat) : nc n (fun i => i) = 0 := by
  unfold nc
  rw [List.countP_eq_zero]
  intro x _
  simp
theorem nc_congr {n : Nat} {G H : Nat → Nat} (h : ∀ i, i < n → (G i = i ↔ H i = i)) : nc n G = nc n H := by
  unfold nc
  exact List.countP_congr (fun x hx => by
    have := h x (List.mem_range.1 hx)
    simp [this])

/-- One head turned to none: one more. -/
theorem nc_one {n : Nat} {G H : Nat → Nat} {x : Nat} (hx : x < n) (h1 : H x = x) (h2 : G x ≠ x) (h : ∀ i, i ≠ x → (G i = i ↔ H i = i)) : nc n G = nc n H + 1 := by
  induction n with
  | zero => omega
  | succ k ih =>
    rw [nc_succ, nc_succ]
    by_cases e : x = k
    · subst e
      rw [if_neg h2, if_pos h1, nc_congr (fun i hi => h i (by omega))]
    · rw [ih (by omega)]
      have := h k (fun e' => e e'.symm)
      by_cases e2 : H k = k
      · rw [if_pos e2, if_pos (this.2 e2)]
      · rw [if_neg e2, if_neg (fun e3 => e2 (this.1 e3))]

theorem mg_head_iff {n : Nat} {H : Nat → Nat} (h : Heads n H) {a b : Nat} (hne : H a ≠ H b) : mg H a b (max (H a) (H b)) ≠ max (H a) (H b) ∧ H (max (H a) (H b)) = max (H a) (H b) ∧ ∀ i, i ≠ max (H a) (H b) → (mg H a b i = i ↔ H i = i) := by
  have ha := h.twice a
  have hb := h.twice b
  have hmax : H (max (H a) (H b)) = max (H a) (H b) := by
    by_cases e : H a ≤ H b
    · rw [Nat.max_eq_right e]; exact hb
    · rw [Nat.max_eq_left (by omega)]; exact ha
  have hmin : H (min (H a) (H b)) = min (H a) (H b) := by
    by_cases e : H a ≤ H b
    · rw [Nat.min_eq_left e]; exact ha
    · rw [Nat.min_eq_right (by omega)]; exact hb
  refine ⟨?_, hmax, fun i hi => ?_⟩
  · unfold mg
    rw [if_pos hmax]
    omega
  · unfold mg
    split
    · rename_i e
      constructor
      · intro e2
        rw [← e2] at e
        rw [hmin] at e
        omega
      · intro e2
        exact absurd (e2.symm.trans e) hi
    · exact Iff.rfl

theorem nc_mg {n : Nat} {H : Nat → Nat} (h : Heads n H) {a b : Nat} (ha : a < n) (hb : b < n) (hne : H a ≠ H b) : nc n (mg H a b) = nc n H + 1 := by
  obtain ⟨h1, h2, h3⟩ := mg_head_iff h hne
  exact nc_one (by have := h.lt ha; have := h.lt hb; omega) h2 h1 h3
theorem hc_mg {n : Nat} {H : Nat → Nat} (h : Heads n H) {a b : Nat} (ha : a < n) (hb : b < n) (hne : H a ≠ H b) : hc n (mg H a b) + 1 = hc n H := by
  have h1 := nc_mg h ha hb hne
  have h2 := hc_nc n H
  have h3 := hc_nc n (mg H a b)
  omega

/-- All of a list joined to a. -/
def joinTo (H : Nat → Nat) (a : Nat) (l : List Nat) : Nat → Nat := l.foldl (fun G y => mg G a y) H
/-- All of a list joined. -/
def joinL (H : Nat → Nat) : List Nat → Nat → Nat
  | [] => H
  | x :: t => joinTo H x (x :: t)
theorem joinTo_snoc (H : Nat → Nat) (a : Nat) (l : List Nat) (y : Nat) : joinTo H a (l ++ [y]) = mg (joinTo H a l) a y := by simp [joinTo]
theorem joinL_cons (H : Nat → Nat) (x : Nat) (t : List Nat) : joinL H (x :: t) = joinTo H x t := by
  show joinTo (mg H x x) x t = _
  rw [mg_same rfl]
theorem joinTo_heads {n : Nat} {H : Nat → Nat} (h : Heads n H) {a : Nat} (ha : a < n) : ∀ (l : List Nat), (∀ y ∈ l, y < n) → Heads n (joinTo H a l) := by
  intro l
  induction l generalizing H with
  | nil => intro _; exact h
  | cons y t ih =>
    intro hl
    exact ih (h.mg ha (hl y (by simp))) (fun z hz => hl z (by simp [hz]))
theorem joinL_heads {n : Nat} {H : Nat → Nat} (h : Heads n H) (l : List Nat) (hl : ∀ y ∈ l, y < n) : Heads n (joinL H l) := by
  cases l with
  | nil => exact h
  | cons x t => exact joinTo_heads h (hl x (by simp)) _ hl

/-- Joining takes heads away, or nothing changes. -/
theorem joinTo_count {n : Nat} {H : Nat → Nat} (h : Heads n H) {a : Nat} (ha : a < n) : ∀ (l : List Nat), (∀ y ∈ l, y < n) → (joinTo H a l = H ∨ hc n (joinTo H a l) < hc n H) := by
  intro l
  induction l generalizing H with
  | nil => intro _; exact .inl rfl
  | cons y t ih =>
    intro hl
    have hy := hl y (by simp)
    have hh := h.mg ha hy
    by_cases hne : H a = H y
    · have e : joinTo H a (y :: t) = joinTo H a t := by show joinTo (mg H a y) a t = _; rw [mg_same hne]
      rw [e]
      exact ih h (fun z hz => hl z (by simp [hz]))
    · have := hc_mg h ha hy hne
      have e : joinTo H a (y :: t) = joinTo (mg H a y) a t := rfl
      rw [e]
      rcases ih hh (fun z hz => hl z (by simp [hz])) with e2 | e2
      · rw [e2]; exact .inr (by omega)
      · exact .inr (by omega)
theorem joinL_count {n : Nat} {H : Nat → Nat} (h : Heads n H) (l : List Nat) (hl : ∀ y ∈ l, y < n) : joinL H l = H ∨ hc n (joinL H l) < hc n H := by
  cases l with
  | nil => exact .inl rfl
  | cons x t => exact joinTo_count h (hl x (by simp)) _ hl
end Go.Proofs.Ytjgabnphafkgoaa
