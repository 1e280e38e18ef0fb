/- Plain arithmetic: the number of bits of a word of 64 bits, as math/bits.OnesCount64 reckons it. -/
set_option linter.unusedSimpArgs false
set_option linter.unusedVariables false
namespace Go.Proofs.YtclofjlonncnlaaDoor

/-- How many of the lowest f bits of x are set. -/
def popN : Nat → Nat → Nat
  | 0, _ => 0
  | f + 1, x => x % 2 + popN f (x / 2)

theorem popN_add (m f x : Nat) : popN (m + f) x = popN m x + popN f (x / 2 ^ m) := by
  induction m generalizing x with
  | zero => simp [popN]
  | succ m ih =>
    rw [show m + 1 + f = (m + f) + 1 by omega]
    simp only [popN]
    rw [ih (x / 2), Nat.div_div_eq_div_mul, Nat.pow_succ, Nat.mul_comm 2]
    omega
theorem popN_mod (m x q : Nat) : popN m (x + 2 ^ m * q) = popN m x := by
  induction m generalizing x with
  | zero => rfl
  | succ m ih =>
    simp only [popN]
    have e1 : (x + 2 ^ (m + 1) * q) % 2 = x % 2 := by rw [Nat.pow_succ, Nat.mul_assoc, Nat.mul_left_comm]; omega
    have e2 : (x + 2 ^ (m + 1) * q) / 2 = x / 2 + 2 ^ m * q := by rw [Nat.pow_succ, Nat.mul_assoc, Nat.mul_left_comm]; omega
    rw [e1, e2, ih]

def val : List Nat → Nat
  | [] => 0
  | b :: t => b + 256 * val t
theorem and_byte (a b q r : Nat) (ha : a < 256) (hb : b < 256) : (a + 256 * q) &&& (b + 256 * r) = (a &&& b) + 256 * (q &&& r) := by
  have h1 : ((a + 256 * q) &&& (b + 256 * r)) % 2 ^ 8 = a &&& b := by
    rw [Nat.and_mod_two_pow]
    congr 1 <;> omega
  have h2 : ((a + 256 * q) &&& (b + 256 * r)) / 2 ^ 8 = q &&& r := by
    rw [Nat.and_div_two_pow]
    congr 1 <;> omega
  have h3 := Nat.div_add_mod ((a + 256 * q) &&& (b + 256 * r)) (2 ^ 8)
  rw [h1, h2] at h3
  omega
theorem val_map_add (f g : Nat → Nat) (l : List Nat) : val (l.map f) + val (l.map g) = val (l.map fun b => f b + g b) := by
  induction l with
  | nil => rfl
  | cons b t ih => simp only [List.map_cons, val]; omega
theorem map_bytes {l : List Nat} {f : Nat → Nat} (h : ∀ b ∈ l, b < 256) (hf : ∀ b, b < 256 → f b < 256) : ∀ b ∈ l.map f, b < 256 := by
  intro b hb
  obtain ⟨a, ha, rfl⟩ := List.mem_map.1 hb
  exact hf a (h a ha)

theorem and_mask (m : Nat) (hm : m < 256) (l : List Nat) (h : ∀ b ∈ l, b < 256) : val l &&& val (l.map fun _ => m) = val (l.map fun b => b &&& m) := by
  induction l with
  | nil => simp [val]
  | cons b t ih =>
    simp only [List.map_cons, val]
    rw [and_byte _ _ _ _ (h b (by simp)) hm, ih (fun b hb => h b (by simp [hb]))]
theorem shr_mask (s m : Nat) (hs : s = 2 ∨ s = 4) (hm : m < 256) (hk : ∀ b, b < 256 → ∀ e, e < s → (b / s + 256 / s * e) &&& m = (b / s) &&& m) (l : List Nat) (h : ∀ b ∈ l, b < 256) :
    val l / s &&& val (l.map fun _ => m) = val (l.map fun b => (b / s) &&& m) := by
  induction l with
  | nil => simp [val]
  | cons b t ih =>
    have hb := h b (by simp)
    simp only [List.map_cons, val]
    have e : (b + 256 * val t) / s = (b / s + 256 / s * (val t % s)) + 256 * (val t / s) := by rcases hs with rfl | rfl <;> omega
    have hlt : b / s + 256 / s * (val t % s) < 256 := by rcases hs with rfl | rfl <;> omega
    rw [e, and_byte _ _ _ _ hlt hm, hk b hb _ (Nat.mod_lt _ (by omega)), ih (fun b hb => h b (by simp [hb]))]
theorem key2 : ∀ b, b < 256 → ∀ e, e < 2 → (b / 2 + 256 / 2 * e) &&& 85 = (b / 2) &&& 85 := by decide +kernel
theorem key4 : ∀ b, b < 256 → ∀ e, e < 4 → (b / 4 + 256 / 4 * e) &&& 51 = (b / 4) &&& 51 := by decide +kernel
def s1 (b : Nat) : Nat := ((b / 2) &&& 85) + (b &&& 85)
def s2 (b : Nat) : Nat := ((b / 4) &&& 51) + (b &&& 51)
theorem s1_lt : ∀ b, b < 256 → s1 b < 256 := by decide +kernel
theorem s2_small : ∀ b, b < 256 → s2 (s1 b) % 16 ≤ 4 ∧ s2 (s1 b) / 16 ≤ 4 := by decide +kernel
theorem s3_pop : ∀ b, b < 256 → (s2 (s1 b) / 16 + s2 (s1 b) % 16) = popN 8 b := by decide +kernel
theorem step1 (l : List Nat) (h : ∀ b ∈ l, b < 256) : (val l / 2 &&& val (l.map fun _ => 85)) + (val l &&& val (l.map fun _ => 85)) = val (l.map s1) := by
  rw [shr_mask 2 85 (.inl rfl) (by omega) key2 l h, and_mask 85 (by omega) l h, val_map_add]; rfl
theorem step2 (l : List Nat) (h : ∀ b ∈ l, b < 256) : (val l / 4 &&& val (l.map fun _ => 51)) + (val l &&& val (l.map fun _ => 51)) = val (l.map s2) := by
  rw [shr_mask 4 51 (.inr rfl) (by omega) key4 l h, and_mask 51 (by omega) l h, val_map_add]; rfl
theorem val_mod16 (l : List Nat) (h : ∀ b ∈ l, b % 16 ≤ 4 ∧ b / 16 ≤ 4) : val l % 16 ≤ 4 := by
  cases l with
  | nil => simp [val]
  | cons b t =>
    have := h b (by simp)
    simp only [val]; omega
theorem and15 (a : Nat) : a &&& 15 = a % 16 := Nat.and_two_pow_sub_one_eq_mod a 4
theorem step3 (l : List Nat) (h : ∀ b ∈ l, b % 16 ≤ 4 ∧ b / 16 ≤ 4) : (val l / 16 + val l) &&& val (l.map fun _ => 15) = val (l.map fun b => b / 16 + b % 16) := by
  induction l with
  | nil => rfl
  | cons b t ih =>
    have hb := h b (by simp)
    have ht := val_mod16 t (fun b hb => h b (by simp [hb]))
    simp only [List.map_cons, val]
    have e : (b + 256 * val t) / 16 + (b + 256 * val t) = (b / 16 + 16 * (val t % 16) + b) + 256 * (val t / 16 + val t) := by omega
    rw [e, and_byte _ _ _ _ (by omega) (by omega), ih (fun b hb => h b (by simp [hb])), and15]
    omega
/-- The eight bytes of a word. -/
def bytes8 (x : Nat) : List Nat := [x % 256, x / 256 % 256, x / 65536 % 256, x / 16777216 % 256, x / 4294967296 % 256, x / 1099511627776 % 256, x / 281474976710656 % 256, x / 72057594037927936 % 256]
theorem val_bytes8 (x : Nat) (hx : x < 18446744073709551616) : val (bytes8 x) = x := by simp only [bytes8, val]; omega
theorem bytes8_lt (x : Nat) : ∀ b ∈ bytes8 x, b < 256 := by
  intro b hb
  simp only [bytes8, List.mem_cons, List.not_mem_nil, or_false] at hb
  omega
theorem popN_bytes (x : Nat) (hx : x < 18446744073709551616) : popN 64 x = (((bytes8 x).map (popN 8))).sum := by
  have h : ∀ b q f, popN (8 + f) (b + 256 * q) = popN 8 b + popN f ((b + 256 * q) / 256) := by
    intro b q f
    rw [popN_add, show (256 : Nat) = 2 ^ 8 from rfl, popN_mod]
  have g : ∀ (y f : Nat), popN (8 + f) y = popN 8 (y % 256) + popN f (y / 256) := by
    intro y f
    have := h (y % 256) (y / 256) f
    rwa [show y % 256 + 256 * (y / 256) = y by omega] at this
  have e : popN 64 x = popN (8 + (8 + (8 + (8 + (8 + (8 + (8 + (8 + 0)))))))) x := rfl
  rw [e, g, g, g, g, g, g, g, g]
  simp only [bytes8, List.map_cons, List.map_nil, List.sum_cons, List.sum_nil, Nat.div_div_eq_div_mul, popN]
theorem sum8 (p0 p1 p2 p3 p4 p5 p6 p7 : Nat) (h0 : p0 ≤ 8) (h1 : p1 ≤ 8) (h2 : p2 ≤ 8) (h3 : p3 ≤ 8) (h4 : p4 ≤ 8) (h5 : p5 ≤ 8) (h6 : p6 ≤ 8) (h7 : p7 ≤ 8) (x3 x4 x5 x6 : Nat)
    (e3 : x3 = val [p0, p1, p2, p3, p4, p5, p6, p7]) (e4 : x4 = x3 + x3 / 256) (e5 : x5 = x4 + x4 / 65536) (e6 : x6 = x5 + x5 / 4294967296) :
    x6 % 128 = p0 + p1 + p2 + p3 + p4 + p5 + p6 + p7 ∧ x6 < 1000000000000000000 := by
  simp only [val] at e3
  have a4 : x4 = (p0 + p1) + 256 * (p1 + p2) + 65536 * (p2 + p3) + 16777216 * (p3 + p4) + 4294967296 * (p4 + p5) + 1099511627776 * (p5 + p6) + 281474976710656 * (p6 + p7) + 72057594037927936 * p7 := by omega
  have a5 : x5 = (p0 + p1 + p2 + p3) + 256 * (p1 + p2 + p3 + p4) + 65536 * (p2 + p3 + p4 + p5) + 16777216 * (p3 + p4 + p5 + p6) + 4294967296 * (p4 + p5 + p6 + p7) + 1099511627776 * (p5 + p6 + p7) + 281474976710656 * (p6 + p7) + 72057594037927936 * p7 := by
    clear e3 e4
    omega
  clear e3 e4 a4 e5
  have hL : (p0 + p1 + p2 + p3) + 256 * (p1 + p2 + p3 + p4) + 65536 * (p2 + p3 + p4 + p5) + 16777216 * (p3 + p4 + p5 + p6) < 4294967296 := by omega
  have a6 : x5 / 4294967296 = (p4 + p5 + p6 + p7) + 256 * (p5 + p6 + p7) + 65536 * (p6 + p7) + 16777216 * p7 := by
    rw [show x5 = ((p0 + p1 + p2 + p3) + 256 * (p1 + p2 + p3 + p4) + 65536 * (p2 + p3 + p4 + p5) + 16777216 * (p3 + p4 + p5 + p6)) + 4294967296 * ((p4 + p5 + p6 + p7) + 256 * (p5 + p6 + p7) + 65536 * (p6 + p7) + 16777216 * p7) by omega]
    rw [Nat.add_mul_div_left _ _ (by omega), Nat.div_eq_of_lt hL, Nat.zero_add]
  rw [a6] at e6
  clear a6 hL
  subst a5
  subst e6
  refine ⟨?_, by omega⟩
  have e : ∀ a k : Nat, a < 128 → (a + 128 * k) % 128 = a := fun a k h => by omega
  refine Eq.trans ?_ (e (p0 + p1 + p2 + p3 + p4 + p5 + p6 + p7) (2 * (p1 + p2 + p3 + p4) + 512 * (p2 + p3 + p4 + p5) + 131072 * (p3 + p4 + p5 + p6) + 33554432 * (p4 + p5 + p6 + p7) + 8589934592 * (p5 + p6 + p7) + 2199023255552 * (p6 + p7) + 562949953421312 * p7 + 2 * (p5 + p6 + p7) + 512 * (p6 + p7) + 131072 * p7) (by omega))
  congr 1
  omega
theorem pop8_le : ∀ b, b < 256 → popN 8 b ≤ 8 := by decide +kernel
/-- OnesCount64's steps come to the number of bits. -/
theorem ones_key (x : Nat) (hx : x < 18446744073709551616) : ∃ x1 x2 x3 x4 x5 x6 : Nat,
    x1 = (x / 2 &&& 6148914691236517205) + (x &&& 6148914691236517205) ∧ x1 < 18446744073709551616 ∧
    x2 = (x1 / 4 &&& 3689348814741910323) + (x1 &&& 3689348814741910323) ∧ x2 < 1000000000000000000 * 5 ∧
    x3 = (x2 / 16 + x2) &&& 1085102592571150095 ∧ x3 < 1000000000000000000 ∧
    x4 = x3 + x3 / 256 ∧ x5 = x4 + x4 / 65536 ∧ x6 = x5 + x5 / 4294967296 ∧ x6 < 1000000000000000000 ∧ x6 % 128 = popN 64 x := by
  have hb := bytes8_lt x
  have hv := val_bytes8 x hx
  have m0 : val ((bytes8 x).map fun _ => 85) = 6148914691236517205 := by simp only [bytes8, List.map_cons, List.map_nil, val]
  have m1 : val (((bytes8 x).map s1).map fun _ => 51) = 3689348814741910323 := by simp only [bytes8, List.map_cons, List.map_nil, val]
  have m2 : val ((((bytes8 x).map s1).map s2).map fun _ => 15) = 1085102592571150095 := by simp only [bytes8, List.map_cons, List.map_nil, val]
  have st1 := step1 (bytes8 x) hb
  have hb1 : ∀ b ∈ (bytes8 x).map s1, b < 256 := map_bytes hb s1_lt
  have st2 := step2 ((bytes8 x).map s1) hb1
  have hb2 : ∀ b ∈ ((bytes8 x).map s1).map s2, b % 16 ≤ 4 ∧ b / 16 ≤ 4 := by
    intro b hb'
    rw [List.map_map] at hb'
    obtain ⟨a, ha, rfl⟩ := List.mem_map.1 hb'
    exact s2_small a (hb a ha)
  have st3 := step3 (((bytes8 x).map s1).map s2) hb2
  rw [m0, hv] at st1
  rw [m1] at st2
  rw [m2] at st3
  have p3 : ((((bytes8 x).map s1).map s2).map fun b => b / 16 + b % 16) = (bytes8 x).map (popN 8) := by
    rw [List.map_map, List.map_map]
    exact List.map_congr_left (fun b hb' => s3_pop b (hb b hb'))
  rw [p3] at st3
  refine ⟨_, _, _, _, _, _, rfl, ?_, rfl, ?_, rfl, ?_, rfl, rfl, rfl, ?_⟩
  · rw [st1]
    simp only [bytes8, List.map_cons, List.map_nil, List.mem_cons, forall_eq_or_imp] at hb1
    simp only [bytes8, List.map_cons, List.map_nil, val]
    omega
  · rw [st1, st2]
    simp only [bytes8, List.map_cons, List.map_nil, List.mem_cons, forall_eq_or_imp] at hb2
    simp only [bytes8, List.map_cons, List.map_nil, val]
    omega
  · rw [st1, st2, st3]
    have hp : ∀ b ∈ (bytes8 x).map (popN 8), b ≤ 8 := by
      intro b hb'
      obtain ⟨a, ha, rfl⟩ := List.mem_map.1 hb'
      exact pop8_le a (hb a ha)
    simp only [bytes8, List.map_cons, List.map_nil, List.mem_cons, forall_eq_or_imp] at hp
    simp only [bytes8, List.map_cons, List.map_nil, val]
    omega
  · rw [st1, st2, st3, popN_bytes x hx]
    have hp : ∀ b ∈ (bytes8 x).map (popN 8), b ≤ 8 := by
      intro b hb'
      obtain ⟨a, ha, rfl⟩ := List.mem_map.1 hb'
      exact pop8_le a (hb a ha)
    simp only [bytes8, List.map_cons, List.map_nil, List.mem_cons, forall_eq_or_imp] at hp
    obtain ⟨q0, q1, q2, q3, q4, q5, q6, q7, _⟩ := hp
    have := sum8 _ _ _ _ _ _ _ _ q0 q1 q2 q3 q4 q5 q6 q7 _ _ _ _ rfl rfl rfl rfl
    simp only [bytes8, List.map_cons, List.map_nil, List.sum_cons, List.sum_nil]
    refine ⟨this.2, this.1.trans (by omega)⟩
end Go.Proofs.YtclofjlonncnlaaDoor
