import Derived.Test.YtjnphoeifonenaaDoorQ06Flt
import Derived.Test.YtjnphoeifonenaaDoorQ02Tbl
import Derived.Test.YtjnphoeifonenaaDoorQ03Rnw
import Derived.Test.YtjnphoeifonenaaDoorQ08Orp

/- What climbed puts down: plain. -/
set_option linter.unusedSimpArgs false
set_option linter.unusedVariables false
set_option maxRecDepth 100000
namespace Go.Proofs.YtjnphoeifonenaaDoor
open Go.RowKit

/-- j is i, or above it. -/
def Up (Es : List En) (i j : Nat) : Prop := Ua (nxE Es) Es.length [] i j
section
variable {nx : Nat → List Nat} {n : Nat} {T T' : List Int}
theorem Ua.start {i j : Nat} (h : Ua nx n T i j) : i < n ∧ (i : Int) ∉ T := by
  induction h with
  | refl h1 h2 => exact ⟨h1, h2⟩
  | step _ _ _ _ ih => exact ih
theorem Ua.head {a j k : Nat} (ha : a < n) (ht : (a : Int) ∉ T) (hj : j ∈ nx a) (h : Ua nx n T j k) : Ua nx n T a k :=
  ((Ua.refl ha ht).step hj h.start.1 h.start.2).trans h
theorem Ua.sub {i j : Nat} (h : Ua nx n T i j) (hs : ∀ y ∈ T', y ∈ T) : Ua nx n T' i j := by
  induction h with
  | refl h1 h2 => exact .refl h1 (fun h => h2 (hs _ h))
  | step _ ha hn ht ih => exact .step ih ha hn (fun h => ht (hs _ h))
end
theorem mem_addB (i : Nat) : ∀ (us : List Nat) (ls : List (List Int)) (b : Nat) (x : Int), x ∈ (addB i us ls)[b]?.getD [] ↔ x ∈ ls[b]?.getD [] ∨ (x = (i : Int) ∧ b ∈ us ∧ b < ls.length)
  | [], ls, b, x => by simp [addB]
  | a :: us, ls, b, x => by
    rw [addB, mem_addB i us]
    by_cases hb : b = a
    · subst hb
      by_cases hl : b < ls.length
      · rw [List.getElem?_set_self hl]
        simp only [Option.getD_some, List.mem_append, List.length_set, List.mem_cons, List.not_mem_nil, or_false, true_or, true_and, hl, and_true]
        constructor
        · rintro ((h | h) | ⟨h, _⟩)
          · exact .inl h
          · exact .inr h
          · exact .inr h
        · rintro (h | h)
          · exact .inl (.inl h)
          · exact .inl (.inr h)
      · rw [List.getElem?_eq_none (by rw [List.length_set]; omega), List.getElem?_eq_none (by omega)]
        simp [hl]
    · rw [List.getElem?_set_ne (by omega)]
      simp [hb]
theorem mem_belF (Es : List En) : ∀ (f k : Nat) (ls : List (List Int)) (b : Nat) (x : Int), x ∈ (belF Es f k ls)[b]?.getD [] ↔ x ∈ ls[b]?.getD [] ∨ ∃ j : Nat, k ≤ j ∧ j < k + f ∧ x = (j : Int) ∧ b ∈ nxE Es j ∧ b < ls.length
  | 0, k, ls, b, x => by
    simp only [belF]
    constructor
    · exact .inl
    · rintro (h | ⟨j, h1, h2, _⟩)
      · exact h
      · omega
  | f + 1, k, ls, b, x => by
    rw [belF, mem_belF Es f, mem_addB, addB_len]
    constructor
    · rintro ((h | ⟨h1, h2, h3⟩) | ⟨j, h1, h2, h3, h4, h5⟩)
      · exact .inl h
      · exact .inr ⟨k, Nat.le_refl _, by omega, h1, h2, h3⟩
      · exact .inr ⟨j, by omega, by omega, h3, h4, h5⟩
    · rintro (h | ⟨j, h1, h2, h3, h4, h5⟩)
      · exact .inl (.inl h)
      · by_cases e : j = k
        · subst e
          exact .inl (.inr ⟨h3, h4, h5⟩)
        · exact .inr ⟨j, by omega, by omega, h3, h4, h5⟩
theorem mem_nxB {Es : List En} {a j : Nat} (ha : a < Es.length) : j ∈ nxB Es a ↔ j < Es.length ∧ a ∈ nxE Es j := by
  unfold nxB belowL
  rw [List.mem_map]
  constructor
  · rintro ⟨x, hx, rfl⟩
    rcases (mem_belF Es _ _ _ _ _).1 hx with h | ⟨q, _, h2, rfl, h4, _⟩
    · rw [List.getElem?_replicate, if_pos ha] at h
      simp at h
    · rw [Int.toNat_natCast]
      exact ⟨by omega, h4⟩
  · rintro ⟨h1, h2⟩
    exact ⟨(j : Int), (mem_belF Es _ _ _ _ _).2 (.inr ⟨j, Nat.zero_le _, by omega, rfl, h2, by simpa using ha⟩), by simp⟩
theorem down_up {Es : List En} {T : List Int} {x y : Nat} (h : Ua (nxB Es) Es.length T x y) : Ua (nxE Es) Es.length T y x := by
  induction h with
  | refl h1 h2 => exact .refl h1 h2
  | step hp ha hn ht ih => exact Ua.head hn ht ((mem_nxB hp.lt).1 ha).2 ih
theorem up_down {Es : List En} {T : List Int} {x y : Nat} (h : Ua (nxE Es) Es.length T x y) : Ua (nxB Es) Es.length T y x := by
  induction h with
  | refl h1 h2 => exact .refl h1 h2
  | step hp ha hn ht ih => exact Ua.head hn ht ((mem_nxB hn).2 ⟨hp.lt, ha⟩) ih

/-- What holds while it climbs. -/
structure Ki (Es : List En) (s : Cs) : Prop where
  ok : CsOk Es s
  seen : ∀ y, y ∈ s.l → y ∈ s.p ++ s.d
  trp : ∀ (x : Nat) (c : Int), (x : Int) ∈ s.p → s.tr[x]? = some c → ∀ (i a : Nat), i < c.toNat → (nxE Es x)[i]? = some a → (a : Int) ∈ s.p ++ s.d
  trd : ∀ x : Nat, (x : Int) ∈ s.d → ∀ a ∈ nxE Es x, (a : Int) ∈ s.p ++ s.d
  tz : ∀ x : Nat, x < Es.length → (x : Int) ∉ s.p ++ s.d → s.tr[x]? = some 0
  st : ∀ (p1 : List Int) (x : Nat) (p2 : List Int), s.p = p1 ++ (x : Int) :: p2 → (∀ y : Nat, (y : Int) ∈ p2 → Up Es x y) ∧ ∃ D E, s.d = D ++ E ∧ (∀ y : Nat, (y : Int) ∈ E → Up Es x y) ∧ ∀ y : Nat, (y : Int) ∈ D → ∀ a ∈ nxE Es y, (a : Int) ∈ D ∨ (a : Int) ∈ p1
  dn : ∀ (d1 : List Int) (x : Nat) (d2 : List Int), s.d = d1 ++ (x : Int) :: d2 → ∃ D E, d1 = D ++ E ∧ (∀ y : Nat, (y : Int) ∈ E → Up Es x y) ∧ ∀ y : Nat, (y : Int) ∈ D → ∀ a ∈ nxE Es y, (a : Int) ∈ D ∨ (a : Int) ∈ d2 ∨ (a : Int) ∈ s.p
theorem snoc_split {p p1 p2 : List Int} {x y : Int} (h : p ++ [y] = p1 ++ x :: p2) : (p2 = [] ∧ x = y ∧ p1 = p) ∨ ∃ p2', p2 = p2' ++ [y] ∧ p = p1 ++ x :: p2' := by
  rcases List.eq_nil_or_concat p2 with e | ⟨p2', z, e⟩
  · subst e
    have h2 := List.append_inj' h rfl
    injection h2.2 with h3
    exact .inl ⟨rfl, h3.symm, h2.1.symm⟩
  · rw [List.concat_eq_append] at e
    subst e
    have h1 : p ++ [y] = (p1 ++ x :: p2') ++ [z] := by rw [h]; simp
    have h2 := List.append_inj' h1 rfl
    injection h2.2 with h3
    subst h3
    exact .inr ⟨p2', rfl, h2.1⟩
theorem Ki.enter {Es : List En} {s : Cs} (h : Ki Es s) {i : Nat} (hi : i < Es.length) (hn : Es.length ≤ 1000) (hr : s.p = [] ∨ ∃ (q : List Int) (x : Nat), s.p = q ++ [(x : Int)] ∧ i ∈ nxE Es x) :
    Ki Es (enterS s (i : Int)) ∧ (i : Int) ∈ (enterS s (i : Int)).p ++ (enterS s (i : Int)).d := by
  have hok := h.ok.enter hi hn
  cases hh : hasB s.l (i : Int) with
  | true =>
    have e : enterS s (i : Int) = s := by
      obtain ⟨l, p, d, t⟩ := s
      unfold enterS
      simp only at hh ⊢
      rw [hh, putL_no (by rw [hh]; simp)]
      rfl
    rw [e]
    exact ⟨h, h.seen _ ((hasB_iff _ _).1 hh)⟩
  | false =>
    have e : enterS s (i : Int) = ⟨putL s.l (i : Int), s.p ++ [(i : Int)], s.d, s.tr⟩ := by
      unfold enterS
      rw [hh]
      rfl
    have hni : (i : Int) ∉ s.p ++ s.d := fun hm => by
      have := (hasB_iff s.l (i : Int)).2 (h.ok.mem _ hm)
      rw [hh] at this
      cases this
    rw [e] at hok ⊢
    have hup : ∀ y : Int, y ∈ s.p ++ s.d → y ∈ (s.p ++ [(i : Int)]) ++ s.d := fun y hy => by
      rcases List.mem_append.1 hy with h1 | h1
      · simp [h1]
      · simp [h1]
    refine ⟨⟨hok, fun y hy => ?_, fun x c hx hc j a hj ha => ?_, fun x hx a ha => hup _ (h.trd x hx a ha), fun x hx hnx => h.tz x hx (fun hm => hnx (hup _ hm)), fun p1 x p2 hp => ?_, fun d1 x d2 hd => ?_⟩, by simp⟩
    · simp only at hy ⊢
      rcases (mem_putL s.l (i : Int) y).1 hy with h1 | ⟨h1, _⟩
      · exact hup _ (h.seen y h1)
      · subst h1; simp
    · simp only at hx hc
      rcases List.mem_append.1 hx with hx | hx
      · exact hup _ (h.trp x c hx hc j a hj ha)
      · have hx2 : x = i := by simp at hx; omega
        subst hx2
        rw [h.tz x hi hni] at hc
        injection hc with hc
        subst hc
        simp at hj
    · simp only at hp ⊢
      rcases snoc_split hp with ⟨rfl, hx, rfl⟩ | ⟨p2', rfl, hp'⟩
      · refine ⟨by simp, s.d, [], by simp, by simp, fun y hy a ha => ?_⟩
        rcases List.mem_append.1 (h.trd y hy a ha) with h1 | h1
        · exact .inr h1
        · exact .inl h1
      · obtain ⟨k1, D, E, k2, k3, k4⟩ := h.st p1 x p2' hp'
        refine ⟨fun y hy => ?_, D, E, k2, k3, k4⟩
        rcases List.mem_append.1 hy with hy | hy
        · exact k1 y hy
        · have hy2 : y = i := by simp at hy; omega
          subst hy2
          rcases hr with hr | ⟨q, z, hq, hz⟩
          · rw [hr] at hp'; simp at hp'
          · have hxz : Up Es x z := by
              rw [hp'] at hq
              rcases snoc_split (p := q) (y := (z : Int)) hq.symm with ⟨rfl, hx, rfl⟩ | ⟨p3, rfl, _⟩
              · have : x = z := by omega
                subst this
                have hl := h.ok.lo (x : Int) (by rw [hp']; simp)
                exact .refl (by omega) (by simp)
              · exact k1 z (by simp)
            exact hxz.step hz hi (by simp)
    · simp only at hd
      obtain ⟨D, E, k1, k2, k3⟩ := h.dn d1 x d2 hd
      refine ⟨D, E, k1, k2, fun y hy a ha => ?_⟩
      rcases k3 y hy a ha with h1 | h1 | h1
      · exact .inl h1
      · exact .inr (.inl h1)
      · exact .inr (.inr (by simp [h1]))
theorem Ki.pop {Es : List En} {s : Cs} (h : Ki Es s) {q : List Int} {x : Nat} {c : Int} (hp : s.p = q ++ [(x : Int)]) (hc : s.tr[x]? = some c) (hl : (nxE Es x).length ≤ c.toNat) (hok : CsOk Es ⟨s.l, q, s.d ++ [(x : Int)], s.tr⟩) : Ki Es ⟨s.l, q, s.d ++ [(x : Int)], s.tr⟩ := by
  have hset : ∀ y : Int, y ∈ s.p ++ s.d ↔ y ∈ q ++ (s.d ++ [(x : Int)]) := fun y => by
    rw [hp]
    simp only [List.mem_append, List.mem_singleton]
    constructor
    · rintro ((h | h) | h)
      · exact .inl h
      · exact .inr (.inr h)
      · exact .inr (.inl h)
    · rintro (h | h | h)
      · exact .inl (.inl h)
      · exact .inr h
      · exact .inl (.inr h)
  refine ⟨hok, fun y hy => (hset y).1 (h.seen y hy), fun z c' hz hc' j a hj ha => (hset _).1 (h.trp z c' (by rw [hp]; simp only at hz; simp [hz]) hc' j a hj ha), fun z hz a ha => ?_, fun z hz hnz => h.tz z hz (fun hm => hnz ((hset _).1 hm)), fun p1 z p2 hq => ?_, fun d1 z d2 hd => ?_⟩
  · refine (hset _).1 ?_
    rcases List.mem_append.1 hz with hz | hz
    · exact h.trd z hz a ha
    · have hz2 : z = x := by simp at hz; omega
      subst hz2
      obtain ⟨j, hj, he⟩ := List.getElem_of_mem ha
      exact h.trp z c (by rw [hp]; simp) hc j a (by omega) (by rw [List.getElem?_eq_getElem hj, he])
  · simp only at hq ⊢
    obtain ⟨k1, D, E, k2, k3, k4⟩ := h.st p1 z (p2 ++ [(x : Int)]) (by rw [hp, hq]; simp)
    refine ⟨fun y hy => k1 y (by simp [hy]), D, E ++ [(x : Int)], by rw [k2]; simp, fun y hy => ?_, k4⟩
    rcases List.mem_append.1 hy with hy | hy
    · exact k3 y hy
    · have hy2 : y = x := by simp at hy; omega
      subst hy2
      exact k1 y (by simp)
  · simp only at hd ⊢
    rcases snoc_split hd with ⟨rfl, hx, rfl⟩ | ⟨d2', rfl, hd'⟩
    · have hx' : z = x := by omega
      subst hx'
      obtain ⟨_, D, E, k2, k3, k4⟩ := h.st q z [] (by rw [hp])
      exact ⟨D, E, k2, k3, fun y hy a ha => by
        rcases k4 y hy a ha with h1 | h1
        · exact .inl h1
        · exact .inr (.inr h1)⟩
    · obtain ⟨D, E, k1, k2, k3⟩ := h.dn d1 z d2' hd'
      refine ⟨D, E, k1, k2, fun y hy a ha => ?_⟩
      rcases k3 y hy a ha with h1 | h1 | h1
      · exact .inl h1
      · exact .inr (.inl (by simp [h1]))
      · rw [hp] at h1
        rcases List.mem_append.1 h1 with h1 | h1
        · exact .inr (.inr h1)
        · exact .inr (.inl (by simp at h1; simp [h1]))
theorem enterS_trs (s : Cs) (i : Int) : (enterS s i).tr = s.tr := rfl
theorem Ki.setTr {Es : List En} {s : Cs} (k : Ki Es s) (tr : List Int) (hok : CsOk Es { s with tr := tr })
    (h1 : ∀ (x : Nat) (c : Int), (x : Int) ∈ s.p → tr[x]? = some c → ∀ (i a : Nat), i < c.toNat → (nxE Es x)[i]? = some a → (a : Int) ∈ s.p ++ s.d)
    (h2 : ∀ x : Nat, x < Es.length → (x : Int) ∉ s.p ++ s.d → tr[x]? = some 0) : Ki Es { s with tr := tr } := ⟨hok, k.seen, h1, k.trd, h2, k.st, k.dn⟩
theorem Ki.step {Es : List En} (hok : EsOk Es) {s s' : Cs} (h : Ki Es s) (hs : cstep Es s = some s') : Ki Es s' := by
  rcases List.eq_nil_or_concat s.p with hp | ⟨q, z, hp⟩
  · unfold cstep at hs
    rw [hp] at hs
    cases hs
  · rw [List.concat_eq_append] at hp
    have hzl := h.ok.lo z (by rw [hp]; simp)
    obtain ⟨x, rfl⟩ := Int.eq_ofNat_of_zero_le hzl.1
    have hxl : x < s.tr.length := by rw [h.ok.len]; omega
    obtain ⟨c, hc⟩ := at_lt hxl
    have hcb := h.ok.tr x c hc
    obtain ⟨cn, rfl⟩ := Int.eq_ofNat_of_zero_le hcb.1
    by_cases hl : (nxE Es x).length ≤ cn
    · obtain ⟨g1, g2, _⟩ := cstep_done h.ok hp hc hl
      rw [g1] at hs
      injection hs with hs
      subst hs
      exact h.pop hp hc (by simpa using hl) g2
    · obtain ⟨a, ha⟩ := at_lt (show cn < (nxE Es x).length by omega)
      obtain ⟨g1, g2, _⟩ := cstep_go hok h.ok hp hc ha
      rw [g1] at hs
      injection hs with hs
      subst hs
      have ham := List.mem_of_getElem? ha
      have han := hok.lt x a ham
      obtain ⟨k, hin⟩ := h.enter han hok.n (.inr ⟨q, x, hp, ham⟩)
      have hxs : (x : Int) ∈ (enterS s (a : Int)).p ++ (enterS s (a : Int)).d := by
        have : (x : Int) ∈ s.p ++ s.d := by rw [hp]; simp
        unfold enterS
        simp only
        split
        · exact this
        · rcases List.mem_append.1 this with h1 | h1 <;> simp [h1]
      refine k.setTr _ g2 (fun y c' hy hc' j b hj hb => ?_) (fun y hy hny => ?_)
      · by_cases e : y = x
        · subst e
          rw [List.getElem?_set_self hxl] at hc'
          injection hc' with hc'
          subst hc'
          by_cases ej : j = cn
          · subst ej
            rw [ha] at hb
            injection hb with hb
            subst hb
            exact hin
          · have hc2 : (enterS s (a : Int)).tr[y]? = some (cn : Int) := by rw [enterS_trs]; exact hc
            exact k.trp y (cn : Int) hy hc2 j b (by omega) hb
        · rw [List.getElem?_set_ne (by omega)] at hc'
          have hc2 : (enterS s (a : Int)).tr[y]? = some c' := by rw [enterS_trs]; exact hc'
          exact k.trp y c' hy hc2 j b hj hb
      · by_cases e : y = x
        · subst e
          exact absurd hxs hny
        · rw [List.getElem?_set_ne (by omega)]
          have := k.tz y hy hny
          rw [enterS_trs] at this
          exact this
theorem Ki.run {Es : List En} (hok : EsOk Es) : ∀ (f : Nat) {s : Cs}, Ki Es s → Ki Es (crun Es f s)
  | 0, s, h => h
  | f + 1, s, h => by
    rw [crun]
    cases hc : cstep Es s with
    | none => exact h
    | some s' => exact Ki.run hok f (h.step hok hc)
theorem Ki.zero (Es : List En) : Ki Es (cs0 Es.length) where
  ok := ⟨by simp [cs0], fun k c hk => by
    have := List.eq_of_mem_replicate (List.mem_of_getElem? hk)
    omega, by simp [cs0], by simp [cs0], by simp [cs0]⟩
  seen := by simp [cs0]
  trp := fun x c hx => by simp [cs0] at hx
  trd := fun x hx => by simp [cs0] at hx
  tz := fun x hx _ => by simp [cs0, hx]
  st := fun p1 x p2 h => by simp [cs0] at h
  dn := fun p1 x p2 h => by simp [cs0] at h
theorem enterS_sub (s : Cs) (i : Int) : ∀ y, y ∈ s.p ++ s.d → y ∈ (enterS s i).p ++ (enterS s i).d := fun y hy => by
  unfold enterS
  simp only
  split
  · exact hy
  · rcases List.mem_append.1 hy with h1 | h1 <;> simp [h1]
theorem cstep_sub {Es : List En} {s s' : Cs} (hs : cstep Es s = some s') : ∀ y, y ∈ s.p ++ s.d → y ∈ s'.p ++ s'.d := fun y hy => by
  unfold cstep at hs
  split at hs
  · cases hs
  · rename_i x hx
    split at hs
    · injection hs with hs
      subst hs
      simp only
      exact enterS_sub s _ y hy
    · injection hs with hs
      subst hs
      obtain ⟨q, hq⟩ := last_at hx
      rw [hq] at hy
      simp only [hq, List.dropLast_concat]
      simp only [List.mem_append, List.mem_singleton] at hy ⊢
      rcases hy with (h | h) | h
      · exact .inl h
      · exact .inr (.inr h)
      · exact .inr (.inl h)
theorem crun_sub {Es : List En} : ∀ (f : Nat) {s : Cs}, ∀ y, y ∈ s.p ++ s.d → y ∈ (crun Es f s).p ++ (crun Es f s).d
  | 0, s, y, h => h
  | f + 1, s, y, h => by
    rw [crun]
    cases hc : cstep Es s with
    | none => exact h
    | some s' => exact crun_sub f y (cstep_sub hc y h)
theorem climb_ki {Es : List En} (hok : EsOk Es) : ∀ (k : Nat) (s : Cs), k ≤ Es.length → climbTo Es k s → Ki Es s ∧ s.p = [] ∧ ∀ j : Nat, j < k → (j : Int) ∈ s.d
  | 0, s, _, h => by
    have e : s = cs0 Es.length := h
    subst e
    exact ⟨Ki.zero Es, rfl, fun j hj => by omega⟩
  | k + 1, s, hk, h => by
    obtain ⟨s0, f, h0, h1, h2⟩ := h
    obtain ⟨k0, p0, d0⟩ := climb_ki hok k s0 (by omega) h0
    obtain ⟨k1, hin⟩ := k0.enter (i := k) (by omega) hok.n (.inl p0)
    subst h1
    refine ⟨k1.run hok f, h2, fun j hj => ?_⟩
    have hm : (j : Int) ∈ (enterS s0 (k : Int)).p ++ (enterS s0 (k : Int)).d := by
      by_cases e : j = k
      · subst e; exact hin
      · exact enterS_sub s0 _ _ (by simp [d0 j (by omega)])
    have := crun_sub (Es := Es) f _ hm
    rw [h2] at this
    simpa using this
end Go.Proofs.YtjnphoeifonenaaDoor

/- What round answers: the first one that is above itself. Plain. -/
set_option linter.unusedSimpArgs false
set_option linter.unusedVariables false
set_option maxRecDepth 100000
namespace Go.Proofs.YtjnphoeifonenaaDoor
open Go.RowKit

/-- One is above itself. -/
def Cyc (Es : List En) (i : Nat) : Prop := i < Es.length ∧ ∃ j ∈ nxE Es i, Up Es j i
theorem Ua.first {nx : Nat → List Nat} {n : Nat} {T : List Int} {y z : Nat} (h : Ua nx n T y z) (hne : y ≠ z) : ∃ j ∈ nx y, Ua nx n T j z := by
  induction h with
  | refl _ _ => exact absurd rfl hne
  | @step z' a hp ha hn ht ih =>
    by_cases e : y = z'
    · subst e
      exact ⟨a, ha, .refl hn ht⟩
    · obtain ⟨j, hj, hu⟩ := ih e
      exact ⟨j, hj, hu.step ha hn ht⟩
theorem minL_le : ∀ (l : List Int), ∀ y ∈ l, minL l ≤ y
  | [], y, h => by simp at h
  | [a], y, h => by simp at h; simp [minL, h]
  | a :: b :: l, y, h => by
    rw [minL]
    · rcases List.mem_cons.1 h with rfl | h
      · exact Int.min_le_left _ _
      · exact Int.le_trans (Int.min_le_right _ _) (minL_le (b :: l) y h)
    · simp
theorem minL_in : ∀ (l : List Int), l ≠ [] → minL l ∈ l
  | [], h => absurd rfl h
  | [x], _ => by simp [minL]
  | x :: y :: l, _ => by
    rw [minL]
    · have := minL_in (y :: l) (by simp)
      by_cases hx : x ≤ minL (y :: l)
      · rw [Int.min_eq_left hx]; simp
      · rw [Int.min_eq_right (by omega)]; exact List.mem_cons_of_mem _ this
    · simp
/-- What is left of all below the last one that climbed on is above it. -/
theorem group_up {Es : List En} {s : Cs} (h : Ki Es s) (hp : s.p = []) (hall : ∀ j : Nat, j < Es.length → (j : Int) ∈ s.d) {d1 d2 T : List Int} {x y : Nat} (hd : s.d = d1 ++ (x : Int) :: d2) (hT : ∀ z ∈ d2, z ∈ T) (hG : Ua (nxB Es) Es.length T x y) : Up Es x y := by
  have hu := down_up hG
  have hx := hG.start
  obtain ⟨D, E, k1, k2, k3⟩ := h.dn d1 x d2 hd
  by_cases e : y = x
  · subst e
    exact .refl hx.1 (by simp)
  · have hy := hall y hG.lt
    rw [hd] at hy
    rcases List.mem_append.1 hy with hy | hy
    · rw [k1] at hy
      rcases List.mem_append.1 hy with hy | hy
      · exfalso
        have key : ∀ z, Ua (nxE Es) Es.length T y z → (z : Int) ∈ D := fun z hz => by
          induction hz with
          | refl _ _ => exact hy
          | step hz ha hn ht ih =>
            rcases k3 _ ih _ ha with h1 | h1 | h1
            · exact h1
            · exact absurd (hT _ h1) ht
            · rw [hp] at h1; simp at h1
        have hxD := key x hu
        have hnd := h.ok.nd
        rw [hp, List.nil_append, hd, k1] at hnd
        rw [List.nodup_append] at hnd
        exact hnd.2.2 (x : Int) (by simp [hxD]) (x : Int) (by simp) rfl
      · exact k2 y hy
    · rcases List.mem_cons.1 hy with h1 | h1
      · exact absurd (by omega) e
      · exact absurd (hT _ h1) hG.out
/-- Ways between two that are above each other keep out of what is closed. -/
theorem mut_out {Es : List En} {T : List Int} (hc : ∀ i j : Nat, (i : Int) ∈ T → Up Es i j → Up Es j i → (j : Int) ∈ T) {i j z : Nat} (hij : Up Es i j) (hi : (i : Int) ∉ T) (h : Up Es j z) : Up Es z i → Ua (nxE Es) Es.length T j z := by
  unfold Up at h
  induction h with
  | refl h1 h2 =>
    intro hz
    exact .refl h1 (fun ht => hi (hc j i ht hz hij))
  | @step z' a hp ha hn ht ih =>
    intro hz
    have hz' : Up Es z' i := Ua.head hp.lt (by simp) ha hz
    refine (ih hz').step ha hn (fun hta => hi (hc a i hta hz ?_))
    exact hij.trans (hp.step ha hn ht)
structure Rk (Es : List En) (d2 T : List Int) (first : Int) : Prop where
  a : ∀ y ∈ d2, y ∈ T
  b : ∀ i j : Nat, (i : Int) ∈ T → Up Es i j → Up Es j i → (j : Int) ∈ T
  c : ∀ i : Nat, (i : Int) ∈ T → Cyc Es i → 0 ≤ first ∧ first ≤ (i : Int)
  d : first = -1 ∨ ∃ c : Nat, first = (c : Int) ∧ Cyc Es c
theorem round_is {Es : List En} (hn : Es.length ≤ 1000000) {s : Cs} (h : Ki Es s) (hp : s.p = []) (hall : ∀ j : Nat, j < Es.length → (j : Int) ∈ s.d) : ∀ (k : Nat) (d1 d2 T : List Int) (first : Int), d1.length = k → s.d = d1 ++ d2 → Rk Es d2 T first →
    (∀ i : Nat, Cyc Es i → 0 ≤ roundL Es d1.reverse T first ∧ roundL Es d1.reverse T first ≤ (i : Int)) ∧ (roundL Es d1.reverse T first = -1 ∨ ∃ c : Nat, roundL Es d1.reverse T first = (c : Int) ∧ Cyc Es c)
  | 0, d1, d2, T, first, hk, hd, hR => by
    have e := List.eq_nil_of_length_eq_zero hk
    subst e
    simp only [List.reverse_nil, roundL]
    refine ⟨fun i hi => hR.c i (hR.a _ ?_) hi, hR.d⟩
    have := hall i hi.1
    rw [hd] at this
    simpa using this
  | k + 1, d1, d2, T, first, hk, hd, hR => by
    rcases List.eq_nil_or_concat d1 with e | ⟨d1', z, e⟩
    · subst e; simp at hk
    · rw [List.concat_eq_append] at e
      subst e
      have hzl := h.ok.lo z (by rw [hp, hd]; simp)
      obtain ⟨x, rfl⟩ := Int.eq_ofNat_of_zero_le hzl.1
      rw [List.reverse_append, List.reverse_singleton, List.singleton_append, roundL]
      have hd' : s.d = d1' ++ ((x : Int) :: d2) := by rw [hd]; simp
      have m2 : ∀ y : Int, y ∈ (reachL Es.length (nxB Es) [(x : Int)] T).2 ↔ ∃ j : Nat, y = (j : Int) ∧ Ua (nxB Es) Es.length T x j := fun y => by
        rw [reach_mem2 hn]
        constructor
        · rintro ⟨i, j, hi, hy, hu⟩
          have : i = x := by simp at hi; omega
          subst this
          exact ⟨j, hy, hu⟩
        · rintro ⟨j, hy, hu⟩
          exact ⟨x, j, by simp, hy, hu⟩
      have m1 : ∀ y : Int, y ∈ (reachL Es.length (nxB Es) [(x : Int)] T).1 ↔ y ∈ T ∨ y ∈ (reachL Es.length (nxB Es) [(x : Int)] T).2 := fun y => reach_mem1 hn _ y
      have hnd := (reachL_inv hn (nxB Es) [(x : Int)] T).nd
      obtain ⟨G, hG⟩ : ∃ G, (reachL Es.length (nxB Es) [(x : Int)] T).2 = G := ⟨_, rfl⟩
      obtain ⟨T', hT'⟩ : ∃ T', (reachL Es.length (nxB Es) [(x : Int)] T).1 = T' := ⟨_, rfl⟩
      rw [hG, hT'] at m1
      rw [hG] at m2 hnd
      simp only [hG, hT']
      have hup : ∀ y : Nat, (y : Int) ∈ G → Up Es x y ∧ Up Es y x := fun y hy => by
        obtain ⟨j, e, hu⟩ := (m2 _).1 hy
        have : y = j := by omega
        subst this
        exact ⟨group_up h hp hall hd' hR.a hu, (down_up hu).sub (by simp)⟩
      have hout : ∀ y : Nat, (y : Int) ∈ G → (y : Int) ∉ T := fun y hy => by
        obtain ⟨j, e, hu⟩ := (m2 _).1 hy
        have : y = j := by omega
        subst this
        exact hu.out
      have hclo : ∀ i j : Nat, (i : Int) ∈ G → Up Es i j → Up Es j i → (j : Int) ∈ G := fun i j hi h1 h2 => by
        obtain ⟨i', e, hu⟩ := (m2 _).1 hi
        have : i = i' := by omega
        subst this
        have hw := mut_out hR.b h1 hu.out h2 (Ua.refl hu.lt (by simp))
        exact (m2 _).2 ⟨j, rfl, hu.trans (up_down hw)⟩
      have hcyc : roundG Es G = true → ∀ y : Nat, (y : Int) ∈ G → Cyc Es y := fun hg y hy => by
        have hyl : y < Es.length := (hup y hy).1.lt
        match G, hg, hy, hup, hnd with
        | [], _, hy, _, _ => simp at hy
        | [g], hg, hy, _, _ =>
          have e : (y : Int) = g := by simpa using hy
          subst e
          have hself : y ∈ nxE Es y := by simpa [roundG] using hg
          exact ⟨hyl, y, hself, .refl hyl (by simp)⟩
        | g1 :: g2 :: gs, hg, hy, hup, hnd =>
          obtain ⟨w, hw, hne⟩ : ∃ w : Int, w ∈ g1 :: g2 :: gs ∧ w ≠ (y : Int) := by
            by_cases e : g1 = (y : Int)
            · refine ⟨g2, by simp, fun e2 => ?_⟩
              have := (List.nodup_cons.1 hnd).1
              exact this (by rw [e, ← e2]; simp)
            · exact ⟨g1, by simp, e⟩
          obtain ⟨wn, e, _⟩ := (m2 w).1 hw
          subst e
          have hyw : Up Es y wn := (hup y hy).2.trans (hup wn hw).1
          have hwy : Up Es wn y := (hup wn hw).2.trans (hup y hy).1
          obtain ⟨j, hj, hu⟩ := Ua.first hyw (by omega)
          exact ⟨hyl, j, hj, hu.trans hwy⟩
      have hgr : ∀ i : Nat, (i : Int) ∈ G → Cyc Es i → roundG Es G = true := fun i hi hc => by
        obtain ⟨hil, j, hj, hu⟩ := hc
        have hjG : (j : Int) ∈ G := hclo i j hi ((Ua.refl hil (by simp)).step hj hu.start.1 (by simp)) hu
        match G, hi, hjG with
        | [], hi, _ => simp at hi
        | [g], hi, hjG =>
          have e1 : (i : Int) = g := by simpa using hi
          have e2 : (j : Int) = g := by simpa using hjG
          have : j = i := by omega
          subst this
          subst e1
          simpa [roundG] using hj
        | g1 :: g2 :: gs, _, _ => rfl
      have hlo : ∀ y ∈ G, 0 ≤ y := fun y hy => by
        obtain ⟨j, e, _⟩ := (m2 y).1 hy
        omega
      refine round_is hn h hp hall k d1' ((x : Int) :: d2) T' _ (by simpa using hk) hd' ⟨fun y hy => ?_, fun i j hi h1 h2 => ?_, fun i hi hc => ?_, ?_⟩
      · rcases List.mem_cons.1 hy with rfl | hy
        · by_cases hx : (x : Int) ∈ T
          · exact (m1 _).2 (.inl hx)
          · exact (m1 _).2 (.inr ((m2 _).2 ⟨x, rfl, .refl (by omega) hx⟩))
        · exact (m1 _).2 (.inl (hR.a y hy))
      · rcases (m1 _).1 hi with hi | hi
        · exact (m1 _).2 (.inl (hR.b i j hi h1 h2))
        · exact (m1 _).2 (.inr (hclo i j hi h1 h2))
      · rcases (m1 _).1 hi with hi | hi
        · have := hR.c i hi hc
          split
          · rename_i hcond
            have hne : G ≠ [] := fun e => by rw [e] at hcond; simp [roundG] at hcond
            have := hlo _ (minL_in G hne)
            omega
          · exact this
        · have h1 := hgr i hi hc
          have h2 := minL_le G _ hi
          split
          · exact ⟨hlo _ (minL_in G (fun e => by rw [e] at hi; simp at hi)), h2⟩
          · rename_i hcond
            have h3 : ¬ (first < 0 ∨ minL G < first) := fun hh => hcond ⟨h1, hh⟩
            omega
      · split
        · rename_i hcond
          right
          have hne : G ≠ [] := fun e => by rw [e] at hcond; simp [roundG] at hcond
          have hm := minL_in G hne
          obtain ⟨j, e, _⟩ := (m2 _).1 hm
          exact ⟨j, e, hcyc hcond.1 j (by rw [← e]; exact hm)⟩
        · exact hR.d
/-- What round answers, from what climbed put down. -/
theorem round_says {Es : List En} (hok : EsOk Es) {s : Cs} (h : climbTo Es Es.length s) :
    (∀ i : Nat, Cyc Es i → 0 ≤ roundL Es s.d.reverse [] (-1) ∧ roundL Es s.d.reverse [] (-1) ≤ (i : Int)) ∧ (roundL Es s.d.reverse [] (-1) = -1 ∨ ∃ c : Nat, roundL Es s.d.reverse [] (-1) = (c : Int) ∧ Cyc Es c) := by
  obtain ⟨k, hp, hall⟩ := climb_ki hok Es.length s (Nat.le_refl _) h
  exact round_is (by have := hok.n; omega) k hp hall _ s.d [] [] (-1) rfl (by simp) ⟨by simp, by simp, by simp, .inl rfl⟩
end Go.Proofs.YtjnphoeifonenaaDoor

/- Order puts each behind all above it: plain. -/
set_option linter.unusedSimpArgs false
set_option linter.unusedVariables false
set_option maxRecDepth 100000
namespace Go.Proofs.YtjnphoeifonenaaDoor
open Go.RowKit

def Wt (ws : List Int) (u : Nat) : Int := ws[u]?.getD 0
theorem count_addB (i : Nat) : ∀ (us : List Nat) (ls : List (List Int)) (b : Nat) (x : Int), b < ls.length → ((addB i us ls)[b]?.getD []).count x = (ls[b]?.getD []).count x + (if x = (i : Int) then us.count b else 0)
  | [], ls, b, x, _ => by simp [addB]
  | a :: us, ls, b, x, hb => by
    rw [addB, count_addB i us _ b x (by rw [List.length_set]; exact hb)]
    by_cases e : b = a
    · subst e
      rw [List.getElem?_set_self hb]
      simp only [Option.getD_some, List.count_append, List.count_cons, List.count_nil]
      by_cases hx : x = (i : Int)
      · subst hx
        simp
        omega
      · have hx2 : ¬ ((i : Int) = x) := fun h => hx h.symm
        simp [hx, hx2]
    · rw [List.getElem?_set_ne (by omega)]
      have e2 : (a == b) = false := by simp <;> omega
      simp only [List.count_cons, e2]
      simp
theorem count_belF (Es : List En) : ∀ (f k : Nat) (ls : List (List Int)) (b u : Nat), b < ls.length → ((belF Es f k ls)[b]?.getD []).count (u : Int) = (ls[b]?.getD []).count (u : Int) + (if k ≤ u ∧ u < k + f then (nxE Es u).count b else 0)
  | 0, k, ls, b, u, _ => by
    rw [if_neg (by omega)]
    simp [belF]
  | f + 1, k, ls, b, u, hb => by
    rw [belF, count_belF Es f (k + 1) _ b u (by rw [addB_len]; exact hb), count_addB k _ ls b _ hb]
    by_cases e : u = k
    · subst e
      rw [if_pos rfl, if_neg (by omega), if_pos (by omega)]
      try omega
    · rw [if_neg (by omega)]
      by_cases h : k + 1 ≤ u ∧ u < k + 1 + f
      · rw [if_pos h, if_pos (by omega)]; try omega
      · rw [if_neg h, if_neg (by omega)]; try omega
theorem count_bel (Es : List En) {a u : Nat} (ha : a < Es.length) (hu : u < Es.length) : ((belowL Es)[a]?.getD []).count (u : Int) = (nxE Es u).count a := by
  unfold belowL
  rw [count_belF Es _ _ _ _ _ (by simpa using ha), if_pos (by omega), List.getElem?_replicate, if_pos ha]
  simp
theorem dec1_ws (ws h : List Int) (v u : Nat) (hv : v < ws.length) : Wt (dec1 ws h (v : Int)).1 u = if u = v then Wt ws u - 1 else Wt ws u := by
  unfold dec1 Wt
  simp only [Int.toNat_natCast]
  by_cases e : u = v
  · subst e
    rw [if_pos rfl, List.getElem?_set_self hv]
    rfl
  · rw [if_neg e, List.getElem?_set_ne (by omega)]
theorem dec1_len (ws h : List Int) (v : Int) : (dec1 ws h v).1.length = ws.length := by simp [dec1]
theorem decF_len : ∀ (us ws h : List Int), (decF us ws h).1.length = ws.length
  | [], ws, h => rfl
  | v :: us, ws, h => by rw [decF, decF_len us, dec1_len]
theorem decF_ws : ∀ (us ws h : List Int) (u : Nat), (∀ v ∈ us, 0 ≤ v ∧ v < (ws.length : Int)) → Wt (decF us ws h).1 u = Wt ws u - (us.count (u : Int) : Int)
  | [], ws, h, u, _ => by simp [decF]
  | v :: us, ws, h, u, hus => by
    have hv := hus v (by simp)
    obtain ⟨vn, rfl⟩ := Int.eq_ofNat_of_zero_le hv.1
    rw [decF, decF_ws us _ _ u (fun w hw => by rw [dec1_len]; exact hus w (by simp [hw])), dec1_ws ws h vn u (by omega), List.count_cons]
    by_cases e : u = vn
    · subst e
      simp
      omega
    · have e2 : ((vn : Int) == (u : Int)) = false := by simp <;> omega
      rw [if_neg e, e2]
      simp
theorem pushL_mem (h : List Int) (x y : Int) : y ∈ pushL h x ↔ y ∈ h ∨ y = x := by
  rw [(pushL_perm h x).mem_iff]
  simp
theorem decF_mem : ∀ (us ws h : List Int), (∀ v ∈ us, 0 ≤ v ∧ v < (ws.length : Int)) → (∀ u : Nat, u < ws.length → (us.count (u : Int) : Int) ≤ Wt ws u) → ∀ y : Nat, y < ws.length → ((y : Int) ∈ (decF us ws h).2 ↔ (y : Int) ∈ h ∨ (0 < Wt ws y ∧ Wt ws y = (us.count (y : Int) : Int)))
  | [], ws, h, _, _, y, _ => by
    simp only [decF, List.count_nil]
    constructor
    · exact .inl
    · rintro (h | ⟨h1, h2⟩)
      · exact h
      · omega
  | v :: us, ws, h, hus, hc, y, hy => by
    have hv := hus v (by simp)
    obtain ⟨vn, rfl⟩ := Int.eq_ofNat_of_zero_le hv.1
    have hvl : vn < ws.length := by omega
    have hcv := hc vn hvl
    rw [List.count_cons] at hcv
    simp at hcv
    have hw : ∀ u, Wt (dec1 ws h (vn : Int)).1 u = if u = vn then Wt ws u - 1 else Wt ws u := fun u => dec1_ws ws h vn u hvl
    have hcc : ∀ u : Nat, (((vn : Int) :: us).count (u : Int) : Int) = (us.count (u : Int) : Int) + (if u = vn then 1 else 0) := fun u => by
      rw [List.count_cons]
      by_cases e : u = vn
      · subst e; simp
      · have e2 : ((vn : Int) == (u : Int)) = false := by simp <;> omega
        rw [e2, if_neg e]
        simp
    rw [decF, decF_mem us _ _ (fun w hw => by rw [dec1_len]; exact hus w (by simp [hw])) (fun u hu => by
      rw [dec1_len] at hu
      rw [hw u]
      have := hc u hu
      rw [hcc u] at this
      split
      · rename_i e; rw [if_pos e] at this; omega
      · rename_i e; rw [if_neg e] at this; omega) y (by rw [dec1_len]; exact hy), hw y, hcc y]
    have hd2 : (dec1 ws h (vn : Int)).2 = if Wt ws vn - 1 = 0 then pushL h (vn : Int) else h := by
      unfold dec1 Wt
      simp only [Int.toNat_natCast]
    rw [hd2]
    by_cases e : y = vn
    · subst e
      rw [if_pos rfl, if_pos rfl]
      by_cases hz : Wt ws y - 1 = 0
      · rw [if_pos hz, pushL_mem]
        constructor
        · intro _; right; omega
        · intro _; left; right; rfl
      · rw [if_neg hz]
        constructor
        · rintro (h | h)
          · exact .inl h
          · right; omega
        · rintro (h | h)
          · exact .inl h
          · right; omega
    · rw [if_neg e, if_neg e]
      have hm : ((y : Int) ∈ if Wt ws vn - 1 = 0 then pushL h (vn : Int) else h) ↔ (y : Int) ∈ h := by
        split
        · rw [pushL_mem]
          constructor
          · rintro (h | h)
            · exact h
            · omega
          · exact .inl
        · exact Iff.rfl
      rw [hm]
      constructor
      · rintro (h | h)
        · exact .inl h
        · right; omega
      · rintro (h | h)
        · exact .inl h
        · right; omega
/-- What waits, and what has come: each waits for those right above it that haven't come. -/
structure OJ (Es : List En) (ws h o : List Int) : Prop where
  w : ∀ u : Nat, u < Es.length → Wt ws u = (((nxE Es u).filter (fun (a : Nat) => decide ((a : Int) ∉ o))).length : Int)
  m : ∀ u : Nat, u < Es.length → (((u : Int) ∈ h ∨ (u : Int) ∈ o) ↔ Wt ws u = 0)
  q : ∀ (o1 : List Int) (y : Nat) (o2 : List Int), o = o1 ++ (y : Int) :: o2 → ∀ a ∈ nxE Es y, (a : Int) ∈ o1
theorem filter_count (o : List Int) (x : Nat) (hx : (x : Int) ∉ o) : ∀ l : List Nat, (l.filter (fun (a : Nat) => decide ((a : Int) ∉ o))).length = (l.filter (fun (a : Nat) => decide ((a : Int) ∉ o ++ [(x : Int)]))).length + l.count x
  | [] => by simp
  | a :: l => by
    have ih := filter_count o x hx l
    rw [List.count_cons]
    by_cases e : a = x
    · subst e
      rw [List.filter_cons_of_pos (by simpa using hx), List.filter_cons_of_neg (by simp)]
      simp
      simp at ih
      omega
    · have e2 : (a == x) = false := by simpa using e
      rw [e2]
      by_cases ha : (a : Int) ∈ o
      · rw [List.filter_cons_of_neg (by simpa using ha), List.filter_cons_of_neg (by simp [ha])]
        simpa using ih
      · have hne : ¬ ((a : Int) = (x : Int)) := by omega
        rw [List.filter_cons_of_pos (by simpa using ha), List.filter_cons_of_pos (by simp [ha, hne])]
        simp at ih ⊢
        omega
theorem popL_mem {h : List Int} {x : Int} (hx : h[0]? = some x) (y : Int) : y ∈ h ↔ y ∈ popL h ∨ y = x := by
  rw [← (popL_perm hx).mem_iff]
  simp
theorem OJ.step {Es : List En} (hok : EsOk Es) {D : Nat} {ws h o : List Int} (I : OI Es.length D ws h o) (J : OJ Es ws h o) {x : Nat} (hx : h[0]? = some (x : Int)) :
    OJ Es (decF ((belowL Es)[x]?.getD []) ws (popL h)).1 (decF ((belowL Es)[x]?.getD []) ws (popL h)).2 (o ++ [(x : Int)]) := by
  have hxh : (x : Int) ∈ h := List.mem_of_getElem? hx
  have hxl : x < Es.length := by have := (I.lo _ (List.mem_append_left _ hxh)).2.1; omega
  have hxo : (x : Int) ∉ o := fun ho => by
    have := I.nd
    rw [List.nodup_append] at this
    exact this.2.2 _ hxh _ ho rfl
  obtain ⟨us, hus⟩ : ∃ us, (belowL Es)[x]?.getD [] = us := ⟨_, rfl⟩
  have hr : ∀ v ∈ us, 0 ≤ v ∧ v < (ws.length : Int) := fun v hv => by
    rw [I.len]
    rw [← hus] at hv
    cases hb : (belowL Es)[x]? with
    | none => rw [hb] at hv; simp at hv
    | some l =>
      rw [hb] at hv
      exact (below_facts hok).2 l (List.mem_of_getElem? hb) v hv
  have hcnt : ∀ u : Nat, u < Es.length → us.count (u : Int) = (nxE Es u).count x := fun u hu => by rw [← hus]; exact count_bel Es hxl hu
  have hfc : ∀ u : Nat, u < Es.length → Wt ws u = (((nxE Es u).filter (fun (a : Nat) => decide ((a : Int) ∉ o ++ [(x : Int)]))).length : Int) + (us.count (u : Int) : Int) := fun u hu => by
    rw [J.w u hu, hcnt u hu, filter_count o x hxo]
    omega
  rw [hus]
  refine ⟨fun u hu => ?_, fun u hu => ?_, fun o1 y o2 ho => ?_⟩
  · rw [decF_ws us ws _ u hr, hfc u hu]
    omega
  · rw [decF_ws us ws _ u hr, decF_mem us ws _ hr (fun v hv => by rw [I.len] at hv; have := hfc v hv; omega) u (by rw [I.len]; exact hu)]
    have h1 := J.m u hu
    have h2 := popL_mem hx (u : Int)
    have h3 := hfc u hu
    rw [List.mem_append, List.mem_singleton]
    constructor
    · rintro ((h | h) | h | h)
      · have := h1.1 (.inl (h2.2 (.inl h))); omega
      · omega
      · have := h1.1 (.inr h); omega
      · have := h1.1 (.inl (h2.2 (.inr h))); omega
    · intro hz
      by_cases h0 : Wt ws u = 0
      · rcases h1.2 h0 with h | h
        · rcases h2.1 h with h | h
          · exact .inl (.inl h)
          · exact .inr (.inr h)
        · exact .inr (.inl h)
      · exact .inl (.inr (by omega))
  · rcases snoc_split ho with ⟨rfl, hy, rfl⟩ | ⟨o2', rfl, ho'⟩
    · have : y = x := by omega
      subst this
      have hw := J.w y hxl
      rw [(J.m y hxl).1 (.inl hxh)] at hw
      intro a ha
      have he : ((nxE Es y).filter (fun (a : Nat) => decide ((a : Int) ∉ o1))) = [] := List.eq_nil_of_length_eq_zero (by omega)
      rw [List.filter_eq_nil_iff] at he
      have := he a ha
      simpa using this
    · exact J.q o1 y o2' ho'
theorem ordI_ws (Es : List En) : ∀ k, k ≤ Es.length → ∀ u, u < k → Wt (ordI Es k).1 u = ((nxE Es u).length : Int)
  | 0, _, u, hu => by omega
  | k + 1, hk, u, hu => by
    have hl := (ordI_len Es k).1
    unfold ordI Wt
    simp only
    by_cases e : u = k
    · subst e
      rw [List.getElem?_set_self (by omega)]
      rfl
    · rw [List.getElem?_set_ne (by omega)]
      exact ordI_ws Es k (by omega) u (by omega)
theorem ordI_mem (Es : List En) : ∀ k, ∀ y : Nat, (y : Int) ∈ (ordI Es k).2 ↔ y < k ∧ (nxE Es y).length = 0
  | 0, y => by simp [ordI]
  | k + 1, y => by
    unfold ordI
    simp only
    have ih := ordI_mem Es k y
    split
    · rename_i hz
      rw [pushL_mem, ih]
      constructor
      · rintro (h | h)
        · exact ⟨by omega, h.2⟩
        · have : y = k := by omega
          subst this
          exact ⟨by omega, hz⟩
      · rintro ⟨h1, h2⟩
        by_cases e : y = k
        · exact .inr (by omega)
        · exact .inl ⟨by omega, h2⟩
    · rename_i hz
      rw [ih]
      constructor
      · rintro ⟨h1, h2⟩
        exact ⟨by omega, h2⟩
      · rintro ⟨h1, h2⟩
        refine ⟨?_, h2⟩
        by_cases e : y = k
        · subst e; exact absurd h2 hz
        · omega
theorem ordI_OJ (Es : List En) : OJ Es (ordI Es Es.length).1 (ordI Es Es.length).2 [] := by
  refine ⟨fun u hu => ?_, fun u hu => ?_, fun o1 y o2 ho => by simp at ho⟩
  · rw [ordI_ws Es _ (Nat.le_refl _) u hu, List.filter_eq_self.2 (fun a _ => by simp)]
  · rw [ordI_mem, ordI_ws Es _ (Nat.le_refl _) u hu]
    simp
    omega
theorem main_is {Es : List En} (hok : EsOk Es) : ∀ (f D : Nat) (ws h o : List Int), OI Es.length D ws h o → OJ Es ws h o → Es.length + 1 ≤ o.length + f → ∃ D' ws', OI Es.length D' ws' [] (mainF Es f ws h o) ∧ OJ Es ws' [] (mainF Es f ws h o)
  | 0, D, ws, h, o, I, J, hf => by have := I.le; omega
  | f + 1, D, ws, h, o, I, J, hf => by
    rw [mainF]
    cases hx : h[0]? with
    | none =>
      have e : h = [] := List.eq_nil_of_length_eq_zero (by have := List.getElem?_eq_none_iff.1 hx; omega)
      subst e
      exact ⟨D, ws, I, J⟩
    | some x =>
      have hxr := I.lo x (List.mem_append_left _ (List.mem_of_getElem? hx))
      obtain ⟨xn, rfl⟩ := Int.eq_ofNat_of_zero_le hxr.1
      have hJ := J.step hok I hx
      have hI := decF_OI ((belowL Es)[xn]?.getD []) (I.pop hx) (fun v hv => by
        cases hb : (belowL Es)[xn]? with
        | none => rw [hb] at hv; simp at hv
        | some l =>
          rw [hb] at hv
          exact (below_facts hok).2 l (List.mem_of_getElem? hb) v hv)
      exact main_is hok f _ _ _ _ hI hJ (by simp; omega)
/-- How many are above one: it goes down along a way up. -/
def rankU (Es : List En) (u : Nat) : Nat := ((List.range Es.length).filter (fun (j : Nat) => hasB (abvL Es [(u : Int)]) (j : Int))).length
theorem abv_up {Es : List En} (hn : Es.length ≤ 1000000) (u j : Nat) : hasB (abvL Es [(u : Int)]) (j : Int) = true ↔ Up Es u j := by
  rw [hasB_iff, abv_mem hn]
  constructor
  · rintro ⟨a, b, h1, h2, h3⟩
    have e1 : a = u := by simp at h1; omega
    have e2 : b = j := by omega
    subst e1 e2
    exact h3
  · intro h
    exact ⟨u, j, by simp, rfl, h⟩
theorem filter_less {α : Type} {p q : α → Bool} : ∀ (l : List α), (∀ x ∈ l, p x = true → q x = true) → (∃ x ∈ l, q x = true ∧ p x = false) → (l.filter p).length < (l.filter q).length
  | [], _, h => by obtain ⟨x, hx, _⟩ := h; simp at hx
  | a :: l, h1, h2 => by
    have hle : ∀ (l : List α), (∀ x ∈ l, p x = true → q x = true) → (l.filter p).length ≤ (l.filter q).length := fun l => by
      induction l with
      | nil => intro _; simp
      | cons b l ih =>
        intro h
        have := ih (fun x hx => h x (by simp [hx]))
        cases hp : p b with
        | true =>
          rw [List.filter_cons_of_pos hp, List.filter_cons_of_pos (h b (by simp) hp)]
          simp; omega
        | false =>
          rw [List.filter_cons_of_neg (by simp [hp])]
          cases hq : q b with
          | true => rw [List.filter_cons_of_pos hq]; simp; omega
          | false => rw [List.filter_cons_of_neg (by simp [hq])]; exact this
    obtain ⟨x, hx, hq, hp⟩ := h2
    rcases List.mem_cons.1 hx with rfl | hx
    · rw [List.filter_cons_of_neg (by simp [hp]), List.filter_cons_of_pos hq]
      have := hle l (fun y hy => h1 y (by simp [hy]))
      simp; omega
    · have ih := filter_less l (fun y hy => h1 y (by simp [hy])) ⟨x, hx, hq, hp⟩
      cases hpa : p a with
      | true =>
        rw [List.filter_cons_of_pos hpa, List.filter_cons_of_pos (h1 a (by simp) hpa)]
        simp; omega
      | false =>
        rw [List.filter_cons_of_neg (by simp [hpa])]
        cases hqa : q a with
        | true => rw [List.filter_cons_of_pos hqa]; simp; omega
        | false => rw [List.filter_cons_of_neg (by simp [hqa])]; exact ih
theorem rank_less {Es : List En} (hok : EsOk Es) (hac : ∀ i, ¬ Cyc Es i) {u a : Nat} (hu : u < Es.length) (ha : a ∈ nxE Es u) : rankU Es a < rankU Es u := by
  have hn : Es.length ≤ 1000000 := by have := hok.n; omega
  refine filter_less _ (fun j _ hj => ?_) ⟨u, by simpa using hu, ?_, ?_⟩
  · exact (abv_up hn u j).2 (Ua.head hu (by simp) ha ((abv_up hn a j).1 hj))
  · exact (abv_up hn u u).2 (Ua.refl hu (by simp))
  · cases hc : hasB (abvL Es [(a : Int)]) (u : Int) with
    | false => rfl
    | true => exact absurd ⟨hu, a, ha, (abv_up hn a u).1 hc⟩ (hac u)
theorem le_of_all : ∀ (n : Nat) (l : List Int), (∀ u : Nat, u < n → (u : Int) ∈ l) → n ≤ l.length
  | 0, l, _ => Nat.zero_le _
  | n + 1, l, h => by
    have hm := h n (by omega)
    have := le_of_all n (l.erase (n : Int)) (fun u hu => (List.mem_erase_of_ne (by omega)).2 (h u (by omega)))
    rw [List.length_erase_of_mem hm] at this
    have hpos : 0 < l.length := List.length_pos_of_mem hm
    omega
/-- What Order answers: each once, behind all above it; all of them, if none is above itself. -/
theorem ord_says {Es : List En} (hok : EsOk Es) : (ordL Es).Nodup ∧ (∀ y ∈ ordL Es, 0 ≤ y ∧ y < (Es.length : Int)) ∧ (∀ (o1 : List Int) (y : Nat) (o2 : List Int), ordL Es = o1 ++ (y : Int) :: o2 → ∀ z : Nat, Up Es y z → z = y ∨ (z : Int) ∈ o1) ∧
    ((∀ i, ¬ Cyc Es i) → (∀ u : Nat, u < Es.length → (u : Int) ∈ ordL Es) ∧ (ordL Es).length = Es.length) := by
  obtain ⟨D', ws', I, J⟩ := main_is hok (Es.length + 1) 0 _ _ [] (ordI_OI hok) (ordI_OJ Es) (by simp)
  have e : mainF Es (Es.length + 1) (ordI Es Es.length).1 (ordI Es Es.length).2 [] = ordL Es := rfl
  rw [e] at I J
  have hnd : (ordL Es).Nodup := by simpa using I.nd
  have hlo : ∀ y ∈ ordL Es, 0 ≤ y ∧ y < (Es.length : Int) := fun y hy => by have := I.lo y (by simpa using hy); exact ⟨this.1, this.2.1⟩
  refine ⟨hnd, hlo, fun o1 y o2 ho z hz => ?_, fun hac => ?_⟩
  · unfold Up at hz
    induction hz with
    | refl _ _ => exact .inl rfl
    | @step z' a hp ha hn ht ih =>
      right
      rcases ih with rfl | ih
      · exact J.q o1 z' o2 ho a ha
      · obtain ⟨p1, p2, hp⟩ := List.append_of_mem ih
        have := J.q p1 z' (p2 ++ (y : Int) :: o2) (by rw [ho, hp]; simp) a ha
        rw [hp]
        simp [this]
  · have hall : ∀ (r u : Nat), rankU Es u < r → u < Es.length → (u : Int) ∈ ordL Es := fun r => by
      induction r with
      | zero => intro u h; omega
      | succ r ih =>
        intro u hr hu
        have hn : ∀ a ∈ nxE Es u, (a : Int) ∈ ordL Es := fun a ha => ih a (by have := rank_less hok hac hu ha; omega) (hok.lt u a ha)
        have hw := J.w u hu
        have hf : ((nxE Es u).filter (fun (a : Nat) => decide ((a : Int) ∉ ordL Es))) = [] := by
          rw [List.filter_eq_nil_iff]
          intro a ha
          simpa using hn a ha
        rw [hf] at hw
        rcases (J.m u hu).2 (by rw [hw]; rfl) with h | h
        · simp at h
        · exact h
    have h1 : ∀ u : Nat, u < Es.length → (u : Int) ∈ ordL Es := fun u hu => hall _ u (Nat.lt_succ_self _) hu
    refine ⟨h1, ?_⟩
    have h2 := le_of_all Es.length (ordL Es) h1
    have h3 := nodup_le Es.length (ordL Es) hnd hlo
    omega
end Go.Proofs.YtjnphoeifonenaaDoor

/- Slices of Bools of the program's own making. -/
set_option linter.unusedSimpArgs false
set_option linter.unusedVariables false
set_option maxRecDepth 100000
namespace Go.Proofs.YtjnphoeifonenaaDoor
open Go.RowKit

def OwnB (w : World) (B : Nat) (v : Value) (l : List Bool) : Prop := w.ownsRow B 4 1 v l.length (l.map Value.bool)
theorem bool_info : (Tryd.prog.info? 4).map (fun i => (i.zero, i.size, i.bytes)) = some (some (.bool false), 1, 1) := by kernel_rfl
theorem OwnB.turn {F : List Nat} {w w' : World} {B : Nat} {v : Value} {l : List Bool} (h : OwnB w B v l) (t : Turn F w w') (hn : ∀ g, v.ownBlock = some g → g ∉ F) : OwnB w' B v l := Turn.owns t h hn
theorem OwnB.turn' {w w' : World} {B : Nat} {v : Value} {l : List Bool} (h : OwnB w B v l) (t : Turn [] w w') : OwnB w' B v l := Turn.owns t h (by simp)
theorem OwnB.putAt {w : World} {r g n c j : Nat} {l : List Bool} {y : Bool} (h : OwnB w r (.slice (some ⟨g, 0, none⟩) n c) l) (hn : n = l.length) : OwnB (w.setCell ⟨g, j, none⟩ (.bool y)) r (.slice (some ⟨g, 0, none⟩) n c) (l.set j y) := by
  subst hn
  have := (World.ownsRow.stored h j (.bool y)).1
  unfold OwnB
  rw [List.length_set, List.map_set]
  exact this
theorem OwnB.falses (w : World) (r n : Nat) (hr : r ≤ w.heap.size) (hn : n ≤ 1000000) : OwnB (w.alloc (.cells (madeCells #[.bool false] (n * 1)) 4)) r (.slice (some ⟨w.heap.size, 0, none⟩) n n) (List.replicate n false) := by
  refine ⟨by simp, .inr ⟨w.heap.size, n, madeCells #[.bool false] (n * 1), by simp, hr, heap_alloc_new w _, by simp, by simp only [maxLen]; omega, by simp [size_madeCells], ?_⟩⟩
  have h : (madeCells #[.bool false] (n * 1)).toList = List.replicate (n * 1) (.bool false) := by
    apply List.ext_getElem
    · simp [size_madeCells]
    · intro k h1 h2
      simp [madeCells, Nat.mod_one]
  rw [h, List.take_replicate]
  simp
theorem make_bools (n : Nat) (hn : n ≤ 1000000) (W : World) : (Instr.makeSlice 61 (.int .i64 (n : Int)) (.int .i64 (n : Int))).run Tryd.prog W = .ok (.slice (some ⟨W.heap.size, 0, none⟩) n n) (W.alloc (.cells (madeCells #[.bool false] (n * 1)) 4)) := by
  obtain ⟨i0, hi0, hz0, hz1, hz2⟩ := info_parts bool_info
  have := run_make (P := Tryd.prog) W 61 4 i0 _ Tryd.underlying61 hi0 hz0 .i64 .i64 (n : Int) (n : Int) (by omega) (by omega) (by rw [hz2]; omega) (by omega)
  rw [hz1] at this
  rw [Nat.mul_one]
  simp at this
  exact this
theorem OwnB.at {w : World} {r g n c : Nat} {l : List Bool} (h : OwnB w r (.slice (some ⟨g, 0, none⟩) n c) l) : (∀ (j : Nat) (y : Bool), l[j]? = some y → w.cell? ⟨g, j, none⟩ = some (.bool y)) ∧ ∀ j, w.frozen? ⟨g, j, none⟩ = false := by
  rcases h.2 with ⟨e, _⟩ | ⟨g', cap, cur, e, hb, hg, hnc, _, _, _⟩
  · cases e
  · have e' : Value.slice (some ⟨g, 0, none⟩) n c = .slice (some ⟨g', 0, none⟩) l.length cap := e
    injection e' with e1 e2 e3
    injection e1 with e1
    injection e1 with e1 _
    subst e1 e2 e3
    refine ⟨fun j y hy => ?_, fun j => frozen_of_row w g j _ _ hg⟩
    have hj : j < l.length := (List.getElem?_eq_some_iff.1 hy).1
    have := World.ownsRow.cellAt (cap := c) h j (by omega)
    rw [this]
    simp [hy]
end Go.Proofs.YtjnphoeifonenaaDoor
