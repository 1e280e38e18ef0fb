/- The reference's step and the program's: the same tokens. -/
import Derived.Test.YthdoihemjndmlaaDoorEn
set_option linter.unusedSimpArgs false
set_option linter.unusedVariables false
namespace Go.Proofs.YthdoihemjndmlaaDoor
open Go.RowKit

def sgG (c : UInt8) (b : Bool) : Nat :=
  let n := ([123, 125, 40, 41, 91, 93, 59, 44, 61, 46, 60, 43, 45] : List UInt8).foldl (fun n x => if (x == c && true) = true then max n 1 else n) 0
  if (58 == c && b) = true then max n 2 else n
theorem sgN_cons (c : UInt8) (r : List UInt8) : sgN (c :: r) = sgG c ([58].isPrefixOf r) := rfl
theorem sgG_kN (c : UInt8) (b : Bool) : sgG c b = if kN c.toNat = 2 then 1 else if kN c.toNat = 5 ∧ b = true then 2 else 0 :=
  byte_all (p := fun c => ∀ b, sgG c b = if kN c.toNat = 2 then 1 else if kN c.toNat = 5 ∧ b = true then 2 else 0) (by decide +kernel) c b
theorem pre58 (r : List UInt8) : [58].isPrefixOf r = true ↔ r[0]? = some 58 := by
  cases r with
  | nil => simp
  | cons d r =>
    simp [List.isPrefixOf]
    exact eq_comm

theorem gp_none {c : UInt8} (r : List UInt8) (h3 : kN c.toNat ≠ 3) (h4 : kN c.toNat ≠ 4) : gpN (c :: r) = 0 := by
  have hb : isB c = false := by rw [isB_kN]; simpa using h3
  have hh : isH c = false := by rw [isH_kN]; simpa using h4
  simp [gpN, runN, hb, hh]
theorem wd_none {c : UInt8} (r : List UInt8) (h : kN c.toNat ≠ 0) : wdN (c :: r) = 0 := by
  have hb : isL c = false := by rw [isL_kN]; simpa using h
  simp [wdN, runN, hb]
theorem nm_none {c : UInt8} (r : List UInt8) (h : kN c.toNat ≠ 1) : nmN (c :: r) = 0 := by
  have hb : isD c = false := by rw [isD_kN]; simpa using h
  simp [nmN, runN, hb]
theorem wd_some {c : UInt8} (r : List UInt8) (h : kN c.toNat = 0) : 0 < wdN (c :: r) := by
  have hb : isL c = true := by rw [isL_kN]; simpa using h
  simp [wdN, runN, hb]
  omega
theorem nm_some {c : UInt8} (r : List UInt8) (h : kN c.toNat = 1) : 0 < nmN (c :: r) := by
  have hb : isD c = true := by rw [isD_kN]; simpa using h
  simp [nmN, runN, hb]
  omega

/-- A blank: one octet, or all the blanks, leads to the same. -/
theorem lxa_blank {T : List UInt8} {n : Nat} {c : UInt8} (hc : T[n]? = some c) (h : kN c.toNat = 3) : lxa T n = lxa T (n + 1) := by
  have hd := drop_at hc
  have hb : isB c = true := by rw [isB_kN]; simpa using h
  have hh : isH c = false := by rw [isH_kN, h]; rfl
  have hg : gpN (T.drop n) = 1 + ((T.drop (n + 1)).takeWhile isB).length := by
    rw [hd]
    simp [gpN, runN, hb, hh]
  have h1 := lxa_gap (T := T) (n := n) (by omega)
  rw [h1, hg]
  cases hr : T.drop (n + 1) with
  | nil => simp
  | cons d r =>
    cases hbd : isB d with
    | false => simp [List.takeWhile_cons, hbd]
    | true =>
      have hhd : isH d = false := by
        rw [isB_kN, decide_eq_true_eq] at hbd
        rw [isH_kN, hbd]
        rfl
      have hg2 : gpN (T.drop (n + 1)) = ((d :: r).takeWhile isB).length := by
        rw [hr]
        simp [gpN, runN, hbd, hhd, List.takeWhile_cons]
        omega
      have h2 := lxa_gap (T := T) (n := n + 1) (by rw [hg2]; simp [List.takeWhile_cons, hbd])
      rw [h2, hg2]
      congr 1
      omega

theorem step_bad {T : List UInt8} {n : Nat} (hn : n < T.length) (he : (rs (T.drop n)).2.2 ≠ 0) : lxa T n = .bad (rs (T.drop n)).2.2 (plc T n).1 (plc T n).2 := by
  have hc := List.getElem?_eq_getElem hn
  have hd := drop_at hc
  obtain ⟨c, hcc⟩ : ∃ c, T[n] = c := ⟨_, rfl⟩
  rw [hcc] at hd
  obtain ⟨r, hr⟩ : ∃ r, T.drop (n + 1) = r := ⟨_, rfl⟩
  rw [hr] at hd
  have hne : T.drop n ≠ [] := by rw [hd]; simp
  have key : gpN (T.drop n) = 0 ∧ (fst3 (T.drop n)).1 = (rs (T.drop n)).2.2 := by
    rw [hd] at he ⊢
    by_cases k0 : kN c.toNat = 0
    · simp only [rs, k0, if_true] at he ⊢
      refine ⟨gp_none r (by omega) (by omega), ?_⟩
      by_cases hb : 32 < wdN (c :: r)
      · simp [fst3, hb]
      · rw [if_neg hb] at he
        exact absurd rfl he
    by_cases k1 : kN c.toNat = 1
    · have hw := wd_none r k0
      simp only [rs, k1] at he ⊢
      refine ⟨gp_none r (by omega) (by omega), ?_⟩
      by_cases hb : 3 < nmN (c :: r)
      · simp [fst3, hw, hb]
      · simp [hb] at he
    by_cases k2 : kN c.toNat = 2
    · simp [rs, k2] at he
    by_cases k3 : kN c.toNat = 3
    · simp [rs, k3] at he
    by_cases k4 : kN c.toNat = 4
    · simp [rs, k4] at he
    have hw := wd_none r k0
    have hm := nm_none r k1
    refine ⟨gp_none r k3 k4, ?_⟩
    have hs := (sgN_cons c r).trans (sgG_kN c _)
    rw [if_neg k2] at hs
    by_cases h5 : kN c.toNat = 5 ∧ r[0]? = some 58
    · simp [rs, k0, k1, k2, k3, k4, h5] at he
    · have h5' : ¬ (kN c.toNat = 5 ∧ [58].isPrefixOf r = true) := fun h => h5 ⟨h.1, (pre58 r).1 h.2⟩
      rw [if_neg h5'] at hs
      simp only [rs, if_neg k0, if_neg k1, if_neg k2, if_neg k3, if_neg k4, if_neg h5, fst3, hw, hm, hs]
      rfl
  rw [lxa_bad hne key.1 (by rw [key.2]; exact he), key.2]

theorem step_good {T : List UInt8} {n : Nat} (hn : n < T.length) (he : (rs (T.drop n)).2.2 = 0) :
    0 < (rs (T.drop n)).1 ∧ n + (rs (T.drop n)).1 ≤ T.length ∧
    (((rs (T.drop n)).2.1 = -1 ∧ lxa T n = lxa T (n + (rs (T.drop n)).1)) ∨
     ∃ kd : Nat, (rs (T.drop n)).2.1 = (kd : Int) ∧ lxa T n = preT [⟨kd, (T.drop n).take (rs (T.drop n)).1, (plc T n).1, (plc T n).2⟩] (lxa T (n + (rs (T.drop n)).1))) := by
  have hc := List.getElem?_eq_getElem hn
  have hd := drop_at hc
  obtain ⟨c, hcc⟩ : ∃ c, T[n] = c := ⟨_, rfl⟩
  rw [hcc] at hd hc
  obtain ⟨r, hr⟩ : ∃ r, T.drop (n + 1) = r := ⟨_, rfl⟩
  rw [hr] at hd
  have hne : T.drop n ≠ [] := by rw [hd]; simp
  have hlen : (T.drop n).length = T.length - n := List.length_drop
  have htok : ∀ (k kd : Nat), gpN (T.drop n) = 0 → fst3 (T.drop n) = (0, k, kd) → rs (T.drop n) = (k, (kd : Int), 0) →
      0 < (rs (T.drop n)).1 ∧ n + (rs (T.drop n)).1 ≤ T.length ∧
      (((rs (T.drop n)).2.1 = -1 ∧ lxa T n = lxa T (n + (rs (T.drop n)).1)) ∨
       ∃ kd : Nat, (rs (T.drop n)).2.1 = (kd : Int) ∧ lxa T n = preT [⟨kd, (T.drop n).take (rs (T.drop n)).1, (plc T n).1, (plc T n).2⟩] (lxa T (n + (rs (T.drop n)).1))) := by
    intro k kd hg hf hrs
    have hsz := fst3_size (T.drop n) (by rw [hf])
    rw [hf] at hsz
    have ht := lxa_tok hne hg (by rw [hf])
    rw [hf] at ht
    rw [hrs]
    simp only at hsz ⊢
    exact ⟨hsz.1, by omega, .inr ⟨kd, rfl, ht⟩⟩
  by_cases k0 : kN c.toNat = 0
  · have hp := wd_some r k0
    have hb : ¬ 32 < wdN (c :: r) := fun hb => by rw [hd] at he; simp [rs, k0, hb] at he
    refine htok (wdN (c :: r)) 0 (by rw [hd]; exact gp_none r (by omega) (by omega)) ?_ ?_
    · rw [hd]
      simp only [fst3, if_neg hb, if_pos hp]
    · rw [hd]
      simp only [rs, k0, if_true, if_neg hb]
      rfl
  by_cases k1 : kN c.toNat = 1
  · have hp := nm_some r k1
    have hw := wd_none r k0
    have hb : ¬ 3 < nmN (c :: r) := fun hb => by rw [hd] at he; simp [rs, k1, hb] at he
    refine htok (nmN (c :: r)) 1 (by rw [hd]; exact gp_none r (by omega) (by omega)) ?_ ?_
    · rw [hd]
      simp only [fst3, hw, if_neg hb, if_pos hp]
      rfl
    · rw [hd]
      simp only [rs, k1, if_neg hb]
      rfl
  have hw := wd_none r k0
  have hm := nm_none r k1
  have hs := (sgN_cons c r).trans (sgG_kN c _)
  by_cases k2 : kN c.toNat = 2
  · rw [if_pos k2] at hs
    refine htok 1 2 (by rw [hd]; exact gp_none r (by omega) (by omega)) ?_ ?_
    · rw [hd]
      simp only [fst3, hw, hm, hs]
      rfl
    · rw [hd]
      simp only [rs, k2]
      rfl
  by_cases k3 : kN c.toNat = 3
  · have hrs : rs (T.drop n) = (1, -1, 0) := by
      rw [hd]
      simp only [rs, k3]
      rfl
    rw [hrs]
    exact ⟨by omega, by simp only; omega, .inl ⟨rfl, lxa_blank hc k3⟩⟩
  by_cases k4 : kN c.toNat = 4
  · have hh : isH c = true := by rw [isH_kN]; simpa using k4
    have hb : isB c = false := by rw [isB_kN, k4]; rfl
    have hrs : rs (T.drop n) = (runN isH noF (T.drop n), -1, 0) := by
      rw [hd]
      simp only [rs, k4]
      rfl
    have hg : gpN (T.drop n) = runN isH noF (T.drop n) := by
      rw [hd]
      simp [gpN, runN, hb]
    have hpos : 0 < runN isH noF (T.drop n) := by
      rw [hd]
      simp [runN, hh]
      omega
    have hle := runN_le isH noF (T.drop n)
    rw [hrs]
    refine ⟨hpos, by simp only; omega, .inl ⟨rfl, ?_⟩⟩
    have := lxa_gap (T := T) (n := n) (by rw [hg]; exact hpos)
    rw [hg] at this
    exact this
  rw [if_neg k2] at hs
  by_cases h5 : kN c.toNat = 5 ∧ r[0]? = some 58
  · have h5' : kN c.toNat = 5 ∧ [58].isPrefixOf r = true := ⟨h5.1, (pre58 r).2 h5.2⟩
    rw [if_pos h5'] at hs
    refine htok 2 2 (by rw [hd]; exact gp_none r k3 k4) ?_ ?_
    · rw [hd]
      simp only [fst3, hw, hm, hs]
      rfl
    · rw [hd]
      simp only [rs, if_neg k0, if_neg k1, if_neg k2, if_neg k3, if_neg k4, if_pos h5]
      rfl
  · exfalso
    rw [hd] at he
    simp only [rs, if_neg k0, if_neg k1, if_neg k2, if_neg k3, if_neg k4, if_neg h5] at he
    omega
theorem rs_small {T : List UInt8} : (rs T).2.2 ≤ 13 ∧ -1 ≤ (rs T).2.1 ∧ (rs T).2.1 ≤ 2 := by
  cases T with
  | nil => simp [rs]
  | cons c r =>
    simp only [rs]
    repeat' split
    all_goals simp
end Go.Proofs.YthdoihemjndmlaaDoor
