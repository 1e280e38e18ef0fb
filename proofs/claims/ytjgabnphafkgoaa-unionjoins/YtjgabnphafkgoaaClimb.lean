/- climb, link, hasAll, Head. -/
import Derived.Test.YtjgabnphafkgoaaUn
set_option linter.unusedSimpArgs false
set_option linter.unusedVariables false
namespace Go.Proofs.Ytjgabnphafkgoaa
open Go.RowKit Go.Maps

theorem UnP.short {w w' : World} {b m n : Nat} {p H : Nat → Nat} (h : UnP w b m n p H) {x : Nat} (hx : x < n) (hne : H x ≠ x) (hm : MapF w' m (nc n H) (updF (pf p) x (H x))) (t : Turn [m] w w') : UnP w' b m n (upd p x (H x)) H :=
  have hb : b ∉ [m] := by simpa using h.ne
  ⟨(t.cell (p := ⟨b, 0, none⟩) h.lt hb).trans h.c0, (t.cell (p := ⟨b, 1, none⟩) h.lt hb).trans h.c1, Nat.lt_of_lt_of_le h.lt t.size, h.ne, h.le, h.par.upd hx ((h.hd.heads h.par).le x), h.hd.short hne, hm.congr (pf_upd hne)⟩

theorem UnP.link {w w' : World} {b m n : Nat} {p H : Nat → Nat} (h : UnP w b m n p H) {x y : Nat} (hx : x < n) (hy : y < n) (hne : H x ≠ H y) (hm : MapF w' m (nc n H + 1) (updF (pf p) (max (H x) (H y)) (min (H x) (H y)))) (t : Turn [m] w w') :
    UnP w' b m n (upd p (max (H x) (H y)) (min (H x) (H y))) (mg H x y) := by
  have hb : b ∉ [m] := by simpa using h.ne
  have hh := h.hd.heads h.par
  have h1 := hh.lt hx
  have h2 := hh.lt hy
  refine ⟨(t.cell (p := ⟨b, 0, none⟩) h.lt hb).trans h.c0, (t.cell (p := ⟨b, 1, none⟩) h.lt hb).trans h.c1, Nat.lt_of_lt_of_le h.lt t.size, h.ne, h.le, h.par.upd (by omega) (by omega), h.hd.link hne, ?_⟩
  rw [nc_mg hh hx hy hne]
  exact hm.congr (pf_upd (by omega))

theorem climb_any (b m n : Nat) (H : Nat → Nat) (i : Nat) (w : World) (h : Un w b m n H) (hi : i < n) :
    Calls Try.prog 22 #[.pointer (some ⟨b, 0, none⟩), .int .i64 (i : Int)] w fun e w' => e = .returned (.int .i64 (H i : Int)) ∧ Un w' b m n H ∧ Turn [m] w w' := by
  obtain ⟨p, h⟩ := h
  have hle := h.le
  have hnc := nc_le n H
  have hh := (h.hd.heads h.par).lt hi
  have HU := Lib.hid h
  clear h
  go_enter Try.func22, Try.ntmps22
  go_wp2_with fail
  refine (top_any b m n p H i _ HU.out hi).mono ?_
  rintro e w' ⟨rfl, rfl⟩
  generalize hE : H i = r at *
  have HE := Lib.hid hE
  clear hE
  go_wp2_with fail
  go_loopw [1] (fun t wr => ∃ (k : Nat) (q : Nat → Nat), k < n ∧ Hid (H k = r) ∧ t = .int .i64 (k : Int) ∧ Hid (UnP wr b m n q H) ∧ Hid (Turn [m] w wr)) (fun t _ => (intOf t).toNat)
  case atStart => exact ⟨i, p, hi, HE, rfl, HU, Lib.hid (Turn.refl _ _)⟩
  case round =>
    obtain ⟨k, q, hk, HK, rfl, HQ, HT⟩ := hrel
    by_cases hkr : k = r
    · subst hkr
      go_wp2_with fail
      go_ret
      exact ⟨ret_int (by rw [HE.out]), ⟨q, HQ.out⟩, HT.out⟩
    · have hne : H k ≠ k := fun e => hkr (e.symm.trans HK.out)
      have hq : q k ≠ k := fun e => hne (HQ.out.hd.own k e)
      have hqlt : q k < k := by have := HQ.out.par.le k; omega
      have HF := Lib.hid (pf_other hq)
      have HN := Lib.hid hne
      have HR : Hid (H (q k) = r) := Lib.hid ((HQ.out.hd.step k).trans HK.out)
      have d1 : ((k : Int) == (r : Int)) = false := by simp; omega
      have d2 : ((k : Int) != (r : Int)) = true := by simp; omega
      have c1 := HQ.out.c1
      clear hne hq
      go_wp2_with (first
        | (at_lookup; refine wpList_lookF _ rfl _ _ rfl m _ _ rfl HQ.out.map k rfl (by omega) ?_; rw [HF.out])
        | (at_mapUpdate; refine wpList_storeF _ rfl _ _ _ rfl m _ _ rfl HQ.out.map (by omega) k r rfl rfl (by omega) (by omega) ?_; intro w1 hm1 ht1; rw [HF.out] at hm1; have HM := Lib.hid hm1; have HT1 := Lib.hid ht1; clear hm1 ht1))
      go_round
      case rel =>
        refine ⟨q k, upd q k (H k), by omega, HR, rfl, Lib.hid ?_, Lib.hid (HT.out.trans HT1.out (by simp))⟩
        exact HQ.out.short hk HN.out (by rw [HK.out]; exact HM.out) HT1.out
      case measure => simp [intOf]; omega

theorem link_any (b m n : Nat) (H : Nat → Nat) (x y : Nat) (w : World) (h : Un w b m n H) (hx : x < n) (hy : y < n) :
    Calls Try.prog 21 #[.pointer (some ⟨b, 0, none⟩), .int .i64 (H x : Int), .int .i64 (H y : Int)] w fun e w' => e = .returned (.tuple #[]) ∧ Un w' b m n (mg H x y) ∧ Turn [m] w w' := by
  obtain ⟨p, h⟩ := h
  by_cases hne : H x = H y
  · rw [mg_same hne, hne]
    have HU := Lib.hid h
    clear h hne
    go_enter Try.func21, Try.ntmps21
    go_wp2_with fail
    go_end0
    exact ⟨rfl, ⟨p, HU.out⟩, Turn.refl _ _⟩
  · have hle := h.le
    have hnc := nc_le n H
    have hh := h.hd.heads h.par
    have h1 := hh.lt hx
    have h2 := hh.lt hy
    have c1 := h.c1
    have HU := Lib.hid h
    have HF : Hid (pf p (max (H x) (H y)) = none) := Lib.hid (pf_head (by
      rcases Nat.le_total (H x) (H y) with e | e
      · rw [Nat.max_eq_right e]; exact h.hd.top y
      · rw [Nat.max_eq_left e]; exact h.hd.top x))
    have HN := Lib.hid hne
    clear h hh
    have d1 : ((H x : Int) == (H y : Int)) = false := by simp; omega
    have d2 : ((H x : Int) != (H y : Int)) = true := by simp; omega
    by_cases hlt : H x < H y
    · have HX : Hid (max (H x) (H y) = H y ∧ min (H x) (H y) = H x) := Lib.hid (by omega)
      have e1 : decide ((H x : Int) < (H y : Int)) = true := by simp; omega
      have e2 : decide ((H y : Int) < (H x : Int)) = false := by simp; omega
      have e3 : decide (H x < H y) = true := by simp; omega
      have e4 : decide (H y < H x) = false := by simp; omega
      have e5 : ¬ H y < H x := by omega
      clear hne
      go_enter Try.func21, Try.ntmps21
      go_wp2_with (at_mapUpdate; refine wpList_storeF _ rfl _ _ _ rfl m _ _ rfl HU.out.map (by omega) (H y) (H x) rfl rfl (by omega) (by omega) ?_; intro w1 hm1 ht1; have HM := Lib.hid hm1; have HT1 := Lib.hid ht1; clear hm1 ht1)
      go_end0
      refine ⟨rfl, ⟨_, HU.out.link hx hy HN.out ?_ HT1.out⟩, HT1.out⟩
      have hf := HF.out
      have hm := HM.out
      rw [HX.out.1] at hf
      rw [hf] at hm
      rw [HX.out.1, HX.out.2]
      exact hm
    · have HX : Hid (max (H x) (H y) = H x ∧ min (H x) (H y) = H y) := Lib.hid (by omega)
      have hgt : H y < H x := by omega
      have e1 : decide ((H x : Int) < (H y : Int)) = false := by simp; omega
      have e2 : decide ((H y : Int) < (H x : Int)) = true := by simp; omega
      have e3 : decide (H x < H y) = false := by simp; omega
      have e4 : decide (H y < H x) = true := by simp; omega
      clear hne
      go_enter Try.func21, Try.ntmps21
      go_wp2_with (at_mapUpdate; refine wpList_storeF _ rfl _ _ _ rfl m _ _ rfl HU.out.map (by omega) (H x) (H y) rfl rfl (by omega) (by omega) ?_; intro w1 hm1 ht1; have HM := Lib.hid hm1; have HT1 := Lib.hid ht1; clear hm1 ht1)
      go_end0
      refine ⟨rfl, ⟨_, HU.out.link hx hy HN.out ?_ HT1.out⟩, HT1.out⟩
      have hf := HF.out
      have hm := HM.out
      rw [HX.out.1] at hf
      rw [hf] at hm
      rw [HX.out.1, HX.out.2]
      exact hm

theorem head_any (b m n : Nat) (H : Nat → Nat) (x : Int) (w : World) (h : Un w b m n H) :
    Calls Try.prog 13 #[.pointer (some ⟨b, 0, none⟩), .int .i64 x] w fun e w' => e = .returned (.int .i64 (if inB n x = true then (H x.toNat : Int) else -1)) ∧ Un w' b m n H ∧ Turn [m] w w' := by
  have HU := Lib.hid h
  clear h
  by_cases hx : inB n x = true
  · rw [if_pos hx]
    obtain ⟨k, rfl, hk⟩ : ∃ k : Nat, x = (k : Int) ∧ k < n := by
      unfold inB at hx
      simp at hx
      exact ⟨x.toNat, by omega, by omega⟩
    have HX := Lib.hid hx
    clear hx
    go_enter Try.func13, Try.ntmps13
    go_wp2_with fail
    refine (has_any b m n H _ _ HU.out).mono ?_
    rw [HX.out]
    rintro e w' ⟨rfl, rfl⟩
    go_wp2_with fail
    refine (climb_any b m n H k _ HU.out hk).mono ?_
    rintro e w' ⟨rfl, hu, ht⟩
    have HU1 := Lib.hid hu
    have HT1 := Lib.hid ht
    clear hu ht
    go_wp2_with fail
    go_ret
    exact ⟨rfl, HU1.out, HT1.out⟩
  · rw [if_neg hx]
    have HX : Hid (inB n x = false) := Lib.hid (by simpa using hx)
    clear hx
    go_enter Try.func13, Try.ntmps13
    go_wp2_with fail
    refine (has_any b m n H _ _ HU.out).mono ?_
    rw [HX.out]
    rintro e w' ⟨rfl, rfl⟩
    go_wp2_with fail
    go_ret
    exact ⟨rfl, HU.out, Turn.refl _ _⟩

/-- Are all of them numbers? -/
theorem hasAll_any (b m n : Nat) (H : Nat → Nat) (A : Option Addr) (c : Nat) (l : List Int) (w : World) (h : Un w b m n H) (hI : Ints w A l) (hl : l.length ≤ 1000000000) :
    Calls Try.prog 20 #[.pointer (some ⟨b, 0, none⟩), .slice A l.length c] w fun e w' => e = .returned (.bool (l.all (inB n))) ∧ w = w' := by
  have HU := Lib.hid h
  have HI := Lib.hid hI
  clear h hI
  go_enter Try.func20, Try.ntmps20
  go_wp2_with fail
  go_loop [9] (fun t => ∃ k : Nat, k ≤ l.length ∧ Hid ((l.take k).all (inB n) = true) ∧ t = .int .i64 (k : Int)) (fun t => l.length - (intOf t).toNat)
  case atStart => exact ⟨0, Nat.zero_le _, Lib.hid (by simp), rfl⟩
  case round =>
    obtain ⟨k, hk, HA, rfl⟩ := hrel
    by_cases hlt : k < l.length
    · obtain ⟨y, hy⟩ := at_lt hlt
      obtain ⟨g, off, hA, hg, hcell⟩ := HI.out k y hy
      subst hA
      have hts : (l.take (k + 1)).all (inB n) = inB n y := by rw [take_snoc hy, List.all_append, HA.out]; simp
      have HS := Lib.hid hts
      have HY := Lib.hid hy
      clear hts hy
      by_cases hin : inB n y = true
      · have HN := Lib.hid hin
        clear hin
        go_wp2_with fail
        refine (has_any b m n H _ _ HU.out).mono ?_
        rw [HN.out]
        rintro e w' ⟨rfl, rfl⟩
        go_wp2_with fail
        go_round
        case rel => exact ⟨k + 1, by omega, Lib.hid (HS.out.trans HN.out), by go_num⟩
        case measure => simp [intOf]; omega
      · have HN : Hid (inB n y = false) := Lib.hid (by simpa using hin)
        clear hin
        go_wp2_with fail
        refine (has_any b m n H _ _ HU.out).mono ?_
        rw [HN.out]
        rintro e w' ⟨rfl, rfl⟩
        go_wp2_with fail
        go_ret
        refine ⟨ret_bool ?_, rfl⟩
        symm
        rw [List.all_eq_false]
        exact ⟨y, List.mem_of_getElem? HY.out, by rw [HN.out]; simp⟩
    · go_wp2_with fail
      go_ret
      refine ⟨ret_bool ?_, rfl⟩
      have := HA.out
      rw [List.take_of_length_le (by omega)] at this
      exact this.symm
end Go.Proofs.Ytjgabnphafkgoaa
