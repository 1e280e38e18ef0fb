/- The reader: readAll, from what read does; Tokens. -/
import Derived.Test.YthdoihemjndmlaaDoorRd
set_option linter.unusedSimpArgs false
set_option linter.unusedVariables false
namespace Go.Proofs.YthdoihemjndmlaaDoor
open Go.RowKit

/-- What read does (proved in Re). -/
def ReadSaid : Prop := ∀ (b : Nat) (F G : List Nat) (T : List UInt8) (n : Nat) (ts : List Tok) (kb : Nat) (w : World), Rd w b F T n ts → Knd w G kb → (∀ g ∈ G, g ∉ F) → T.length ≤ 900000 → ts.length ≤ 900000 →
    Calls Tryd.prog 27 #[.pointer (some ⟨b, 0, none⟩), .slice (some ⟨kb, 0, none⟩) 3 3] w fun e w' => e = .returned (.int .i64 ((fst3 (T.drop n)).1 : Int)) ∧
      ∃ F', Foot w.heap.size F F' ∧ Turn F w w' ∧ ((fst3 (T.drop n)).1 ≠ 0 → Rd w' b F' T n ts) ∧
        ((fst3 (T.drop n)).1 = 0 → Rd w' b F' T (n + (fst3 (T.drop n)).2.1) (ts ++ [⟨(fst3 (T.drop n)).2.2, (T.drop n).take (fst3 (T.drop n)).2.1, (plc T n).1, (plc T n).2⟩]))

theorem lxa_end {T : List UInt8} {n : Nat} (h : T.drop n = []) : lxa T n = .good [] (plc T n) := by
  unfold lxa
  rw [h, lxs_nil]
theorem lxa_bad {T : List UInt8} {n : Nat} (hne : T.drop n ≠ []) (h : gpN (T.drop n) = 0) (he : (fst3 (T.drop n)).1 ≠ 0) : lxa T n = .bad (fst3 (T.drop n)).1 (plc T n).1 (plc T n).2 := lxs_bad _ hne h he
theorem lxa_tok {T : List UInt8} {n : Nat} (hne : T.drop n ≠ []) (h : gpN (T.drop n) = 0) (he : (fst3 (T.drop n)).1 = 0) :
    lxa T n = preT [⟨(fst3 (T.drop n)).2.2, (T.drop n).take (fst3 (T.drop n)).2.1, (plc T n).1, (plc T n).2⟩] (lxa T (n + (fst3 (T.drop n)).2.1)) := by
  unfold lxa
  rw [lxs_tok _ hne h he, List.drop_drop, plc_add]

theorem RP.empty {w : World} {b : Nat} {F : List Nat} {T : List UInt8} {n : Nat} {V : Value} {s : ByteArray} {ts : List Tok} (h : RP w b F T n V s ts) : s.toList.isEmpty = (T.drop n).isEmpty := by
  rw [ByteArray.toList_eq, h.left]

set_option maxHeartbeats 1600000 in
theorem readAll_any (hr : ReadSaid) (b : Nat) (F : List Nat) (T : List UInt8) (w : World) (h : Rd w b F T 0 []) (hS : Sg w) (h1 : 1 ∉ F) (hT : T.length ≤ 900000) :
    Calls Tryd.prog 19 #[.pointer (some ⟨b, 0, none⟩)] w fun e w' => ∃ F' n ts, Foot w.heap.size F F' ∧ Turn F w w' ∧ Rd w' b F' T n ts ∧
      ((∃ x, lxa T 0 = .bad x (plc T n).1 (plc T n).2 ∧ e = .returned (.int .i64 (x : Int)) ∧ x ≠ 0 ∧ x ≤ 13) ∨ (lxa T 0 = .good ts (plc T n) ∧ n = T.length ∧ e = .returned (.int .i64 0))) := by
  have H := Lib.hid h
  have HS := Lib.hid hS
  have HR := Lib.hid hr
  have hbl : b < w.heap.size := by obtain ⟨V, s, h⟩ := h; exact h.fl b h.fb
  have hFl : ∀ g ∈ F, g < w.heap.size := by obtain ⟨V, s, h⟩ := h; exact h.fl
  have HFl := Lib.hid hFl
  clear h hS hr hFl
  go_enter Tryd.func19, Tryd.ntmps19
  go_wp2_with fail
  refine (mkGap_any w).mono ?_
  rintro e w1 ⟨v, G, rfl, m1, t1, g1⟩
  have HM1 := Lib.hid m1
  have HT1 := Lib.hid t1
  have HG1 := Lib.hid g1
  clear m1 t1 g1
  go_wp2_with fail
  refine (mkShapes_any w1 (HS.out.turn HT1.out (by simp))).mono ?_
  rintro e w2 ⟨kb, G2, rfl, m2, t2, g2⟩
  have HM2 := Lib.hid m2
  have HT2 := Lib.hid t2
  have HG2 := Lib.hid g2
  clear m2 t2 g2
  have hR2 : Rd w2 b F T 0 [] := by
    obtain ⟨V, s, h⟩ := H.out
    exact ⟨V, s, (h.up HT1.out).up HT2.out⟩
  have HR2 := Lib.hid hR2
  have hd1 : ∀ g ∈ G, g ∉ F := fun g hg hf => by
    have := HG1.out g hg
    have := HFl.out g hf
    omega
  have hd2 : ∀ g ∈ G2, g ∉ F := fun g hg hf => by
    rcases HG2.out g hg with h | h
    · have := HFl.out g hf
      have := HT1.out.size
      omega
    · subst h
      exact h1 hf
  have HD1 := Lib.hid hd1
  have HD2 := Lib.hid hd2
  clear hR2 hd1 hd2
  go_wp2_with fail
  refine (skip_any b F G T 0 [] v w2 HR2.out (HM1.out.up HT2.out) HD1.out hT).mono ?_
  rintro e w3 ⟨rfl, n3, hR3, hn3, hg3, hl3, t3⟩
  have tT3 : Turn F w w3 := ((HT1.out.trans' HT2.out).more (by simp)).trans t3 (fun g hg => .inl hg)
  have HINV : Hid (∃ (n : Nat) (F' : List Nat) (ts : List Tok), Rd w3 b F' T n ts ∧ gpN (T.drop n) = 0 ∧ lxa T 0 = preT ts (lxa T n) ∧ Turn F w w3 ∧ Foot w.heap.size F F' ∧ Msr w3 G v gpN ∧ Knd w3 G2 kb ∧ (∀ g ∈ G, g ∉ F') ∧ (∀ g ∈ G2, g ∉ F') ∧ ts.length ≤ n) :=
    Lib.hid ⟨n3, F, [], hR3, hg3, by rw [preT_nil]; exact hl3, tT3, Foot.refl _ _, (HM1.out.up HT2.out).turn t3 HD1.out, HM2.out.turn t3 HD2.out, HD1.out, HD2.out, by simp⟩
  clear hR3 hn3 hg3 hl3 t3 tT3
  go_wp2_with fail
  go_loopw [5] (fun ti wr => Hid (∃ (n : Nat) (F' : List Nat) (ts : List Tok), Rd wr b F' T n ts ∧ gpN (T.drop n) = 0 ∧ lxa T 0 = preT ts (lxa T n) ∧ Turn F w wr ∧ Foot w.heap.size F F' ∧ Msr wr G v gpN ∧ Knd wr G2 kb ∧ (∀ g ∈ G, g ∉ F') ∧ (∀ g ∈ G2, g ∉ F') ∧ ts.length ≤ n)) (fun ti wr => match wr.cell? ⟨b, 2, none⟩ with | some (.string s) => s.size | _ => 0)
  case atStart => exact HINV
  case round =>
    obtain ⟨n, F1, ts, ⟨V, s, hR⟩, hg, hl, hTn, hF, hM, hK, hd1, hd2, hln⟩ := hrel.out
    have c2 : wr.cell? ⟨b, 2, none⟩ = some (.string s) := cell_of_row wr b 2 _ 46 (0, 0) hR.blk
    have hbr : b < wr.heap.size := hR.fl b hR.fb
    have hem := hR.empty
    have hnT : n ≤ T.length := hR.hn
    have HRR := Lib.hid hR
    have HGG := Lib.hid hg
    have HLL := Lib.hid hl
    have HTT := Lib.hid hTn
    have HFF := Lib.hid hF
    have HMM := Lib.hid hM
    have HKK := Lib.hid hK
    have HDD := Lib.hid hd1
    have HDE := Lib.hid hd2
    clear hR hg hl hTn hF hM hK hd1 hd2 hrel
    by_cases hz : T.drop n = []
    · have e0 : s.toList.isEmpty = true := by rw [hem, hz]; rfl
      have HZ := Lib.hid hz
      clear hem hz
      go_wp2_with fail
      go_ret
      have hnl : n = T.length := by
        have := congrArg List.length HZ.out
        rw [List.length_drop] at this
        simp at this
        omega
      refine ⟨F1, n, ts, HFF.out, HTT.out, ⟨V, s, HRR.out⟩, .inr ⟨?_, hnl, rfl⟩⟩
      rw [HLL.out, lxa_end HZ.out]
      simp [preT]
    · have e0 : s.toList.isEmpty = false := by rw [hem]; simpa using hz
      have HZ := Lib.hid hz
      clear hem hz
      go_wp2_with fail
      refine (HR.out b F1 G2 T n ts kb wr ⟨V, s, HRR.out⟩ HKK.out HDE.out hT (by omega)).mono ?_
      rintro e w4 ⟨rfl, F4, hf4, t4, hb4, hg4⟩
      have tF : Turn F w w4 := (HTT.out).trans t4 (HFF.out)
      have HF4 := Lib.hid hf4
      have HT4 := Lib.hid t4
      have HTF := Lib.hid tF
      have HB4 := Lib.hid hb4
      have HG4 := Lib.hid hg4
      clear hf4 t4 hb4 hg4 tF
      have he13 := fst3_err (T.drop n)
      by_cases he : (fst3 (T.drop n)).1 = 0
      · have hsz := fst3_size _ he
        rw [List.length_drop] at hsz
        have HTK := Lib.hid (lxa_tok HZ.out HGG.out he)
        have hR4 := HG4.out he
        rw [he]
        have HR4 := Lib.hid hR4
        clear hR4
        have hF4 : Foot w.heap.size F F4 := HFF.out.trans HF4.out HTT.out.size
        have hdd : ∀ g ∈ G, g ∉ F4 := fun g hg hf => by
          rcases HF4.out g hf with h | h
          · exact HDD.out g hg h
          · have := HMM.out.1 g hg
            omega
        have hde : ∀ g ∈ G2, g ∉ F4 := fun g hg hf => by
          rcases HF4.out g hf with h | h
          · exact HDE.out g hg h
          · have := HKK.out.2.1 g hg
            omega
        have HM4 := Lib.hid (HMM.out.turn HT4.out HDD.out)
        have HK4 := Lib.hid (HKK.out.turn HT4.out HDE.out)
        have HF4' := Lib.hid hF4
        have HD4 := Lib.hid hdd
        have HE4 := Lib.hid hde
        clear hF4 hdd hde
        obtain ⟨k, hk⟩ : ∃ k, (fst3 (T.drop n)).2.1 = k := ⟨_, rfl⟩
        obtain ⟨tk, htk⟩ : ∃ tk : Tok, (⟨(fst3 (T.drop n)).2.2, (T.drop n).take (fst3 (T.drop n)).2.1, (plc T n).1, (plc T n).2⟩ : Tok) = tk := ⟨_, rfl⟩
        rw [htk] at HTK HR4
        rw [hk] at HTK HR4 hsz
        clear htk hk
        go_wp2_with fail
        refine (skip_any b F4 G T (n + k) (ts ++ [tk]) v w4 HR4.out HM4.out HD4.out hT).mono ?_
        rintro e w5 ⟨rfl, n5, hR5, hn5, hg5, hl5, t5⟩
        obtain ⟨V5, s5, hR5⟩ := hR5
        have c5 : w5.cell? ⟨b, 2, none⟩ = some (.string s5) := cell_of_row w5 b 2 _ 46 (0, 0) hR5.blk
        have hs5 := hR5.size
        have hn5T := hR5.hn
        have HR5 := Lib.hid hR5
        have HG5 := Lib.hid hg5
        have HL5 := Lib.hid hl5
        have HT5 := Lib.hid t5
        clear hR5 hg5 hl5 t5
        go_wp2_with fail
        go_roundw
        case rel =>
          refine Lib.hid ⟨n5, F4, ts ++ [tk], ⟨V5, s5, HR5.out⟩, HG5.out, ?_, (HTF.out).trans HT5.out HF4'.out, HF4'.out, HM4.out.turn HT5.out HD4.out, HK4.out.turn HT5.out HE4.out, HD4.out, HE4.out, by simp; omega⟩
          rw [HLL.out, HTK.out, preT_preT, HL5.out]
        case measure =>
          rw [c5, c2]
          simp only
          have := HRR.out.size
          omega
      · have hz0 : decide (((fst3 (T.drop n)).1 : Int) = 0) = false := by simp; omega
        have hz1 : (((fst3 (T.drop n)).1 : Int) == 0) = false := by simp; omega
        have hz2 : ¬ ((fst3 (T.drop n)).1 : Int) = 0 := by omega
        have hz3 : ¬ (fst3 (T.drop n)).1 = 0 := he
        have hz4 : decide ((fst3 (T.drop n)).1 = 0) = false := by simpa using he
        go_wp2_with fail
        go_ret
        refine ⟨F4, n, ts, HFF.out.trans HF4.out HTT.out.size, HTF.out, HB4.out he, .inl ⟨(fst3 (T.drop n)).1, ?_, rfl, he, he13⟩⟩
        rw [HLL.out, lxa_bad HZ.out HGG.out he]
        rfl
end Go.Proofs.YthdoihemjndmlaaDoor
