/- The reader: skip. -/
import Derived.Test.YthdoihemjndmlaaDoorLx
set_option linter.unusedSimpArgs false
set_option linter.unusedVariables false
namespace Go.Proofs.YthdoihemjndmlaaDoor
open Go.RowKit

/-- The place ahead of octet n of the text T, and what the rest of it gives from there on. -/
def plc (T : List UInt8) (n : Nat) : Nat × Nat := pss (1, 1) (T.take n)
def lxa (T : List UInt8) (n : Nat) : LR := lxs (T.drop n) (plc T n)
theorem plc_add (T : List UInt8) (n k : Nat) : plc T (n + k) = pss (plc T n) ((T.drop n).take k) := by
  unfold plc
  rw [List.take_add, pss_app]
theorem plc_le (T : List UInt8) (n : Nat) : (plc T n).1 ≤ 1 + T.length ∧ (plc T n).2 ≤ 2 + T.length := by
  have := pss_le (T.take n) (1, 1)
  have h : (T.take n).length ≤ T.length := by rw [List.length_take]; omega
  unfold plc
  simp only at this
  omega
theorem lxa_gap {T : List UInt8} {n : Nat} (h : 0 < gpN (T.drop n)) : lxa T n = lxa T (n + gpN (T.drop n)) := by
  unfold lxa
  rw [lxs_gap _ h, List.drop_drop, plc_add]

structure RP (w : World) (b : Nat) (F : List Nat) (T : List UInt8) (n : Nat) (V : Value) (s : ByteArray) (ts : List Tok) : Prop where
  blk : w.heap[b]? = some (.cells #[.int .i64 ((plc T n).1 : Int), .int .i64 ((plc T n).2 : Int), .string s, V] 46 (0, 0))
  left : s.data.toList = T.drop n
  hn : n ≤ T.length
  row : OwnT w V ts
  fb : b ∈ F
  fv : ∀ g, V.ownBlock = some g → g ∈ F
  fl : ∀ g ∈ F, g < w.heap.size
/-- The reader at b stands at octet n of the text T, and has the tokens ts; it lies in the blocks F. -/
def Rd (w : World) (b : Nat) (F : List Nat) (T : List UInt8) (n : Nat) (ts : List Tok) : Prop := ∃ V s, RP w b F T n V s ts

theorem RP.turn {w w' : World} {b : Nat} {F G : List Nat} {T : List UInt8} {n : Nat} {V : Value} {s : ByteArray} {ts : List Tok} (h : RP w b F T n V s ts) (t : Turn G w w') (hn : ∀ g ∈ F, g ∉ G) : RP w' b F T n V s ts :=
  ⟨t.heap h.blk (hn b h.fb), h.left, h.hn, Turn.owns t h.row (fun g e => hn g (h.fv g e)), h.fb, h.fv, fun g hg => Nat.lt_of_lt_of_le (h.fl g hg) t.size⟩
theorem RP.up {w w' : World} {b : Nat} {F : List Nat} {T : List UInt8} {n : Nat} {V : Value} {s : ByteArray} {ts : List Tok} (h : RP w b F T n V s ts) (t : Turn [] w w') : RP w' b F T n V s ts := h.turn t (by simp)
theorem RP.vb {w : World} {b : Nat} {F : List Nat} {T : List UInt8} {n : Nat} {V : Value} {s : ByteArray} {ts : List Tok} (h : RP w b F T n V s ts) : V.ownBlock ≠ some b := fun e => by
  obtain ⟨cs, hc⟩ := ownsRow_blk h.row e
  rw [h.blk] at hc
  cases hc
theorem RP.size {w : World} {b : Nat} {F : List Nat} {T : List UInt8} {n : Nat} {V : Value} {s : ByteArray} {ts : List Tok} (h : RP w b F T n V s ts) : s.size = T.length - n := by
  rw [Lib.size_eq, h.left, List.length_drop]

/-- take, said of the reader. -/
theorem takeR_any (b : Nat) (F : List Nat) (T : List UInt8) (n k : Nat) (V : Value) (s : ByteArray) (ts : List Tok) (w : World) (h : RP w b F T n V s ts) (hT : T.length ≤ 900000) (hk : k ≤ T.length - n) :
    Calls Tryd.prog 34 #[.pointer (some ⟨b, 0, none⟩), .int .i64 (k : Int)] w fun e w' => e = .returned (.string ⟨((T.drop n).take k).toArray⟩) ∧ (∃ s', RP w' b F T (n + k) V s' ts) ∧ Turn [b] w w' := by
  have hp := plc_le T n
  have hsz := h.size
  refine (take_any b (plc T n).1 (plc T n).2 V s k w h.blk (by omega) (by omega) (by omega) (by omega)).mono ?_
  rintro e w' ⟨rfl, hb, t⟩
  have e1 : s.extract 0 k = ⟨((T.drop n).take k).toArray⟩ := by
    rw [Lib.extract_eq, h.left]
    simp
  rw [e1]
  refine ⟨rfl, ⟨s.extract k s.size, ?_, ?_, by have := h.hn; omega, ?_, h.fb, h.fv, fun g hg => Nat.lt_of_lt_of_le (h.fl g hg) t.size⟩, t⟩
  · rw [hb, h.left, plc_add]
  · rw [Lib.extract_data, h.left, List.drop_drop, List.take_of_length_le]
    rw [List.length_drop]
    omega
  · exact Turn.owns t h.row (fun g e hg => h.vb (by simp at hg; rw [← hg]; exact e))

set_option maxHeartbeats 1600000 in
theorem skip_any (b : Nat) (F G : List Nat) (T : List UInt8) (n : Nat) (ts : List Tok) (v : Value) (w : World) (h : Rd w b F T n ts) (hv : Msr w G v gpN) (hd : ∀ g ∈ G, g ∉ F) (hT : T.length ≤ 900000) :
    Calls Tryd.prog 26 #[.pointer (some ⟨b, 0, none⟩), v] w fun e w' => e = .returned (.tuple #[]) ∧ ∃ n', Rd w' b F T n' ts ∧ n ≤ n' ∧ gpN (T.drop n') = 0 ∧ lxa T n = lxa T n' ∧ Turn F w w' := by
  obtain ⟨V, s, h⟩ := h
  have hG := hv.1
  have HG := Lib.hid hG
  obtain ⟨_, k, caps, rfl, hen, hk⟩ := hv
  have HK := Lib.hid hk
  have HD := Lib.hid hd
  have H := Lib.hid h
  have hbl : b < w.heap.size := h.fl b h.fb
  have c2 : w.cell? ⟨b, 2, none⟩ = some (.string s) := cell_of_row w b 2 _ 46 (0, 0) h.blk
  have hsz := h.size
  have hss : s.size ≤ 1000000 := by omega
  clear hk h hd hG hsz
  go_enter Tryd.func26, Tryd.ntmps26
  go_wp2_with fail
  refine (HK.out w (fun _ _ => rfl) s hss).mono ?_
  rintro e w1 ⟨rfl, m, hm⟩
  have t1 : Turn [] w w1 := by rw [hm]; exact (Turn.refl [] w).drewN m
  have HT1 := Lib.hid t1
  clear hm t1 c2
  rw [H.out.left]
  go_wp2_with fail
  go_loopw [4] (fun ti wr => ∃ (n' : Nat) (s' : ByteArray), ti = .int .i64 (gpN (T.drop n') : Int) ∧ n ≤ n' ∧ n' ≤ T.length ∧ Hid (RP wr b F T n' V s' ts) ∧ Hid (lxa T n = lxa T n') ∧ Hid (Turn F w wr)) (fun ti wr => match wr.cell? ⟨b, 2, none⟩ with | some (.string s) => s.size | _ => 0)
  case atStart => exact ⟨n, s, rfl, Nat.le_refl _, H.out.hn, Lib.hid (H.out.up HT1.out), Lib.hid rfl, Lib.hid (HT1.out.more (by simp))⟩
  case round =>
    obtain ⟨n', s', rfl, hnn, hnT, HP, HL, HT⟩ := hrel
    have hgl := gpN_le (T.drop n')
    rw [List.length_drop] at hgl
    by_cases hg : 0 < gpN (T.drop n')
    · have hLg := lxa_gap hg
      have HLg := Lib.hid hLg
      clear hLg
      obtain ⟨g, eg⟩ : ∃ g, gpN (T.drop n') = g := ⟨_, rfl⟩
      rw [eg] at hg hgl HLg ⊢
      have HEG := Lib.hid eg
      clear eg
      have d1 : decide ((0 : Int) < (g : Int)) = true := by simp; omega
      have d2 : (0 : Int) < (g : Int) := by omega
      go_wp2_with fail
      refine (takeR_any b F T n' g V s' ts wr HP.out hT hgl).mono ?_
      rintro e w2 ⟨rfl, ⟨s2, h2⟩, t2⟩
      have c2 : w2.cell? ⟨b, 2, none⟩ = some (.string s2) := cell_of_row w2 b 2 _ 46 (0, 0) h2.blk
      have hs2 := h2.size
      have hss2 : s2.size ≤ 1000000 := by omega
      have HS2 := Lib.hid hs2
      have H2 := Lib.hid h2
      have HT2 := Lib.hid t2
      clear h2 t2 hs2
      have hFb : b ∈ F := H.out.fb
      have tF : Turn F w w2 := (HT.out).trans HT2.out (by intro g hg; simp at hg; subst hg; exact .inl hFb)
      have HTF := Lib.hid tF
      clear tF
      have hcall := HK.out w2 (fun g hg => (HTF.out).block g (HG.out g hg) (HD.out g hg)) s2 hss2
      have HC := Lib.hid hcall
      clear hcall
      go_wp2_with fail
      refine HC.out.mono ?_
      rintro e w3 ⟨rfl, m3, hm3⟩
      have t3 : Turn [] w2 w3 := by rw [hm3]; exact (Turn.refl [] w2).drewN m3
      have HT3 := Lib.hid t3
      have c3 : w3.cell? ⟨b, 2, none⟩ = some (.string s2) := by rw [hm3]; exact c2
      clear t3 hm3
      rw [H2.out.left]
      go_wp2_with fail
      go_roundw
      case rel =>
        refine ⟨n' + g, s2, rfl, by omega, by omega, Lib.hid (H2.out.up HT3.out), Lib.hid (HL.out.trans HLg.out), Lib.hid (HTF.out.trans' HT3.out)⟩
      case measure =>
        have c0 : wr.cell? ⟨b, 2, none⟩ = some (.string s') := cell_of_row wr b 2 _ 46 (0, 0) HP.out.blk
        rw [c3, c0]
        simp only
        have := HP.out.size
        have := HS2.out
        omega
    · have e0 : gpN (T.drop n') = 0 := by omega
      have HE := Lib.hid e0
      rw [e0]
      clear e0 hg
      go_wp2_with fail
      go_end0
      exact ⟨rfl, n', ⟨V, s', HP.out⟩, hnn, HE.out, HL.out, HT.out⟩
end Go.Proofs.YthdoihemjndmlaaDoor
