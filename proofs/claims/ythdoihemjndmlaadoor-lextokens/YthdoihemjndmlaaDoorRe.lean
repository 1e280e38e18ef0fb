/- The reader: read. -/
import Derived.Test.YthdoihemjndmlaaDoorRa
import Derived.Deep.RegionLaw
import Derived.BigRegion
import Derived.Deep.RegionWith
import Derived.Deep.DeepCutAuto
set_option linter.unusedSimpArgs false
set_option linter.unusedVariables false
namespace Go.Proofs.YthdoihemjndmlaaDoor
open Go.RowKit

/-- The kind number i: what it is called, how it is measured, how long it may be. -/
def kdA (i kd mo : Nat) (f : List UInt8 → Nat) : Prop := (i = 0 ∧ kd = 0 ∧ mo = 32 ∧ f = wdN) ∨ (i = 1 ∧ kd = 1 ∧ mo = 3 ∧ f = nmN) ∨ (i = 2 ∧ kd = 2 ∧ mo = 2 ∧ f = sgN)
theorem kdA.small {i kd mo : Nat} {f : List UInt8 → Nat} (h : kdA i kd mo f) : kd ≤ 2 ∧ mo ≤ 32 := by
  rcases h with ⟨_, rfl, rfl, _⟩ | ⟨_, rfl, rfl, _⟩ | ⟨_, rfl, rfl, _⟩ <;> omega
theorem kdA.len {i kd mo : Nat} {f : List UInt8 → Nat} (h : kdA i kd mo f) (t : List UInt8) : f t ≤ t.length := by
  rcases h with ⟨_, _, _, rfl⟩ | ⟨_, _, _, rfl⟩ | ⟨_, _, _, rfl⟩
  · exact runN_le _ _ _
  · exact runN_le _ _ _
  · exact sgN_len _
/-- The first i kinds measure nothing. -/
def noK (i : Nat) (t : List UInt8) : Prop := (0 < i → wdN t = 0) ∧ (1 < i → nmN t = 0) ∧ (2 < i → sgN t = 0)
theorem noK.next {i kd mo : Nat} {f : List UInt8 → Nat} {t : List UInt8} (h : noK i t) (hk : kdA i kd mo f) (hf : f t = 0) : noK (i + 1) t := by
  obtain ⟨h0, h1, h2⟩ := h
  rcases hk with ⟨rfl, _, _, rfl⟩ | ⟨rfl, _, _, rfl⟩ | ⟨rfl, _, _, rfl⟩
  · exact ⟨fun _ => hf, fun h => by omega, fun h => by omega⟩
  · exact ⟨fun _ => h0 (by omega), fun _ => hf, fun h => by omega⟩
  · exact ⟨fun _ => h0 (by omega), fun _ => h1 (by omega), fun _ => hf⟩
theorem noK.big {i kd mo : Nat} {f : List UInt8 → Nat} {t : List UInt8} (h : noK i t) (hk : kdA i kd mo f) (hf : mo < f t) : (fst3 t).1 = 13 := by
  obtain ⟨h0, h1, h2⟩ := h
  rcases hk with ⟨rfl, _, rfl, rfl⟩ | ⟨rfl, _, rfl, rfl⟩ | ⟨rfl, _, rfl, rfl⟩
  · simp [fst3, hf]
  · have e0 := h0 (by omega)
    simp [fst3, e0, hf]
  · have := sgN_two t
    omega
theorem noK.tok {i kd mo : Nat} {f : List UInt8 → Nat} {t : List UInt8} (h : noK i t) (hk : kdA i kd mo f) (hf : ¬ mo < f t) (h0 : 0 < f t) : fst3 t = (0, f t, kd) := by
  obtain ⟨h0', h1, h2⟩ := h
  rcases hk with ⟨rfl, rfl, rfl, rfl⟩ | ⟨rfl, rfl, rfl, rfl⟩ | ⟨rfl, rfl, rfl, rfl⟩
  · simp only [fst3, if_neg hf, if_pos h0]
  · have e0 := h0' (by omega)
    simp only [fst3, e0, if_neg hf, if_pos h0]
    simp
  · have e0 := h0' (by omega)
    have e1 := h1 (by omega)
    simp only [fst3, e0, e1, if_pos h0]
    simp
theorem noK.none {t : List UInt8} (h : noK 3 t) : (fst3 t).1 = 10 := by
  obtain ⟨h0, h1, h2⟩ := h
  simp [fst3, h0 (by omega), h1 (by omega), h2 (by omega)]

theorem Knd.at {w : World} {G : List Nat} {kb : Nat} (h : Knd w G kb) {i : Nat} (hi : i < 3) : ∃ kd mo f v, kdA i kd mo f ∧ Msr w G v f ∧
    w.cell? ⟨kb, i * 3, none⟩ = some (.int .i64 (kd : Int)) ∧ w.cell? ⟨kb, i * 3 + 1, none⟩ = some v ∧ w.cell? ⟨kb, i * 3 + 2, none⟩ = some (.int .i64 (mo : Int)) := by
  obtain ⟨hb, hl, v1, v2, v3, hblk, m1, m2, m3⟩ := h
  have hc := fun j => cell_of_row w kb j _ 69 (0, 0) hblk
  match i, hi with
  | 0, _ => exact ⟨0, 32, wdN, v1, .inl ⟨rfl, rfl, rfl, rfl⟩, m1, hc 0, hc 1, hc 2⟩
  | 1, _ => exact ⟨1, 3, nmN, v2, .inr (.inl ⟨rfl, rfl, rfl, rfl⟩), m2, hc 3, hc 4, hc 5⟩
  | 2, _ => exact ⟨2, 2, sgN, v3, .inr (.inr ⟨rfl, rfl, rfl, rfl⟩), m3, hc 6, hc 7, hc 8⟩

theorem own_ne {w : World} {B e e2 size n : Nat} {v : Value} {xs : List Value} {g : Nat} {cs : Array Value} {z : Nat × Nat} (h : w.ownsRow B e size v n xs) (hb : w.heap[g]? = some (.cells cs e2 z)) (hne : e2 ≠ e) : v.ownBlock ≠ some g := fun he => by
  obtain ⟨cs2, hc⟩ := ownsRow_blk h he
  rw [hb] at hc
  injection hc with hc
  injection hc with _ hc _
  exact hne hc

theorem World.cell?_setCell_other {w : World} {b g k o : Nat} (h : b ≠ g) (u : Value) : (w.setCell ⟨b, k, none⟩ u).cell? ⟨g, o, none⟩ = w.cell? ⟨g, o, none⟩ := by
  have e : (w.setCell ⟨b, k, none⟩ u).heap[g]? = w.heap[g]? := by
    by_cases hg : g < w.heap.size
    · exact ((Turn.refl [b] w).setCell (p := ⟨b, k, none⟩) (.inl (by simp)) u).block g hg (by simpa using h.symm)
    · have hs : (w.setCell ⟨b, k, none⟩ u).heap.size = w.heap.size := by simp [World.setCell]
      rw [Array.getElem?_eq_none (by omega), Array.getElem?_eq_none (by omega)]
  exact World.cell?_of_block e

/-- One token more, and the reader's own cell stored anew. -/
theorem RP.stored {w5 w6 : World} {b : Nat} {F : List Nat} {T : List UInt8} {m : Nat} {V v : Value} {s : ByteArray} {ts : List Tok} {t : Tok} {o : Obj} (h : RP w5 b F T m V s ts) (hv : OwnT w6 v (ts ++ [t]))
    (t6 : Turn V.ownBlock.toList (w5.alloc o) w6) (hm : v.ownBlock = V.ownBlock ∨ ∃ g, v.ownBlock = some g ∧ (w5.alloc o).heap.size ≤ g) :
    ∃ F', Rd (w6.setCell ⟨b, 3, none⟩ v) b F' T m (ts ++ [t]) ∧ Foot w5.heap.size F F' ∧ Turn F w5 (w6.setCell ⟨b, 3, none⟩ v) := by
  have ta : Turn [] w5 (w5.alloc o) := (Turn.refl [] w5).alloc _
  have tS : Turn [b] w6 (w6.setCell ⟨b, 3, none⟩ v) := (Turn.refl [b] w6).setCell (.inl (by simp)) _
  have t6F : Turn F w5 w6 := (ta.more (G := F) (by simp)).trans t6 (fun g hg => .inl (h.fv g (by simpa using hg)))
  have hb6 : w6.heap[b]? = _ := t6.heap (ta.heap h.blk (by simp)) (fun hg => h.vb (by simpa using hg))
  have hvb : v.ownBlock ≠ some b := fun e => by
    obtain ⟨cs, hc⟩ := ownsRow_blk hv e
    rw [hb6] at hc
    cases hc
  refine ⟨v.ownBlock.toList ++ F, ⟨v, s, cells4_3 hb6, h.left, h.hn, Turn.owns tS hv (fun g e hg => hvb (by simp at hg; rw [← hg]; exact e)), List.mem_append_right _ h.fb, fun g e => List.mem_append_left _ (by simp [e]), ?_⟩, ?_, t6F.trans tS (by intro g hg; simp at hg; subst hg; exact .inl h.fb)⟩
  · intro g hg
    rcases List.mem_append.1 hg with hg | hg
    · exact Nat.lt_of_lt_of_le (World.ownsRow.lt hv g (by simpa using hg)).2 tS.size
    · exact Nat.lt_of_lt_of_le (h.fl g hg) (Nat.le_trans t6F.size tS.size)
  · intro g hg
    rcases List.mem_append.1 hg with hg | hg
    · rcases hm with e | ⟨g', e, h1⟩
      · rw [e] at hg
        exact .inl (h.fv g (by simpa using hg))
      · rw [e] at hg
        simp at hg
        subst hg
        have := ta.size
        exact .inr (by omega)
    · exact .inl hg

set_option maxHeartbeats 8000000 in
theorem read_any (b : Nat) (F G : List Nat) (T : List UInt8) (n : Nat) (ts : List Tok) (kb : Nat) (w : World) (h : Rd w b F T n ts) (hK : Knd w G kb) (hd : ∀ g ∈ G, g ∉ F) (hT : T.length ≤ 900000) (hts : ts.length ≤ 900000) :
    Calls Tryd.prog 27 #[.pointer (some ⟨b, 0, none⟩), .slice (some ⟨kb, 0, none⟩) 3 3] w fun e w' => e = .returned (.int .i64 ((fst3 (T.drop n)).1 : Int)) ∧
      ∃ F', Foot w.heap.size F F' ∧ Turn F w w' ∧ ((fst3 (T.drop n)).1 ≠ 0 → Rd w' b F' T n ts) ∧
        ((fst3 (T.drop n)).1 = 0 → Rd w' b F' T (n + (fst3 (T.drop n)).2.1) (ts ++ [⟨(fst3 (T.drop n)).2.2, (T.drop n).take (fst3 (T.drop n)).2.1, (plc T n).1, (plc T n).2⟩])) := by
  obtain ⟨V, s, h⟩ := h
  have H := Lib.hid h
  have HKn := Lib.hid hK
  have HD := Lib.hid hd
  have hsz := h.size
  have hss : s.size ≤ 1000000 := by omega
  have hbl : b < w.heap.size := h.fl b h.fb
  clear h hK hd hsz
  go_enter Tryd.func27, Tryd.ntmps27
  go_wp2_with fail
  go_loopw [11] (fun ti wr => ∃ i : Nat, i ≤ 3 ∧ ti = .int .i64 (i : Int) ∧ Hid (noK i (T.drop n)) ∧ Hid (Turn [] w wr)) (fun ti _ => 3 - (intOf ti).toNat)
  case atStart => exact ⟨0, by omega, rfl, Lib.hid ⟨fun h => by omega, fun h => by omega, fun h => by omega⟩, Lib.hid (Turn.refl _ _)⟩
  case round =>
    obtain ⟨i, hi, rfl, HN, HT⟩ := hrel
    by_cases hlt : i < 3
    · have d1 : decide ((i : Int) < 3) = true := by simp; omega
      have d2 : (i : Int) < 3 := by omega
      obtain ⟨kd, mo, f, v, hka, hms, k0, k1, k2⟩ := (HKn.out.turn HT.out (by simp)).at hlt
      have HKA := Lib.hid hka
      have hsm := hka.small
      have hfl := hka.len (T.drop n)
      rw [List.length_drop] at hfl
      have HP := Lib.hid (H.out.up HT.out)
      have c2 : wr.cell? ⟨b, 2, none⟩ = some (.string s) := cell_of_row wr b 2 _ 46 (0, 0) HP.out.blk
      have hbr : b < wr.heap.size := HP.out.fl b HP.out.fb
      have hGr := hms.1
      obtain ⟨_, k, caps, rfl, hen, hk⟩ := hms
      have HC := Lib.hid hk
      have HG := Lib.hid hGr
      clear hk hka hGr
      have hne2 := World.new_ne wr ⟨b, 2, none⟩ c2
      go_wp2_with fail
      obtain ⟨W, hW⟩ : ∃ W, wr.alloc (.cells #[.int .i64 (kd : Int), .func (.func k) #[] caps.toArray, .int .i64 (mo : Int)] 69) = W := ⟨_, rfl⟩
      obtain ⟨kk, hkk⟩ : ∃ kk, wr.heap.size = kk := ⟨_, rfl⟩
      rw [hW, hkk]
      have hWb : W.heap[kk]? = some (.cells #[.int .i64 (kd : Int), .func (.func k) #[] caps.toArray, .int .i64 (mo : Int)] 69 (0, 0)) := by rw [← hW, ← hkk]; exact heap_alloc_new wr _
      have hWt : Turn [] wr W := by rw [← hW]; exact (Turn.refl [] wr).alloc _
      have HWB := Lib.hid hWb
      have HWT := Lib.hid hWt
      have HKK := Lib.hid hkk
      have HPW := Lib.hid (HP.out.up hWt)
      have j0 : W.cell? ⟨kk, 0, none⟩ = some (.int .i64 (kd : Int)) := cell_of_row W kk 0 _ 69 (0, 0) hWb
      have j1 : W.cell? ⟨kk, 1, none⟩ = some (.func (.func k) #[] caps.toArray) := cell_of_row W kk 1 _ 69 (0, 0) hWb
      have j2 : W.cell? ⟨kk, 2, none⟩ = some (.int .i64 (mo : Int)) := cell_of_row W kk 2 _ 69 (0, 0) hWb
      have b0 : W.cell? ⟨b, 0, none⟩ = some (.int .i64 ((plc T n).1 : Int)) := cell_of_row W b 0 _ 46 (0, 0) HPW.out.blk
      have b1 : W.cell? ⟨b, 1, none⟩ = some (.int .i64 ((plc T n).2 : Int)) := cell_of_row W b 1 _ 46 (0, 0) HPW.out.blk
      have b2 : W.cell? ⟨b, 2, none⟩ = some (.string s) := cell_of_row W b 2 _ 46 (0, 0) HPW.out.blk
      have b3 : W.cell? ⟨b, 3, none⟩ = some V := cell_of_row W b 3 _ 46 (0, 0) HPW.out.blk
      have hbW : b < W.heap.size := HPW.out.fl b HPW.out.fb
      clear hW hkk hWb hWt c2 k0 k1 k2 hne2
      go_quiet (refine Calls.quiet_of (HC.out (W.drewN _) (fun g hg => (HWT.out).block g (HG.out g hg) (by simp)) s hss))
      obtain ⟨W2, hW2⟩ : ∃ W2, W.drewN nq = W2 := ⟨_, rfl⟩
      have hT2 : Turn [] wr W2 := by rw [← hW2]; exact (HWT.out).drewN nq
      have hB2 : W2.heap[kk]? = some (.cells #[.int .i64 (kd : Int), .func (.func k) #[] caps.toArray, .int .i64 (mo : Int)] 69 (0, 0)) := by rw [← hW2]; exact HWB.out
      rw [hW2]
      clear hW2 j0 j1 j2 b0 b1 b2 b3 hbW
      have HP2 := Lib.hid (HP.out.up hT2)
      have HT2 := Lib.hid ((HT.out).trans' hT2)
      have j0 : W2.cell? ⟨kk, 0, none⟩ = some (.int .i64 (kd : Int)) := cell_of_row W2 kk 0 _ 69 (0, 0) hB2
      have j1 : W2.cell? ⟨kk, 1, none⟩ = some (.func (.func k) #[] caps.toArray) := cell_of_row W2 kk 1 _ 69 (0, 0) hB2
      have j2 : W2.cell? ⟨kk, 2, none⟩ = some (.int .i64 (mo : Int)) := cell_of_row W2 kk 2 _ 69 (0, 0) hB2
      have b0 : W2.cell? ⟨b, 0, none⟩ = some (.int .i64 ((plc T n).1 : Int)) := cell_of_row W2 b 0 _ 46 (0, 0) HP2.out.blk
      have b1 : W2.cell? ⟨b, 1, none⟩ = some (.int .i64 ((plc T n).2 : Int)) := cell_of_row W2 b 1 _ 46 (0, 0) HP2.out.blk
      have b2 : W2.cell? ⟨b, 2, none⟩ = some (.string s) := cell_of_row W2 b 2 _ 46 (0, 0) HP2.out.blk
      have b3 : W2.cell? ⟨b, 3, none⟩ = some V := cell_of_row W2 b 3 _ 46 (0, 0) HP2.out.blk
      have hbW : b < W2.heap.size := HP2.out.fl b HP2.out.fb
      have hkW : kk < W2.heap.size := (Array.getElem?_eq_some_iff.1 hB2).1
      have HB2 := Lib.hid hB2
      clear hT2 hB2 HWB HWT HPW
      have hleft := H.out.left
      rw [hleft]
      clear hleft
      obtain ⟨q, hq⟩ : ∃ q, f (T.drop n) = q := ⟨_, rfl⟩
      rw [hq] at hfl ⊢
      have HQ := Lib.hid hq
      clear hq
      by_cases hbig : mo < q
      · have d3 : decide ((mo : Int) < (q : Int)) = true := by simp; omega
        have d4 : (mo : Int) < (q : Int) := by omega
        go_wp2_with fail
        go_ret
        have e := HN.out.big HKA.out (by rw [HQ.out]; exact hbig)
        rw [e]
        have tt := HT2.out
        exact ⟨rfl, F, Foot.refl _ _, tt.more (by simp), fun _ => ⟨V, s, H.out.up tt⟩, fun h => by omega⟩
      · have d3 : decide ((mo : Int) < (q : Int)) = false := by simp; omega
        have d4 : ¬ (mo : Int) < (q : Int) := by omega
        by_cases h0 : 0 < q
        · have d5 : decide ((0 : Int) < (q : Int)) = true := by simp; omega
          have d6 : (0 : Int) < (q : Int) := by omega
          go_wp2_with fail
          obtain ⟨W3, hW3⟩ : ∃ W3, W2.alloc (.cells #[.int .i64 ((plc T n).1 : Int), .int .i64 ((plc T n).2 : Int)] 25) = W3 := ⟨_, rfl⟩
          obtain ⟨ab, hab⟩ : ∃ ab, W2.heap.size = ab := ⟨_, rfl⟩
          rw [hW3, hab]
          have hB3 : W3.heap[ab]? = some (.cells #[.int .i64 ((plc T n).1 : Int), .int .i64 ((plc T n).2 : Int)] 25 (0, 0)) := by rw [← hW3, ← hab]; exact heap_alloc_new W2 _
          have hT3 : Turn [] W2 W3 := by rw [← hW3]; exact (Turn.refl [] W2).alloc _
          have HP3 := Lib.hid (HP2.out.up hT3)
          have HT3 := Lib.hid ((HT2.out).trans' hT3)
          have HK3 := Lib.hid (hT3.heap HB2.out (by simp))
          have HB3 := Lib.hid hB3
          have hnkb : kk ≠ b := fun e => by
            have h1 := HK3.out
            rw [e, HP3.out.blk] at h1
            cases h1
          have hnab : ab ≠ b := fun e => by omega
          clear hT3 hW3 hab j0 j1 j2 b0 b1 b2 b3 hbW hkW hB3
          have j0 : W3.cell? ⟨kk, 0, none⟩ = some (.int .i64 (kd : Int)) := cell_of_row W3 kk 0 _ 69 (0, 0) HK3.out
          have b3 : W3.cell? ⟨b, 3, none⟩ = some V := cell_of_row W3 b 3 _ 46 (0, 0) HP3.out.blk
          have a0 : W3.cell? ⟨ab, 0, none⟩ = some (.int .i64 ((plc T n).1 : Int)) := cell_of_row W3 ab 0 _ 25 (0, 0) HB3.out
          have a1 : W3.cell? ⟨ab, 1, none⟩ = some (.int .i64 ((plc T n).2 : Int)) := cell_of_row W3 ab 1 _ 25 (0, 0) HB3.out
          have HFS := Lib.hid (HN.out.tok HKA.out (by rw [HQ.out]; exact hbig) (by rw [HQ.out]; exact h0))
          obtain ⟨X, hX⟩ : ∃ X, (T.drop n).take q = X := ⟨_, rfl⟩
          have hXl : X.length ≤ 1000000 := by rw [← hX, List.length_take, List.length_drop]; omega
          have HX := Lib.hid hX
          clear hX
          have hkl : kk < W3.heap.size := (Array.getElem?_eq_some_iff.1 HK3.out).1
          have hal : ab < W3.heap.size := (Array.getElem?_eq_some_iff.1 HB3.out).1
          have HTK := Lib.hid (takeR_any b F T n q V s ts W3.drew (HP3.out.up ((Turn.refl [] W3).drew)) hT hfl)
          rw [HX.out] at HTK
          have hne1 : b ≠ kk := hnkb.symm
          have hne2 : b ≠ ab := hnab.symm
          obtain ⟨pl, hpl⟩ : ∃ pl, (plc T n).1 = pl := ⟨_, rfl⟩
          obtain ⟨pc, hpc⟩ : ∃ pc, (plc T n).2 = pc := ⟨_, rfl⟩
          have HPP : Hid ((plc T n).1 = pl ∧ (plc T n).2 = pc) := Lib.hid ⟨hpl, hpc⟩
          rw [hpl] at a0
          rw [hpc] at a1
          rw [hpl, hpc] at HB3 ⊢
          clear hpl hpc
          have hXs : (⟨X.toArray⟩ : ByteArray).size ≤ 281474976710656 := by rw [Lib.size_eq]; simp; omega
          refine wp_region_held_drew (S := fun w' => w'.cell? ⟨kk, 0, none⟩ = some (.int .i64 (kd : Int)) ∧ w'.cell? ⟨ab, 0, none⟩ = some (.int .i64 (pl : Int)) ∧ w'.cell? ⟨ab, 1, none⟩ = some (.int .i64 (pc : Int))) (by kernel_rfl) ?_ (fun hHeld => ?_)
          · exact ⟨j0, a0, a1⟩
          refine wpAnyH_take (i := 0) (oi := { dst := some 35, op := Op.move (Operand.tmp 0), type := 58, pos := _, after := #[], guard := none }) (v := ?_) rfl (by kernel_rfl) (by kernel_rfl) (by kernel_rfl) (fun _ _ _ h => h) (Or.inl ⟨by rfl, ?_⟩) (by assumption) ?_
          rotate_left
          · intro w hSw; (try dsimp only at hSw); go_simp; (try with_reducible rfl)
          try simp only [Act.put, List.setIfInBounds_toArray, List.set_cons_zero, List.set_cons_succ]
          refine wpAnyH_take (i := 1) (oi := { dst := some 36, op := Op.move (Operand.tmp 0), type := 58, pos := _, after := #[], guard := none }) (v := ?_) rfl (by kernel_rfl) (by kernel_rfl) (by kernel_rfl) (fun _ _ _ h => h) (Or.inl ⟨by rfl, ?_⟩) (by assumption) ?_
          rotate_left
          · intro w hSw; (try dsimp only at hSw); go_simp; (try with_reducible rfl)
          try simp only [Act.put, List.setIfInBounds_toArray, List.set_cons_zero, List.set_cons_succ]
          refine wpAnyH_take (i := 2) (oi := { dst := some 37, op := Op.nilCheck (Operand.tmp 36), type := 0, pos := _, after := #[{ on := 1, ground := Ground.data }], guard := none }) (v := ?_) rfl (by kernel_rfl) (by kernel_rfl) (by kernel_rfl) (fun _ _ _ h => h) (Or.inl ⟨by rfl, ?_⟩) (by assumption) ?_
          rotate_left
          · intro w hSw; (try dsimp only at hSw); go_simp; (try with_reducible rfl)
          try simp only [Act.put, List.setIfInBounds_toArray, List.set_cons_zero, List.set_cons_succ]
          refine wpAnyH_take (i := 3) (oi := { dst := some 38, op := Op.fieldAddr 46 (Operand.tmp 37) 1, type := 0, pos := _, after := #[{ on := 2, ground := Ground.data }], guard := none }) (v := ?_) rfl (by kernel_rfl) (by kernel_rfl) (by kernel_rfl) (fun _ _ _ h => h) (Or.inl ⟨by rfl, ?_⟩) (by assumption) ?_
          rotate_left
          · intro w hSw; (try dsimp only at hSw); go_simp; (try with_reducible rfl)
          try simp only [Act.put, List.setIfInBounds_toArray, List.set_cons_zero, List.set_cons_succ]
          refine wpAnyH_take (i := 5) (oi := { dst := some 40, op := Op.fieldAddr 69 (Operand.tmp 6) 0, type := 0, pos := _, after := #[], guard := none }) (v := ?_) rfl (by kernel_rfl) (by kernel_rfl) (by kernel_rfl) (fun _ _ _ h => h) (Or.inl ⟨by rfl, ?_⟩) (by assumption) ?_
          rotate_left
          · intro w hSw; (try dsimp only at hSw); go_simp; (try with_reducible rfl)
          try simp only [Act.put, List.setIfInBounds_toArray, List.set_cons_zero, List.set_cons_succ]
          refine wpAnyH_take (i := 6) (oi := { dst := some 41, op := Op.load 3 (Operand.tmp 40), type := 3, pos := _, after := #[{ on := 5, ground := Ground.data }], guard := none }) (v := ?_) rfl (by kernel_rfl) (by kernel_rfl) (by kernel_rfl) (fun _ _ _ h => h) (Or.inl ⟨by rfl, ?_⟩) (by assumption) ?_
          rotate_left
          · intro w hSw; (try dsimp only at hSw); go_simp; (try with_reducible rfl)
          try simp only [Act.put, List.setIfInBounds_toArray, List.set_cons_zero, List.set_cons_succ]
          refine wpAnyH_take (i := 7) (oi := { dst := some 42, op := Op.move (Operand.tmp 0), type := 58, pos := _, after := #[], guard := none }) (v := ?_) rfl (by kernel_rfl) (by kernel_rfl) (by kernel_rfl) (fun _ _ _ h => h) (Or.inl ⟨by rfl, ?_⟩) (by assumption) ?_
          rotate_left
          · intro w hSw; (try dsimp only at hSw); go_simp; (try with_reducible rfl)
          try simp only [Act.put, List.setIfInBounds_toArray, List.set_cons_zero, List.set_cons_succ]
          refine wpAnyH_take (i := 8) (oi := { dst := some 43, op := Op.nilCheck (Operand.tmp 42), type := 0, pos := _, after := #[{ on := 7, ground := Ground.data }], guard := none }) (v := ?_) rfl (by kernel_rfl) (by kernel_rfl) (by kernel_rfl) (fun _ _ _ h => h) (Or.inl ⟨by rfl, ?_⟩) (by assumption) ?_
          rotate_left
          · intro w hSw; (try dsimp only at hSw); go_simp; (try with_reducible rfl)
          try simp only [Act.put, List.setIfInBounds_toArray, List.set_cons_zero, List.set_cons_succ]
          refine wpAnyH_take (i := 9) (oi := { dst := some 44, op := Op.fieldAddr 46 (Operand.tmp 43) 0, type := 0, pos := _, after := #[{ on := 8, ground := Ground.data }], guard := none }) (v := ?_) rfl (by kernel_rfl) (by kernel_rfl) (by kernel_rfl) (fun _ _ _ h => h) (Or.inl ⟨by rfl, ?_⟩) (by assumption) ?_
          rotate_left
          · intro w hSw; (try dsimp only at hSw); go_simp; (try with_reducible rfl)
          try simp only [Act.put, List.setIfInBounds_toArray, List.set_cons_zero, List.set_cons_succ]
          refine wpAnyH_take (i := 10) (oi := { dst := some 45, op := Op.move (Operand.tmp 7), type := 3, pos := _, after := #[], guard := none }) (v := ?_) rfl (by kernel_rfl) (by kernel_rfl) (by kernel_rfl) (fun _ _ _ h => h) (Or.inl ⟨by rfl, ?_⟩) (by assumption) ?_
          rotate_left
          · intro w hSw; (try dsimp only at hSw); go_simp; (try with_reducible rfl)
          try simp only [Act.put, List.setIfInBounds_toArray, List.set_cons_zero, List.set_cons_succ]
          refine wpAnyH_take (i := 13) (oi := { dst := some 48, op := Op.load 25 (Operand.tmp 8), type := 25, pos := _, after := #[], guard := none }) (v := ?_) rfl (by kernel_rfl) (by kernel_rfl) (by kernel_rfl) (fun _ _ _ h => h) (Or.inl ⟨by rfl, ?_⟩) (by assumption) ?_
          rotate_left
          · intro w hSw; (try dsimp only at hSw); go_simp; (try with_reducible rfl)
          try simp only [Act.put, List.setIfInBounds_toArray, List.set_cons_zero, List.set_cons_succ]
          refine wpAnyH_ready (rs := [4, 11]) (by kernel_rfl) (by simp) ?_
          refine AllReadyH.cons (o := { dst := some 39, op := Op.load 23 (Operand.tmp 38), type := 23, pos := _, after := #[{ on := 3, ground := Ground.data }], guard := none }) rfl (fun K hK => ?_) (AllReadyH.cons (o := { dst := some 46, op := Op.call { callee := Callee.value (Operand.func 34), args := #[Operand.tmp 44, Operand.tmp 45], argTypes := #[43, 3] }, type := 9, pos := _, after := #[{ on := 9, ground := Ground.data }, { on := 10, ground := Ground.data }], guard := none }) rfl (fun K hK => ?_) AllReadyH.nil)
          · go_simp
            refine hK.out _ _ ?_ (fun hHeld => ?_)
            · exact ⟨j0, a0, a1⟩
            clear hK K
            try simp only [Act.put, List.setIfInBounds_toArray, List.set_cons_zero, List.set_cons_succ]
            refine wpAnyH_ready (rs := [11]) (by kernel_rfl) (by simp) ?_
            refine AllReadyH.cons (o := { dst := some 46, op := Op.call { callee := Callee.value (Operand.func 34), args := #[Operand.tmp 44, Operand.tmp 45], argTypes := #[43, 3] }, type := 9, pos := _, after := #[{ on := 9, ground := Ground.data }, { on := 10, ground := Ground.data }], guard := none }) rfl (fun K hK => ?_) AllReadyH.nil
            go_simp
            go_at_call 34
            (with_reducible refine HTK.out.mono ?_)
            rintro e w4 ⟨rfl, ⟨s4, h4⟩, t4⟩
            have t4' : Turn [b] W3 w4 := (Turn.refl [b] W3).drew.trans t4 (by intro g hg; exact .inl hg)
            have b34 : w4.cell? ⟨b, 3, none⟩ = some V := cell_of_row w4 b 3 _ 46 (0, 0) h4.blk
            have HK4 := Lib.hid (t4'.heap HK3.out (by simpa using hnkb))
            have HA4 := Lib.hid (t4'.heap HB3.out (by simpa using hnab))
            have j04 : w4.cell? ⟨kk, 0, none⟩ = some (.int .i64 (kd : Int)) := cell_of_row w4 kk 0 _ 69 (0, 0) HK4.out
            have a04 : w4.cell? ⟨ab, 0, none⟩ = some (.int .i64 (pl : Int)) := cell_of_row w4 ab 0 _ 25 (0, 0) HA4.out
            have a14 : w4.cell? ⟨ab, 1, none⟩ = some (.int .i64 (pc : Int)) := cell_of_row w4 ab 1 _ 25 (0, 0) HA4.out
            have H4 := Lib.hid h4
            have HT4 := Lib.hid t4'
            clear h4 t4 t4'
            try go_wp2_with fail
            refine hK.out _ _ ?_ (fun hHeld => ?_)
            · exact ⟨j04, a04, a14⟩
            clear hK K
            try simp only [Act.put, List.setIfInBounds_toArray, List.set_cons_zero, List.set_cons_succ]
            refine wpAnyH_ready (rs := [12]) (by kernel_rfl) (by simp) ?_
            refine AllReadyH.cons (o := { dst := some 47, op := Op.call { callee := Callee.value (Operand.func 35), args := #[Operand.tmp 46], argTypes := #[9] }, type := 9, pos := _, after := #[{ on := 11, ground := Ground.data }, { on := 11, ground := Ground.chain }], guard := none }) rfl (fun K hK => ?_) AllReadyH.nil
            go_simp
            go_at_call 35
            (with_reducible refine (sClone_any ⟨X.toArray⟩ w4 hXs).mono ?_)
            rintro e w5 ⟨rfl, t5⟩
            have b35 : w5.cell? ⟨b, 3, none⟩ = some V := (t5.cell (p := ⟨b, 3, none⟩) (H4.out.fl b H4.out.fb) (by simp)).trans b34
            have HK5 := Lib.hid (t5.heap HK4.out (by simp))
            have HA5 := Lib.hid (t5.heap HA4.out (by simp))
            have t5a : Turn [] w5 (w5.alloc (.cells #[.int .i64 (kd : Int), .string ⟨X.toArray⟩, .int .i64 (pl : Int), .int .i64 (pc : Int)] 37)) := (Turn.refl [] w5).alloc _
            have j05 : w5.cell? ⟨kk, 0, none⟩ = some (.int .i64 (kd : Int)) := cell_of_row w5 kk 0 _ 69 (0, 0) HK5.out
            have a05 : w5.cell? ⟨ab, 0, none⟩ = some (.int .i64 (pl : Int)) := cell_of_row w5 ab 0 _ 25 (0, 0) HA5.out
            have a15 : w5.cell? ⟨ab, 1, none⟩ = some (.int .i64 (pc : Int)) := cell_of_row w5 ab 1 _ 25 (0, 0) HA5.out
            have b36 : (w5.alloc (.cells #[.int .i64 (kd : Int), .string ⟨X.toArray⟩, .int .i64 (pl : Int), .int .i64 (pc : Int)] 37)).cell? ⟨b, 3, none⟩ = some V := (t5a.cell (p := ⟨b, 3, none⟩) (Nat.lt_of_lt_of_le (H4.out.fl b H4.out.fb) t5.size) (by simp)).trans b35
            have j05a : (w5.alloc (.cells #[.int .i64 (kd : Int), .string ⟨X.toArray⟩, .int .i64 (pl : Int), .int .i64 (pc : Int)] 37)).cell? ⟨kk, 0, none⟩ = some (.int .i64 (kd : Int)) := cell_of_row _ kk 0 _ 69 (0, 0) (t5a.heap HK5.out (by simp))
            have a05a : (w5.alloc (.cells #[.int .i64 (kd : Int), .string ⟨X.toArray⟩, .int .i64 (pl : Int), .int .i64 (pc : Int)] 37)).cell? ⟨ab, 0, none⟩ = some (.int .i64 (pl : Int)) := cell_of_row _ ab 0 _ 25 (0, 0) (t5a.heap HA5.out (by simp))
            have a15a : (w5.alloc (.cells #[.int .i64 (kd : Int), .string ⟨X.toArray⟩, .int .i64 (pl : Int), .int .i64 (pc : Int)] 37)).cell? ⟨ab, 1, none⟩ = some (.int .i64 (pc : Int)) := cell_of_row _ ab 1 _ 25 (0, 0) (t5a.heap HA5.out (by simp))
            have H5 := Lib.hid (H4.out.up t5)
            have HT5 := Lib.hid (HT4.out.trans' t5)
            clear t5 t5a
            try go_wp2_with fail
            refine hK.out _ _ ?_ (fun hHeld => ?_)
            · exact ⟨j05, a05, a15⟩
            clear hK K
            try simp only [Act.put, List.setIfInBounds_toArray, List.set_cons_zero, List.set_cons_succ]
            refine wpAnyH_take (i := 14) (oi := { dst := some 49, op := Op.build 37 #[(0, Operand.tmp 41), (1, Operand.tmp 47), (2, Operand.tmp 48)], type := 37, pos := _, after := #[{ on := 6, ground := Ground.data }, { on := 12, ground := Ground.data }, { on := 13, ground := Ground.data }], guard := none }) (v := ?_) rfl (by kernel_rfl) (by kernel_rfl) (by kernel_rfl) (fun _ _ _ h => h) (Or.inl ⟨by rfl, ?_⟩) (by assumption) ?_
            rotate_left
            · intro w hSw; (try dsimp only at hSw); go_simp; (try with_reducible rfl)
            try simp only [Act.put, List.setIfInBounds_toArray, List.set_cons_zero, List.set_cons_succ]
            refine wpAnyH_ready (rs := [15]) (by kernel_rfl) (by simp) ?_
            refine AllReadyH.cons (o := { dst := some 50, op := Op.buildSlice 23 1 #[(0, Operand.tmp 49)], type := 23, pos := _, after := #[{ on := 14, ground := Ground.data }], guard := none }) rfl (fun K hK => ?_) AllReadyH.nil
            go_simp
            refine hK.out _ _ ?_ (fun hHeld => ?_)
            · exact ⟨j05a, a05a, a15a⟩
            clear hK K
            try simp only [Act.put, List.setIfInBounds_toArray, List.set_cons_zero, List.set_cons_succ]
            refine wpAnyH_ready (rs := [16]) (by kernel_rfl) (by simp) ?_
            refine AllReadyH.cons (o := { dst := some 51, op := Op.call { callee := Callee.builtin Builtin.append, args := #[Operand.tmp 39, Operand.tmp 50], argTypes := #[23, 23] }, type := 23, pos := _, after := #[{ on := 4, ground := Ground.data }, { on := 15, ground := Ground.data }, { on := 12, ground := Ground.chain }], guard := none }) rfl (fun K hK => ?_) AllReadyH.nil
            refine step_appT rfl (.tmp 39) (.tmp 50) rfl _ V ts ⟨kd, X, pl, pc⟩ w5.heap.size 1 (by simp [Act.eval, Act.put]) (by simp [Act.eval, Act.put]) (by exact Turn.owns ((Turn.refl [] w5).alloc _) H5.out.row (by simp)) (by exact heap_alloc_new w5 _) (by omega) ?_
            intro v6 w6 ho6 ht6 hm6
            have t5a : Turn [] w5 (w5.alloc (.cells #[.int .i64 (kd : Int), .string ⟨X.toArray⟩, .int .i64 (pl : Int), .int .i64 (pc : Int)] 37)) := (Turn.refl [] w5).alloc _
            have hb6 := ht6.heap (t5a.heap H5.out.blk (by simp)) (fun hg => H5.out.vb (by simpa using hg))
            have hk6 := ht6.heap (t5a.heap HK5.out (by simp)) (fun hg => own_ne H5.out.row HK5.out (by decide) (by simpa using hg))
            have ha6 := ht6.heap (t5a.heap HA5.out (by simp)) (fun hg => own_ne H5.out.row HA5.out (by decide) (by simpa using hg))
            have n3 : w6.cell? ⟨b, 3, none⟩ = some V := cell_of_row w6 b 3 _ 46 (0, 0) hb6
            have f3 : w6.frozen? ⟨b, 3, none⟩ = false := frozen_of_row w6 b 3 _ 46 hb6
            have j06 : w6.cell? ⟨kk, 0, none⟩ = some (.int .i64 (kd : Int)) := cell_of_row w6 kk 0 _ 69 (0, 0) hk6
            have a06 : w6.cell? ⟨ab, 0, none⟩ = some (.int .i64 (pl : Int)) := cell_of_row w6 ab 0 _ 25 (0, 0) ha6
            have a16 : w6.cell? ⟨ab, 1, none⟩ = some (.int .i64 (pc : Int)) := cell_of_row w6 ab 1 _ 25 (0, 0) ha6
            obtain ⟨A6, c6, hv6, _, _⟩ := ho6.form
            rw [List.length_append, List.length_singleton] at hv6
            have HST := Lib.hid (H5.out.stored ho6 ht6 hm6)
            subst hv6
            clear ho6 ht6 hm6 hb6 hk6 ha6 t5a
            refine hK.out _ _ ?_ (fun hHeld => ?_)
            · exact ⟨j06, a06, a16⟩
            clear hK K
            try simp only [Act.put, List.setIfInBounds_toArray, List.set_cons_zero, List.set_cons_succ]
            refine wpAnyH_take (i := 17) (oi := { dst := some 52, op := Op.nilCheck (Operand.tmp 35), type := 0, pos := _, after := #[{ on := 0, ground := Ground.data }, { on := 0, ground := Ground.phase }, { on := 1, ground := Ground.phase }, { on := 2, ground := Ground.phase }, { on := 3, ground := Ground.phase }, { on := 4, ground := Ground.phase }, { on := 5, ground := Ground.phase }, { on := 6, ground := Ground.phase }, { on := 7, ground := Ground.phase }, { on := 8, ground := Ground.phase }, { on := 9, ground := Ground.phase }, { on := 10, ground := Ground.phase }, { on := 11, ground := Ground.phase }, { on := 12, ground := Ground.phase }, { on := 13, ground := Ground.phase }, { on := 14, ground := Ground.phase }, { on := 15, ground := Ground.phase }, { on := 16, ground := Ground.phase }], guard := none }) (v := ?_) rfl (by kernel_rfl) (by kernel_rfl) (by kernel_rfl) (fun _ _ _ h => h) (Or.inl ⟨by rfl, ?_⟩) (by assumption) ?_
            rotate_left
            · intro w hSw; (try dsimp only at hSw); go_simp; (try with_reducible rfl)
            try simp only [Act.put, List.setIfInBounds_toArray, List.set_cons_zero, List.set_cons_succ]
            refine wpAnyH_take (i := 18) (oi := { dst := some 53, op := Op.fieldAddr 46 (Operand.tmp 52) 1, type := 0, pos := _, after := #[{ on := 17, ground := Ground.data }, { on := 0, ground := Ground.phase }, { on := 1, ground := Ground.phase }, { on := 2, ground := Ground.phase }, { on := 3, ground := Ground.phase }, { on := 4, ground := Ground.phase }, { on := 5, ground := Ground.phase }, { on := 6, ground := Ground.phase }, { on := 7, ground := Ground.phase }, { on := 8, ground := Ground.phase }, { on := 9, ground := Ground.phase }, { on := 10, ground := Ground.phase }, { on := 11, ground := Ground.phase }, { on := 12, ground := Ground.phase }, { on := 13, ground := Ground.phase }, { on := 14, ground := Ground.phase }, { on := 15, ground := Ground.phase }, { on := 16, ground := Ground.phase }], guard := none }) (v := ?_) rfl (by kernel_rfl) (by kernel_rfl) (by kernel_rfl) (fun _ _ _ h => h) (Or.inl ⟨by rfl, ?_⟩) (by assumption) ?_
            rotate_left
            · intro w hSw; (try dsimp only at hSw); go_simp; (try with_reducible rfl)
            try simp only [Act.put, List.setIfInBounds_toArray, List.set_cons_zero, List.set_cons_succ]
            refine wpAnyH_ready (rs := [19]) (by kernel_rfl) (by simp) ?_
            refine AllReadyH.cons (o := { dst := none, op := Op.store 23 (Operand.tmp 53) (Operand.tmp 51), type := 0, pos := _, after := #[{ on := 18, ground := Ground.data }, { on := 16, ground := Ground.data }, { on := 16, ground := Ground.chain }, { on := 0, ground := Ground.phase }, { on := 1, ground := Ground.phase }, { on := 2, ground := Ground.phase }, { on := 3, ground := Ground.phase }, { on := 4, ground := Ground.phase }, { on := 5, ground := Ground.phase }, { on := 6, ground := Ground.phase }, { on := 7, ground := Ground.phase }, { on := 8, ground := Ground.phase }, { on := 9, ground := Ground.phase }, { on := 10, ground := Ground.phase }, { on := 11, ground := Ground.phase }, { on := 12, ground := Ground.phase }, { on := 13, ground := Ground.phase }, { on := 14, ground := Ground.phase }, { on := 15, ground := Ground.phase }, { on := 16, ground := Ground.phase }], guard := none }) rfl (fun K hK => ?_) AllReadyH.nil
            go_simp
            refine hK.out _ _ ?_ (fun hHeld => ?_)
            · exact ⟨(World.cell?_setCell_other hne1 _).trans j06, (World.cell?_setCell_other hne2 _).trans a06, (World.cell?_setCell_other hne2 _).trans a16⟩
            clear hK K
            try simp only [Act.put, List.setIfInBounds_toArray, List.set_cons_zero, List.set_cons_succ]
            refine wpAnyH_done (by kernel_rfl) ?_ _
            go_wp2_with fail
            go_ret
            obtain ⟨F', hR', hF', hT'⟩ := HST.out
            have hTw : Turn F w w5 := ((HT3.out).more (by simp)).trans HT5.out (by intro g hg; simp at hg; subst hg; exact .inl H5.out.fb)
            rw [HFS.out, HQ.out, HX.out, HPP.out.1, HPP.out.2]
            exact ⟨rfl, F', (Foot.refl w.heap.size F).trans hF' hTw.size, hTw.trans hT' (fun g hg => .inl hg), fun h => absurd rfl h, fun _ => hR'⟩
          · go_simp
            go_at_call 34
            (with_reducible refine HTK.out.mono ?_)
            rintro e w4 ⟨rfl, ⟨s4, h4⟩, t4⟩
            have t4' : Turn [b] W3 w4 := (Turn.refl [b] W3).drew.trans t4 (by intro g hg; exact .inl hg)
            have b34 : w4.cell? ⟨b, 3, none⟩ = some V := cell_of_row w4 b 3 _ 46 (0, 0) h4.blk
            have HK4 := Lib.hid (t4'.heap HK3.out (by simpa using hnkb))
            have HA4 := Lib.hid (t4'.heap HB3.out (by simpa using hnab))
            have j04 : w4.cell? ⟨kk, 0, none⟩ = some (.int .i64 (kd : Int)) := cell_of_row w4 kk 0 _ 69 (0, 0) HK4.out
            have a04 : w4.cell? ⟨ab, 0, none⟩ = some (.int .i64 (pl : Int)) := cell_of_row w4 ab 0 _ 25 (0, 0) HA4.out
            have a14 : w4.cell? ⟨ab, 1, none⟩ = some (.int .i64 (pc : Int)) := cell_of_row w4 ab 1 _ 25 (0, 0) HA4.out
            have H4 := Lib.hid h4
            have HT4 := Lib.hid t4'
            clear h4 t4 t4'
            try go_wp2_with fail
            refine hK.out _ _ ?_ (fun hHeld => ?_)
            · exact ⟨j04, a04, a14⟩
            clear hK K
            try simp only [Act.put, List.setIfInBounds_toArray, List.set_cons_zero, List.set_cons_succ]
            refine wpAnyH_ready (rs := [4, 12]) (by kernel_rfl) (by simp) ?_
            refine AllReadyH.cons (o := { dst := some 39, op := Op.load 23 (Operand.tmp 38), type := 23, pos := _, after := #[{ on := 3, ground := Ground.data }], guard := none }) rfl (fun K hK => ?_) (AllReadyH.cons (o := { dst := some 47, op := Op.call { callee := Callee.value (Operand.func 35), args := #[Operand.tmp 46], argTypes := #[9] }, type := 9, pos := _, after := #[{ on := 11, ground := Ground.data }, { on := 11, ground := Ground.chain }], guard := none }) rfl (fun K hK => ?_) AllReadyH.nil)
            · go_simp
              refine hK.out _ _ ?_ (fun hHeld => ?_)
              · exact ⟨j04, a04, a14⟩
              clear hK K
              try simp only [Act.put, List.setIfInBounds_toArray, List.set_cons_zero, List.set_cons_succ]
              refine wpAnyH_ready (rs := [12]) (by kernel_rfl) (by simp) ?_
              refine AllReadyH.cons (o := { dst := some 47, op := Op.call { callee := Callee.value (Operand.func 35), args := #[Operand.tmp 46], argTypes := #[9] }, type := 9, pos := _, after := #[{ on := 11, ground := Ground.data }, { on := 11, ground := Ground.chain }], guard := none }) rfl (fun K hK => ?_) AllReadyH.nil
              go_simp
              go_at_call 35
              (with_reducible refine (sClone_any ⟨X.toArray⟩ w4 hXs).mono ?_)
              rintro e w5 ⟨rfl, t5⟩
              have b35 : w5.cell? ⟨b, 3, none⟩ = some V := (t5.cell (p := ⟨b, 3, none⟩) (H4.out.fl b H4.out.fb) (by simp)).trans b34
              have HK5 := Lib.hid (t5.heap HK4.out (by simp))
              have HA5 := Lib.hid (t5.heap HA4.out (by simp))
              have t5a : Turn [] w5 (w5.alloc (.cells #[.int .i64 (kd : Int), .string ⟨X.toArray⟩, .int .i64 (pl : Int), .int .i64 (pc : Int)] 37)) := (Turn.refl [] w5).alloc _
              have j05 : w5.cell? ⟨kk, 0, none⟩ = some (.int .i64 (kd : Int)) := cell_of_row w5 kk 0 _ 69 (0, 0) HK5.out
              have a05 : w5.cell? ⟨ab, 0, none⟩ = some (.int .i64 (pl : Int)) := cell_of_row w5 ab 0 _ 25 (0, 0) HA5.out
              have a15 : w5.cell? ⟨ab, 1, none⟩ = some (.int .i64 (pc : Int)) := cell_of_row w5 ab 1 _ 25 (0, 0) HA5.out
              have b36 : (w5.alloc (.cells #[.int .i64 (kd : Int), .string ⟨X.toArray⟩, .int .i64 (pl : Int), .int .i64 (pc : Int)] 37)).cell? ⟨b, 3, none⟩ = some V := (t5a.cell (p := ⟨b, 3, none⟩) (Nat.lt_of_lt_of_le (H4.out.fl b H4.out.fb) t5.size) (by simp)).trans b35
              have j05a : (w5.alloc (.cells #[.int .i64 (kd : Int), .string ⟨X.toArray⟩, .int .i64 (pl : Int), .int .i64 (pc : Int)] 37)).cell? ⟨kk, 0, none⟩ = some (.int .i64 (kd : Int)) := cell_of_row _ kk 0 _ 69 (0, 0) (t5a.heap HK5.out (by simp))
              have a05a : (w5.alloc (.cells #[.int .i64 (kd : Int), .string ⟨X.toArray⟩, .int .i64 (pl : Int), .int .i64 (pc : Int)] 37)).cell? ⟨ab, 0, none⟩ = some (.int .i64 (pl : Int)) := cell_of_row _ ab 0 _ 25 (0, 0) (t5a.heap HA5.out (by simp))
              have a15a : (w5.alloc (.cells #[.int .i64 (kd : Int), .string ⟨X.toArray⟩, .int .i64 (pl : Int), .int .i64 (pc : Int)] 37)).cell? ⟨ab, 1, none⟩ = some (.int .i64 (pc : Int)) := cell_of_row _ ab 1 _ 25 (0, 0) (t5a.heap HA5.out (by simp))
              have H5 := Lib.hid (H4.out.up t5)
              have HT5 := Lib.hid (HT4.out.trans' t5)
              clear t5 t5a
              try go_wp2_with fail
              refine hK.out _ _ ?_ (fun hHeld => ?_)
              · exact ⟨j05, a05, a15⟩
              clear hK K
              try simp only [Act.put, List.setIfInBounds_toArray, List.set_cons_zero, List.set_cons_succ]
              refine wpAnyH_take (i := 14) (oi := { dst := some 49, op := Op.build 37 #[(0, Operand.tmp 41), (1, Operand.tmp 47), (2, Operand.tmp 48)], type := 37, pos := _, after := #[{ on := 6, ground := Ground.data }, { on := 12, ground := Ground.data }, { on := 13, ground := Ground.data }], guard := none }) (v := ?_) rfl (by kernel_rfl) (by kernel_rfl) (by kernel_rfl) (fun _ _ _ h => h) (Or.inl ⟨by rfl, ?_⟩) (by assumption) ?_
              rotate_left
              · intro w hSw; (try dsimp only at hSw); go_simp; (try with_reducible rfl)
              try simp only [Act.put, List.setIfInBounds_toArray, List.set_cons_zero, List.set_cons_succ]
              refine wpAnyH_ready (rs := [15]) (by kernel_rfl) (by simp) ?_
              refine AllReadyH.cons (o := { dst := some 50, op := Op.buildSlice 23 1 #[(0, Operand.tmp 49)], type := 23, pos := _, after := #[{ on := 14, ground := Ground.data }], guard := none }) rfl (fun K hK => ?_) AllReadyH.nil
              go_simp
              refine hK.out _ _ ?_ (fun hHeld => ?_)
              · exact ⟨j05a, a05a, a15a⟩
              clear hK K
              try simp only [Act.put, List.setIfInBounds_toArray, List.set_cons_zero, List.set_cons_succ]
              refine wpAnyH_ready (rs := [16]) (by kernel_rfl) (by simp) ?_
              refine AllReadyH.cons (o := { dst := some 51, op := Op.call { callee := Callee.builtin Builtin.append, args := #[Operand.tmp 39, Operand.tmp 50], argTypes := #[23, 23] }, type := 23, pos := _, after := #[{ on := 4, ground := Ground.data }, { on := 15, ground := Ground.data }, { on := 12, ground := Ground.chain }], guard := none }) rfl (fun K hK => ?_) AllReadyH.nil
              refine step_appT rfl (.tmp 39) (.tmp 50) rfl _ V ts ⟨kd, X, pl, pc⟩ w5.heap.size 1 (by simp [Act.eval, Act.put]) (by simp [Act.eval, Act.put]) (by exact Turn.owns ((Turn.refl [] w5).alloc _) H5.out.row (by simp)) (by exact heap_alloc_new w5 _) (by omega) ?_
              intro v6 w6 ho6 ht6 hm6
              have t5a : Turn [] w5 (w5.alloc (.cells #[.int .i64 (kd : Int), .string ⟨X.toArray⟩, .int .i64 (pl : Int), .int .i64 (pc : Int)] 37)) := (Turn.refl [] w5).alloc _
              have hb6 := ht6.heap (t5a.heap H5.out.blk (by simp)) (fun hg => H5.out.vb (by simpa using hg))
              have hk6 := ht6.heap (t5a.heap HK5.out (by simp)) (fun hg => own_ne H5.out.row HK5.out (by decide) (by simpa using hg))
              have ha6 := ht6.heap (t5a.heap HA5.out (by simp)) (fun hg => own_ne H5.out.row HA5.out (by decide) (by simpa using hg))
              have n3 : w6.cell? ⟨b, 3, none⟩ = some V := cell_of_row w6 b 3 _ 46 (0, 0) hb6
              have f3 : w6.frozen? ⟨b, 3, none⟩ = false := frozen_of_row w6 b 3 _ 46 hb6
              have j06 : w6.cell? ⟨kk, 0, none⟩ = some (.int .i64 (kd : Int)) := cell_of_row w6 kk 0 _ 69 (0, 0) hk6
              have a06 : w6.cell? ⟨ab, 0, none⟩ = some (.int .i64 (pl : Int)) := cell_of_row w6 ab 0 _ 25 (0, 0) ha6
              have a16 : w6.cell? ⟨ab, 1, none⟩ = some (.int .i64 (pc : Int)) := cell_of_row w6 ab 1 _ 25 (0, 0) ha6
              obtain ⟨A6, c6, hv6, _, _⟩ := ho6.form
              rw [List.length_append, List.length_singleton] at hv6
              have HST := Lib.hid (H5.out.stored ho6 ht6 hm6)
              subst hv6
              clear ho6 ht6 hm6 hb6 hk6 ha6 t5a
              refine hK.out _ _ ?_ (fun hHeld => ?_)
              · exact ⟨j06, a06, a16⟩
              clear hK K
              try simp only [Act.put, List.setIfInBounds_toArray, List.set_cons_zero, List.set_cons_succ]
              refine wpAnyH_take (i := 17) (oi := { dst := some 52, op := Op.nilCheck (Operand.tmp 35), type := 0, pos := _, after := #[{ on := 0, ground := Ground.data }, { on := 0, ground := Ground.phase }, { on := 1, ground := Ground.phase }, { on := 2, ground := Ground.phase }, { on := 3, ground := Ground.phase }, { on := 4, ground := Ground.phase }, { on := 5, ground := Ground.phase }, { on := 6, ground := Ground.phase }, { on := 7, ground := Ground.phase }, { on := 8, ground := Ground.phase }, { on := 9, ground := Ground.phase }, { on := 10, ground := Ground.phase }, { on := 11, ground := Ground.phase }, { on := 12, ground := Ground.phase }, { on := 13, ground := Ground.phase }, { on := 14, ground := Ground.phase }, { on := 15, ground := Ground.phase }, { on := 16, ground := Ground.phase }], guard := none }) (v := ?_) rfl (by kernel_rfl) (by kernel_rfl) (by kernel_rfl) (fun _ _ _ h => h) (Or.inl ⟨by rfl, ?_⟩) (by assumption) ?_
              rotate_left
              · intro w hSw; (try dsimp only at hSw); go_simp; (try with_reducible rfl)
              try simp only [Act.put, List.setIfInBounds_toArray, List.set_cons_zero, List.set_cons_succ]
              refine wpAnyH_take (i := 18) (oi := { dst := some 53, op := Op.fieldAddr 46 (Operand.tmp 52) 1, type := 0, pos := _, after := #[{ on := 17, ground := Ground.data }, { on := 0, ground := Ground.phase }, { on := 1, ground := Ground.phase }, { on := 2, ground := Ground.phase }, { on := 3, ground := Ground.phase }, { on := 4, ground := Ground.phase }, { on := 5, ground := Ground.phase }, { on := 6, ground := Ground.phase }, { on := 7, ground := Ground.phase }, { on := 8, ground := Ground.phase }, { on := 9, ground := Ground.phase }, { on := 10, ground := Ground.phase }, { on := 11, ground := Ground.phase }, { on := 12, ground := Ground.phase }, { on := 13, ground := Ground.phase }, { on := 14, ground := Ground.phase }, { on := 15, ground := Ground.phase }, { on := 16, ground := Ground.phase }], guard := none }) (v := ?_) rfl (by kernel_rfl) (by kernel_rfl) (by kernel_rfl) (fun _ _ _ h => h) (Or.inl ⟨by rfl, ?_⟩) (by assumption) ?_
              rotate_left
              · intro w hSw; (try dsimp only at hSw); go_simp; (try with_reducible rfl)
              try simp only [Act.put, List.setIfInBounds_toArray, List.set_cons_zero, List.set_cons_succ]
              refine wpAnyH_ready (rs := [19]) (by kernel_rfl) (by simp) ?_
              refine AllReadyH.cons (o := { dst := none, op := Op.store 23 (Operand.tmp 53) (Operand.tmp 51), type := 0, pos := _, after := #[{ on := 18, ground := Ground.data }, { on := 16, ground := Ground.data }, { on := 16, ground := Ground.chain }, { on := 0, ground := Ground.phase }, { on := 1, ground := Ground.phase }, { on := 2, ground := Ground.phase }, { on := 3, ground := Ground.phase }, { on := 4, ground := Ground.phase }, { on := 5, ground := Ground.phase }, { on := 6, ground := Ground.phase }, { on := 7, ground := Ground.phase }, { on := 8, ground := Ground.phase }, { on := 9, ground := Ground.phase }, { on := 10, ground := Ground.phase }, { on := 11, ground := Ground.phase }, { on := 12, ground := Ground.phase }, { on := 13, ground := Ground.phase }, { on := 14, ground := Ground.phase }, { on := 15, ground := Ground.phase }, { on := 16, ground := Ground.phase }], guard := none }) rfl (fun K hK => ?_) AllReadyH.nil
              go_simp
              refine hK.out _ _ ?_ (fun hHeld => ?_)
              · exact ⟨(World.cell?_setCell_other hne1 _).trans j06, (World.cell?_setCell_other hne2 _).trans a06, (World.cell?_setCell_other hne2 _).trans a16⟩
              clear hK K
              try simp only [Act.put, List.setIfInBounds_toArray, List.set_cons_zero, List.set_cons_succ]
              refine wpAnyH_done (by kernel_rfl) ?_ _
              go_wp2_with fail
              go_ret
              obtain ⟨F', hR', hF', hT'⟩ := HST.out
              have hTw : Turn F w w5 := ((HT3.out).more (by simp)).trans HT5.out (by intro g hg; simp at hg; subst hg; exact .inl H5.out.fb)
              rw [HFS.out, HQ.out, HX.out, HPP.out.1, HPP.out.2]
              exact ⟨rfl, F', (Foot.refl w.heap.size F).trans hF' hTw.size, hTw.trans hT' (fun g hg => .inl hg), fun h => absurd rfl h, fun _ => hR'⟩
            · go_simp
              go_at_call 35
              (with_reducible refine (sClone_any ⟨X.toArray⟩ w4 hXs).mono ?_)
              rintro e w5 ⟨rfl, t5⟩
              have b35 : w5.cell? ⟨b, 3, none⟩ = some V := (t5.cell (p := ⟨b, 3, none⟩) (H4.out.fl b H4.out.fb) (by simp)).trans b34
              have HK5 := Lib.hid (t5.heap HK4.out (by simp))
              have HA5 := Lib.hid (t5.heap HA4.out (by simp))
              have t5a : Turn [] w5 (w5.alloc (.cells #[.int .i64 (kd : Int), .string ⟨X.toArray⟩, .int .i64 (pl : Int), .int .i64 (pc : Int)] 37)) := (Turn.refl [] w5).alloc _
              have j05 : w5.cell? ⟨kk, 0, none⟩ = some (.int .i64 (kd : Int)) := cell_of_row w5 kk 0 _ 69 (0, 0) HK5.out
              have a05 : w5.cell? ⟨ab, 0, none⟩ = some (.int .i64 (pl : Int)) := cell_of_row w5 ab 0 _ 25 (0, 0) HA5.out
              have a15 : w5.cell? ⟨ab, 1, none⟩ = some (.int .i64 (pc : Int)) := cell_of_row w5 ab 1 _ 25 (0, 0) HA5.out
              have b36 : (w5.alloc (.cells #[.int .i64 (kd : Int), .string ⟨X.toArray⟩, .int .i64 (pl : Int), .int .i64 (pc : Int)] 37)).cell? ⟨b, 3, none⟩ = some V := (t5a.cell (p := ⟨b, 3, none⟩) (Nat.lt_of_lt_of_le (H4.out.fl b H4.out.fb) t5.size) (by simp)).trans b35
              have j05a : (w5.alloc (.cells #[.int .i64 (kd : Int), .string ⟨X.toArray⟩, .int .i64 (pl : Int), .int .i64 (pc : Int)] 37)).cell? ⟨kk, 0, none⟩ = some (.int .i64 (kd : Int)) := cell_of_row _ kk 0 _ 69 (0, 0) (t5a.heap HK5.out (by simp))
              have a05a : (w5.alloc (.cells #[.int .i64 (kd : Int), .string ⟨X.toArray⟩, .int .i64 (pl : Int), .int .i64 (pc : Int)] 37)).cell? ⟨ab, 0, none⟩ = some (.int .i64 (pl : Int)) := cell_of_row _ ab 0 _ 25 (0, 0) (t5a.heap HA5.out (by simp))
              have a15a : (w5.alloc (.cells #[.int .i64 (kd : Int), .string ⟨X.toArray⟩, .int .i64 (pl : Int), .int .i64 (pc : Int)] 37)).cell? ⟨ab, 1, none⟩ = some (.int .i64 (pc : Int)) := cell_of_row _ ab 1 _ 25 (0, 0) (t5a.heap HA5.out (by simp))
              have H5 := Lib.hid (H4.out.up t5)
              have HT5 := Lib.hid (HT4.out.trans' t5)
              clear t5 t5a
              try go_wp2_with fail
              refine hK.out _ _ ?_ (fun hHeld => ?_)
              · exact ⟨j05, a05, a15⟩
              clear hK K
              try simp only [Act.put, List.setIfInBounds_toArray, List.set_cons_zero, List.set_cons_succ]
              refine wpAnyH_take (i := 14) (oi := { dst := some 49, op := Op.build 37 #[(0, Operand.tmp 41), (1, Operand.tmp 47), (2, Operand.tmp 48)], type := 37, pos := _, after := #[{ on := 6, ground := Ground.data }, { on := 12, ground := Ground.data }, { on := 13, ground := Ground.data }], guard := none }) (v := ?_) rfl (by kernel_rfl) (by kernel_rfl) (by kernel_rfl) (fun _ _ _ h => h) (Or.inl ⟨by rfl, ?_⟩) (by assumption) ?_
              rotate_left
              · intro w hSw; (try dsimp only at hSw); go_simp; (try with_reducible rfl)
              try simp only [Act.put, List.setIfInBounds_toArray, List.set_cons_zero, List.set_cons_succ]
              refine wpAnyH_ready (rs := [4, 15]) (by kernel_rfl) (by simp) ?_
              refine AllReadyH.cons (o := { dst := some 39, op := Op.load 23 (Operand.tmp 38), type := 23, pos := _, after := #[{ on := 3, ground := Ground.data }], guard := none }) rfl (fun K hK => ?_) (AllReadyH.cons (o := { dst := some 50, op := Op.buildSlice 23 1 #[(0, Operand.tmp 49)], type := 23, pos := _, after := #[{ on := 14, ground := Ground.data }], guard := none }) rfl (fun K hK => ?_) AllReadyH.nil)
              · go_simp
                refine hK.out _ _ ?_ (fun hHeld => ?_)
                · exact ⟨j05, a05, a15⟩
                clear hK K
                try simp only [Act.put, List.setIfInBounds_toArray, List.set_cons_zero, List.set_cons_succ]
                refine wpAnyH_ready (rs := [15]) (by kernel_rfl) (by simp) ?_
                refine AllReadyH.cons (o := { dst := some 50, op := Op.buildSlice 23 1 #[(0, Operand.tmp 49)], type := 23, pos := _, after := #[{ on := 14, ground := Ground.data }], guard := none }) rfl (fun K hK => ?_) AllReadyH.nil
                go_simp
                refine hK.out _ _ ?_ (fun hHeld => ?_)
                · exact ⟨j05a, a05a, a15a⟩
                clear hK K
                try simp only [Act.put, List.setIfInBounds_toArray, List.set_cons_zero, List.set_cons_succ]
                refine wpAnyH_ready (rs := [16]) (by kernel_rfl) (by simp) ?_
                refine AllReadyH.cons (o := { dst := some 51, op := Op.call { callee := Callee.builtin Builtin.append, args := #[Operand.tmp 39, Operand.tmp 50], argTypes := #[23, 23] }, type := 23, pos := _, after := #[{ on := 4, ground := Ground.data }, { on := 15, ground := Ground.data }, { on := 12, ground := Ground.chain }], guard := none }) rfl (fun K hK => ?_) AllReadyH.nil
                refine step_appT rfl (.tmp 39) (.tmp 50) rfl _ V ts ⟨kd, X, pl, pc⟩ w5.heap.size 1 (by simp [Act.eval, Act.put]) (by simp [Act.eval, Act.put]) (by exact Turn.owns ((Turn.refl [] w5).alloc _) H5.out.row (by simp)) (by exact heap_alloc_new w5 _) (by omega) ?_
                intro v6 w6 ho6 ht6 hm6
                have t5a : Turn [] w5 (w5.alloc (.cells #[.int .i64 (kd : Int), .string ⟨X.toArray⟩, .int .i64 (pl : Int), .int .i64 (pc : Int)] 37)) := (Turn.refl [] w5).alloc _
                have hb6 := ht6.heap (t5a.heap H5.out.blk (by simp)) (fun hg => H5.out.vb (by simpa using hg))
                have hk6 := ht6.heap (t5a.heap HK5.out (by simp)) (fun hg => own_ne H5.out.row HK5.out (by decide) (by simpa using hg))
                have ha6 := ht6.heap (t5a.heap HA5.out (by simp)) (fun hg => own_ne H5.out.row HA5.out (by decide) (by simpa using hg))
                have n3 : w6.cell? ⟨b, 3, none⟩ = some V := cell_of_row w6 b 3 _ 46 (0, 0) hb6
                have f3 : w6.frozen? ⟨b, 3, none⟩ = false := frozen_of_row w6 b 3 _ 46 hb6
                have j06 : w6.cell? ⟨kk, 0, none⟩ = some (.int .i64 (kd : Int)) := cell_of_row w6 kk 0 _ 69 (0, 0) hk6
                have a06 : w6.cell? ⟨ab, 0, none⟩ = some (.int .i64 (pl : Int)) := cell_of_row w6 ab 0 _ 25 (0, 0) ha6
                have a16 : w6.cell? ⟨ab, 1, none⟩ = some (.int .i64 (pc : Int)) := cell_of_row w6 ab 1 _ 25 (0, 0) ha6
                obtain ⟨A6, c6, hv6, _, _⟩ := ho6.form
                rw [List.length_append, List.length_singleton] at hv6
                have HST := Lib.hid (H5.out.stored ho6 ht6 hm6)
                subst hv6
                clear ho6 ht6 hm6 hb6 hk6 ha6 t5a
                refine hK.out _ _ ?_ (fun hHeld => ?_)
                · exact ⟨j06, a06, a16⟩
                clear hK K
                try simp only [Act.put, List.setIfInBounds_toArray, List.set_cons_zero, List.set_cons_succ]
                refine wpAnyH_take (i := 17) (oi := { dst := some 52, op := Op.nilCheck (Operand.tmp 35), type := 0, pos := _, after := #[{ on := 0, ground := Ground.data }, { on := 0, ground := Ground.phase }, { on := 1, ground := Ground.phase }, { on := 2, ground := Ground.phase }, { on := 3, ground := Ground.phase }, { on := 4, ground := Ground.phase }, { on := 5, ground := Ground.phase }, { on := 6, ground := Ground.phase }, { on := 7, ground := Ground.phase }, { on := 8, ground := Ground.phase }, { on := 9, ground := Ground.phase }, { on := 10, ground := Ground.phase }, { on := 11, ground := Ground.phase }, { on := 12, ground := Ground.phase }, { on := 13, ground := Ground.phase }, { on := 14, ground := Ground.phase }, { on := 15, ground := Ground.phase }, { on := 16, ground := Ground.phase }], guard := none }) (v := ?_) rfl (by kernel_rfl) (by kernel_rfl) (by kernel_rfl) (fun _ _ _ h => h) (Or.inl ⟨by rfl, ?_⟩) (by assumption) ?_
                rotate_left
                · intro w hSw; (try dsimp only at hSw); go_simp; (try with_reducible rfl)
                try simp only [Act.put, List.setIfInBounds_toArray, List.set_cons_zero, List.set_cons_succ]
                refine wpAnyH_take (i := 18) (oi := { dst := some 53, op := Op.fieldAddr 46 (Operand.tmp 52) 1, type := 0, pos := _, after := #[{ on := 17, ground := Ground.data }, { on := 0, ground := Ground.phase }, { on := 1, ground := Ground.phase }, { on := 2, ground := Ground.phase }, { on := 3, ground := Ground.phase }, { on := 4, ground := Ground.phase }, { on := 5, ground := Ground.phase }, { on := 6, ground := Ground.phase }, { on := 7, ground := Ground.phase }, { on := 8, ground := Ground.phase }, { on := 9, ground := Ground.phase }, { on := 10, ground := Ground.phase }, { on := 11, ground := Ground.phase }, { on := 12, ground := Ground.phase }, { on := 13, ground := Ground.phase }, { on := 14, ground := Ground.phase }, { on := 15, ground := Ground.phase }, { on := 16, ground := Ground.phase }], guard := none }) (v := ?_) rfl (by kernel_rfl) (by kernel_rfl) (by kernel_rfl) (fun _ _ _ h => h) (Or.inl ⟨by rfl, ?_⟩) (by assumption) ?_
                rotate_left
                · intro w hSw; (try dsimp only at hSw); go_simp; (try with_reducible rfl)
                try simp only [Act.put, List.setIfInBounds_toArray, List.set_cons_zero, List.set_cons_succ]
                refine wpAnyH_ready (rs := [19]) (by kernel_rfl) (by simp) ?_
                refine AllReadyH.cons (o := { dst := none, op := Op.store 23 (Operand.tmp 53) (Operand.tmp 51), type := 0, pos := _, after := #[{ on := 18, ground := Ground.data }, { on := 16, ground := Ground.data }, { on := 16, ground := Ground.chain }, { on := 0, ground := Ground.phase }, { on := 1, ground := Ground.phase }, { on := 2, ground := Ground.phase }, { on := 3, ground := Ground.phase }, { on := 4, ground := Ground.phase }, { on := 5, ground := Ground.phase }, { on := 6, ground := Ground.phase }, { on := 7, ground := Ground.phase }, { on := 8, ground := Ground.phase }, { on := 9, ground := Ground.phase }, { on := 10, ground := Ground.phase }, { on := 11, ground := Ground.phase }, { on := 12, ground := Ground.phase }, { on := 13, ground := Ground.phase }, { on := 14, ground := Ground.phase }, { on := 15, ground := Ground.phase }, { on := 16, ground := Ground.phase }], guard := none }) rfl (fun K hK => ?_) AllReadyH.nil
                go_simp
                refine hK.out _ _ ?_ (fun hHeld => ?_)
                · exact ⟨(World.cell?_setCell_other hne1 _).trans j06, (World.cell?_setCell_other hne2 _).trans a06, (World.cell?_setCell_other hne2 _).trans a16⟩
                clear hK K
                try simp only [Act.put, List.setIfInBounds_toArray, List.set_cons_zero, List.set_cons_succ]
                refine wpAnyH_done (by kernel_rfl) ?_ _
                go_wp2_with fail
                go_ret
                obtain ⟨F', hR', hF', hT'⟩ := HST.out
                have hTw : Turn F w w5 := ((HT3.out).more (by simp)).trans HT5.out (by intro g hg; simp at hg; subst hg; exact .inl H5.out.fb)
                rw [HFS.out, HQ.out, HX.out, HPP.out.1, HPP.out.2]
                exact ⟨rfl, F', (Foot.refl w.heap.size F).trans hF' hTw.size, hTw.trans hT' (fun g hg => .inl hg), fun h => absurd rfl h, fun _ => hR'⟩
              · go_simp
                refine hK.out _ _ ?_ (fun hHeld => ?_)
                · exact ⟨j05a, a05a, a15a⟩
                clear hK K
                try simp only [Act.put, List.setIfInBounds_toArray, List.set_cons_zero, List.set_cons_succ]
                refine wpAnyH_ready (rs := [4]) (by kernel_rfl) (by simp) ?_
                refine AllReadyH.cons (o := { dst := some 39, op := Op.load 23 (Operand.tmp 38), type := 23, pos := _, after := #[{ on := 3, ground := Ground.data }], guard := none }) rfl (fun K hK => ?_) AllReadyH.nil
                go_simp
                refine hK.out _ _ ?_ (fun hHeld => ?_)
                · exact ⟨j05a, a05a, a15a⟩
                clear hK K
                try simp only [Act.put, List.setIfInBounds_toArray, List.set_cons_zero, List.set_cons_succ]
                refine wpAnyH_ready (rs := [16]) (by kernel_rfl) (by simp) ?_
                refine AllReadyH.cons (o := { dst := some 51, op := Op.call { callee := Callee.builtin Builtin.append, args := #[Operand.tmp 39, Operand.tmp 50], argTypes := #[23, 23] }, type := 23, pos := _, after := #[{ on := 4, ground := Ground.data }, { on := 15, ground := Ground.data }, { on := 12, ground := Ground.chain }], guard := none }) rfl (fun K hK => ?_) AllReadyH.nil
                refine step_appT rfl (.tmp 39) (.tmp 50) rfl _ V ts ⟨kd, X, pl, pc⟩ w5.heap.size 1 (by simp [Act.eval, Act.put]) (by simp [Act.eval, Act.put]) (by exact Turn.owns ((Turn.refl [] w5).alloc _) H5.out.row (by simp)) (by exact heap_alloc_new w5 _) (by omega) ?_
                intro v6 w6 ho6 ht6 hm6
                have t5a : Turn [] w5 (w5.alloc (.cells #[.int .i64 (kd : Int), .string ⟨X.toArray⟩, .int .i64 (pl : Int), .int .i64 (pc : Int)] 37)) := (Turn.refl [] w5).alloc _
                have hb6 := ht6.heap (t5a.heap H5.out.blk (by simp)) (fun hg => H5.out.vb (by simpa using hg))
                have hk6 := ht6.heap (t5a.heap HK5.out (by simp)) (fun hg => own_ne H5.out.row HK5.out (by decide) (by simpa using hg))
                have ha6 := ht6.heap (t5a.heap HA5.out (by simp)) (fun hg => own_ne H5.out.row HA5.out (by decide) (by simpa using hg))
                have n3 : w6.cell? ⟨b, 3, none⟩ = some V := cell_of_row w6 b 3 _ 46 (0, 0) hb6
                have f3 : w6.frozen? ⟨b, 3, none⟩ = false := frozen_of_row w6 b 3 _ 46 hb6
                have j06 : w6.cell? ⟨kk, 0, none⟩ = some (.int .i64 (kd : Int)) := cell_of_row w6 kk 0 _ 69 (0, 0) hk6
                have a06 : w6.cell? ⟨ab, 0, none⟩ = some (.int .i64 (pl : Int)) := cell_of_row w6 ab 0 _ 25 (0, 0) ha6
                have a16 : w6.cell? ⟨ab, 1, none⟩ = some (.int .i64 (pc : Int)) := cell_of_row w6 ab 1 _ 25 (0, 0) ha6
                obtain ⟨A6, c6, hv6, _, _⟩ := ho6.form
                rw [List.length_append, List.length_singleton] at hv6
                have HST := Lib.hid (H5.out.stored ho6 ht6 hm6)
                subst hv6
                clear ho6 ht6 hm6 hb6 hk6 ha6 t5a
                refine hK.out _ _ ?_ (fun hHeld => ?_)
                · exact ⟨j06, a06, a16⟩
                clear hK K
                try simp only [Act.put, List.setIfInBounds_toArray, List.set_cons_zero, List.set_cons_succ]
                refine wpAnyH_take (i := 17) (oi := { dst := some 52, op := Op.nilCheck (Operand.tmp 35), type := 0, pos := _, after := #[{ on := 0, ground := Ground.data }, { on := 0, ground := Ground.phase }, { on := 1, ground := Ground.phase }, { on := 2, ground := Ground.phase }, { on := 3, ground := Ground.phase }, { on := 4, ground := Ground.phase }, { on := 5, ground := Ground.phase }, { on := 6, ground := Ground.phase }, { on := 7, ground := Ground.phase }, { on := 8, ground := Ground.phase }, { on := 9, ground := Ground.phase }, { on := 10, ground := Ground.phase }, { on := 11, ground := Ground.phase }, { on := 12, ground := Ground.phase }, { on := 13, ground := Ground.phase }, { on := 14, ground := Ground.phase }, { on := 15, ground := Ground.phase }, { on := 16, ground := Ground.phase }], guard := none }) (v := ?_) rfl (by kernel_rfl) (by kernel_rfl) (by kernel_rfl) (fun _ _ _ h => h) (Or.inl ⟨by rfl, ?_⟩) (by assumption) ?_
                rotate_left
                · intro w hSw; (try dsimp only at hSw); go_simp; (try with_reducible rfl)
                try simp only [Act.put, List.setIfInBounds_toArray, List.set_cons_zero, List.set_cons_succ]
                refine wpAnyH_take (i := 18) (oi := { dst := some 53, op := Op.fieldAddr 46 (Operand.tmp 52) 1, type := 0, pos := _, after := #[{ on := 17, ground := Ground.data }, { on := 0, ground := Ground.phase }, { on := 1, ground := Ground.phase }, { on := 2, ground := Ground.phase }, { on := 3, ground := Ground.phase }, { on := 4, ground := Ground.phase }, { on := 5, ground := Ground.phase }, { on := 6, ground := Ground.phase }, { on := 7, ground := Ground.phase }, { on := 8, ground := Ground.phase }, { on := 9, ground := Ground.phase }, { on := 10, ground := Ground.phase }, { on := 11, ground := Ground.phase }, { on := 12, ground := Ground.phase }, { on := 13, ground := Ground.phase }, { on := 14, ground := Ground.phase }, { on := 15, ground := Ground.phase }, { on := 16, ground := Ground.phase }], guard := none }) (v := ?_) rfl (by kernel_rfl) (by kernel_rfl) (by kernel_rfl) (fun _ _ _ h => h) (Or.inl ⟨by rfl, ?_⟩) (by assumption) ?_
                rotate_left
                · intro w hSw; (try dsimp only at hSw); go_simp; (try with_reducible rfl)
                try simp only [Act.put, List.setIfInBounds_toArray, List.set_cons_zero, List.set_cons_succ]
                refine wpAnyH_ready (rs := [19]) (by kernel_rfl) (by simp) ?_
                refine AllReadyH.cons (o := { dst := none, op := Op.store 23 (Operand.tmp 53) (Operand.tmp 51), type := 0, pos := _, after := #[{ on := 18, ground := Ground.data }, { on := 16, ground := Ground.data }, { on := 16, ground := Ground.chain }, { on := 0, ground := Ground.phase }, { on := 1, ground := Ground.phase }, { on := 2, ground := Ground.phase }, { on := 3, ground := Ground.phase }, { on := 4, ground := Ground.phase }, { on := 5, ground := Ground.phase }, { on := 6, ground := Ground.phase }, { on := 7, ground := Ground.phase }, { on := 8, ground := Ground.phase }, { on := 9, ground := Ground.phase }, { on := 10, ground := Ground.phase }, { on := 11, ground := Ground.phase }, { on := 12, ground := Ground.phase }, { on := 13, ground := Ground.phase }, { on := 14, ground := Ground.phase }, { on := 15, ground := Ground.phase }, { on := 16, ground := Ground.phase }], guard := none }) rfl (fun K hK => ?_) AllReadyH.nil
                go_simp
                refine hK.out _ _ ?_ (fun hHeld => ?_)
                · exact ⟨(World.cell?_setCell_other hne1 _).trans j06, (World.cell?_setCell_other hne2 _).trans a06, (World.cell?_setCell_other hne2 _).trans a16⟩
                clear hK K
                try simp only [Act.put, List.setIfInBounds_toArray, List.set_cons_zero, List.set_cons_succ]
                refine wpAnyH_done (by kernel_rfl) ?_ _
                go_wp2_with fail
                go_ret
                obtain ⟨F', hR', hF', hT'⟩ := HST.out
                have hTw : Turn F w w5 := ((HT3.out).more (by simp)).trans HT5.out (by intro g hg; simp at hg; subst hg; exact .inl H5.out.fb)
                rw [HFS.out, HQ.out, HX.out, HPP.out.1, HPP.out.2]
                exact ⟨rfl, F', (Foot.refl w.heap.size F).trans hF' hTw.size, hTw.trans hT' (fun g hg => .inl hg), fun h => absurd rfl h, fun _ => hR'⟩
        · obtain rfl : q = 0 := by omega
          go_wp2_with fail
          go_roundw
          case rel =>
            exact ⟨i + 1, by omega, by go_num, Lib.hid (HN.out.next HKA.out HQ.out), HT2⟩
          case measure => simp [intOf]; omega
    · obtain rfl : i = 3 := by omega
      go_wp2_with fail
      go_ret
      have e := HN.out.none
      rw [e]
      exact ⟨rfl, F, Foot.refl _ _, HT.out.more (by simp), fun _ => ⟨V, s, H.out.up HT.out⟩, fun h => by omega⟩

theorem read_said : ReadSaid := fun b F G T n ts kb w h hK hd hT hts => read_any b F G T n ts kb w h hK hd hT hts
end Go.Proofs.YthdoihemjndmlaaDoor
