import Derived.Test.YtnmhcgkccchacaaGreatDoorQ00Kit
import Derived.Laws.EntriesVeiled
import Derived.StillTailTactics
import Derived.Deep.RegionHeld3
import Derived.Lib.BufferWrite
import Derived.Lib.UnsafeStr
import Derived.Laws.MakeOwn
import Derived.Deep.MidRow

/- How the measures are made. -/
set_option linter.unusedSimpArgs false
set_option linter.unusedVariables false
set_option maxRecDepth 100000
namespace Go.Proofs.YtnmhcgkccchacaaGreatDoor
open Go.RowKit

theorem mf : ∀ (fn : Fn) (first cap : Array Value) (w : World), (Instr.makeFunc fn first cap).run Tryz.prog w = .ok (.func fn first cap) w := fun _ _ _ _ => rfl

theorem one_alloc (w : World) (v : Value) (t : TypeId) (hv : v.cells = #[v]) : (w.alloc (.cells #[v] t)).cell? ⟨w.heap.size, 0, none⟩ = some v := by
  simp

theorem mkAmong_any (s : ByteArray) (w : World) :
    Calls Tryz.prog 127 #[.string s] w fun e w' => ∃ v G, e = .returned v ∧ Oct w' G v (fun c => s.data.toList.contains c) ∧ Turn [] w w' ∧ ∀ g ∈ G, w.heap.size ≤ g := by
  have hmf := mf
  go_enter Tryz.func127, Tryz.ntmps127
  go_wp2_with fail
  go_ret
  refine ⟨_, [w.heap.size], rfl, Oct.among (by simp) (by simp), (Turn.refl _ _).alloc _, by simp⟩

theorem mkBut_any (v0 : Value) (p : UInt8 → Bool) (G0 : List Nat) (w : World) (h : Oct w G0 v0 p) :
    Calls Tryz.prog 128 #[v0] w fun e w' => ∃ v G, e = .returned v ∧ Oct w' G v (fun c => !p c) ∧ Turn [] w w' ∧ ∀ g ∈ G, w.heap.size ≤ g ∨ g ∈ G0 := by
  have hmf := mf
  have HO := Lib.hid h
  obtain ⟨hG, k, caps, rfl, hen, hk⟩ := h
  clear hk hen hG
  go_enter Tryz.func128, Tryz.ntmps128
  go_wp2_with fail
  go_ret
  refine ⟨_, w.heap.size :: G0, rfl, Oct.but (by simp) (by simp) (HO.out.turn ((Turn.refl [] w).alloc _) (by simp)), (Turn.refl _ _).alloc _, ?_⟩
  intro g hg
  simp at hg
  rcases hg with rfl | hg
  · exact .inl (Nat.le_refl _)
  · exact .inr hg

theorem mkRun_any (v1 v2 : Value) (p q : UInt8 → Bool) (G1 G2 : List Nat) (w : World) (h1 : Oct w G1 v1 p) (h2 : Oct w G2 v2 q) :
    Calls Tryz.prog 126 #[v1, v2] w fun e w' => ∃ v G, e = .returned v ∧ Msr w' G v (runN p q) ∧ Turn [] w w' ∧ ∀ g ∈ G, w.heap.size ≤ g ∨ g ∈ G1 ∨ g ∈ G2 := by
  have hmf := mf
  have HO1 := Lib.hid h1
  have HO2 := Lib.hid h2
  obtain ⟨hG1, k1, caps1, rfl, hen1, hk1⟩ := h1
  obtain ⟨hG2, k2, caps2, rfl, hen2, hk2⟩ := h2
  clear hk1 hen1 hG1 hk2 hen2 hG2
  go_enter Tryz.func126, Tryz.ntmps126
  go_wp2_with fail
  go_ret
  have t : Turn [] w ((w.alloc (.cells #[.func (.func k1) #[] caps1.toArray] 169)).alloc (.cells #[.func (.func k2) #[] caps2.toArray] 169)) := ((Turn.refl [] w).alloc _).alloc _
  refine ⟨_, w.heap.size :: (w.heap.size + 1) :: (G1 ++ G2), rfl, Msr.run (by simp; omega) (by simp) ?_ ?_ (HO1.out.turn t (by simp)) (HO2.out.turn t (by simp)), t, ?_⟩
  · simp
  · simp
  intro g hg
  simp at hg
  rcases hg with rfl | rfl | hg | hg
  · exact .inl (Nat.le_refl _)
  · exact .inl (by omega)
  · exact .inr (.inl hg)
  · exact .inr (.inr hg)
end Go.Proofs.YtnmhcgkccchacaaGreatDoor

/- The measures of words, numbers, signs, and of what stands between, as they are made. -/
set_option linter.unusedSimpArgs false
set_option linter.unusedVariables false
namespace Go.Proofs.YtnmhcgkccchacaaGreatDoor
open Go.RowKit

def LET : List UInt8 := [65, 66, 67, 68, 69, 70, 71, 72, 73, 74, 75, 76, 77, 78, 79, 80, 81, 82, 83, 84, 85, 86, 87, 88, 89, 90, 97, 98, 99, 100, 101, 102, 103, 104, 105, 106, 107, 108, 109, 110, 111, 112, 113, 114, 115, 116, 117, 118, 119, 120, 121, 122, 95]
def WRD : List UInt8 := [65, 66, 67, 68, 69, 70, 71, 72, 73, 74, 75, 76, 77, 78, 79, 80, 81, 82, 83, 84, 85, 86, 87, 88, 89, 90, 97, 98, 99, 100, 101, 102, 103, 104, 105, 106, 107, 108, 109, 110, 111, 112, 113, 114, 115, 116, 117, 118, 119, 120, 121, 122, 95, 48, 49, 50, 51, 52, 53, 54, 55, 56, 57]
def DIG : List UInt8 := [48, 49, 50, 51, 52, 53, 54, 55, 56, 57]
def BLK : List UInt8 := [32, 9, 13, 10]
def isL (c : UInt8) : Bool := LET.contains c
def isW (c : UInt8) : Bool := WRD.contains c
def isD (c : UInt8) : Bool := DIG.contains c
def isB (c : UInt8) : Bool := BLK.contains c
def isH (c : UInt8) : Bool := [35].contains c
def noF (c : UInt8) : Bool := ![10].contains c
def wdN : List UInt8 → Nat := runN isL isW
def nmN : List UInt8 → Nat := runN isD isD
def gpN (t : List UInt8) : Nat := max (runN isB isB t) (runN isH noF t)

theorem Oct.up {w w' : World} {G : List Nat} {v : Value} {p : UInt8 → Bool} (h : Oct w G v p) (t : Turn [] w w') : Oct w' G v p := h.turn t (by simp)
theorem Msr.up {w w' : World} {G : List Nat} {v : Value} {f : List UInt8 → Nat} (h : Msr w G v f) (t : Turn [] w w') : Msr w' G v f := h.turn t (by simp)

set_option maxRecDepth 100000 in
theorem mkWord_any (w : World) : Calls Tryz.prog 130 #[] w fun e w' => ∃ v G, e = .returned v ∧ Msr w' G v wdN ∧ Turn [] w w' ∧ ∀ g ∈ G, w.heap.size ≤ g := by
  go_enter Tryz.func130, Tryz.ntmps130
  go_wp2_with fail
  refine (mkAmong_any ⟨LET.toArray⟩ w).mono ?_
  rintro e w1 ⟨v1, G1, rfl, h1, t1, g1⟩
  have H1 := Lib.hid h1
  clear h1
  go_wp2_with fail
  refine (mkAmong_any ⟨WRD.toArray⟩ w1).mono ?_
  rintro e w2 ⟨v2, G2, rfl, h2, t2, g2⟩
  have H2 := Lib.hid h2
  clear h2
  go_wp2_with fail
  refine (mkRun_any v1 v2 _ _ G1 G2 w2 (H1.out.up t2) H2.out).mono ?_
  rintro e w3 ⟨v3, G3, rfl, h3, t3, g3⟩
  have H3 := Lib.hid h3
  clear h3
  go_wp2_with fail
  go_ret
  refine ⟨v3, G3, rfl, H3.out, (t1.trans' t2).trans' t3, fun g hg => ?_⟩
  have s1 := t1.size
  have s2 := t2.size
  rcases g3 g hg with h | h | h
  · omega
  · exact g1 g h
  · have := g2 g h
    omega

theorem mkNumber_any (w : World) : Calls Tryz.prog 131 #[] w fun e w' => ∃ v G, e = .returned v ∧ Msr w' G v nmN ∧ Turn [] w w' ∧ ∀ g ∈ G, w.heap.size ≤ g := by
  go_enter Tryz.func131, Tryz.ntmps131
  go_wp2_with fail
  refine (mkAmong_any ⟨DIG.toArray⟩ w).mono ?_
  rintro e w1 ⟨v1, G1, rfl, h1, t1, g1⟩
  have H1 := Lib.hid h1
  clear h1
  go_wp2_with fail
  refine (mkAmong_any ⟨DIG.toArray⟩ w1).mono ?_
  rintro e w2 ⟨v2, G2, rfl, h2, t2, g2⟩
  have H2 := Lib.hid h2
  clear h2
  go_wp2_with fail
  refine (mkRun_any v1 v2 _ _ G1 G2 w2 (H1.out.up t2) H2.out).mono ?_
  rintro e w3 ⟨v3, G3, rfl, h3, t3, g3⟩
  have H3 := Lib.hid h3
  clear h3
  go_wp2_with fail
  go_ret
  refine ⟨v3, G3, rfl, H3.out, (t1.trans' t2).trans' t3, fun g hg => ?_⟩
  have s1 := t1.size
  have s2 := t2.size
  rcases g3 g hg with h | h | h
  · omega
  · exact g1 g h
  · have := g2 g h
    omega

theorem mkSign_any (w : World) (h : Sg w) : Calls Tryz.prog 132 #[] w fun e w' => e = .returned (.func (.func 148) #[] #[]) ∧ w' = w := by
  have HS := Lib.hid h
  clear h
  go_enter Tryz.func132, Tryz.ntmps132
  go_wp2_with fail
  go_ret
  exact ⟨rfl, rfl⟩

theorem mkGap_any (w : World) : Calls Tryz.prog 100 #[] w fun e w' => ∃ v G, e = .returned v ∧ Msr w' G v gpN ∧ Turn [] w w' ∧ ∀ g ∈ G, w.heap.size ≤ g := by
  have hmf := mf
  go_enter Tryz.func100, Tryz.ntmps100
  go_wp2_with fail
  refine (mkAmong_any ⟨BLK.toArray⟩ w).mono ?_
  rintro e w1 ⟨v1, G1, rfl, h1, t1, g1⟩
  have H1 := Lib.hid h1
  clear h1
  go_wp2_with fail
  refine (mkAmong_any ⟨BLK.toArray⟩ w1).mono ?_
  rintro e w2 ⟨v2, G2, rfl, h2, t2, g2⟩
  have H2 := Lib.hid h2
  clear h2
  go_wp2_with fail
  refine (mkRun_any v1 v2 _ _ G1 G2 w2 (H1.out.up t2) H2.out).mono ?_
  rintro e w3 ⟨v3, G3, rfl, h3, t3, g3⟩
  have H3 := Lib.hid h3
  clear h3
  go_wp2_with fail
  refine (mkAmong_any ⟨#[35]⟩ w3).mono ?_
  rintro e w4 ⟨v4, G4, rfl, h4, t4, g4⟩
  have H4 := Lib.hid h4
  clear h4
  go_wp2_with fail
  refine (mkAmong_any ⟨#[10]⟩ w4).mono ?_
  rintro e w5 ⟨v5, G5, rfl, h5, t5, g5⟩
  have H5 := Lib.hid h5
  clear h5
  go_wp2_with fail
  refine (mkBut_any v5 _ G5 w5 H5.out).mono ?_
  rintro e w6 ⟨v6, G6, rfl, h6, t6, g6⟩
  have H6 := Lib.hid h6
  clear h6
  go_wp2_with fail
  refine (mkRun_any v4 v6 _ _ G4 G6 w6 ((H4.out.up t5).up t6) H6.out).mono ?_
  rintro e w7 ⟨v7, G7, rfl, h7, t7, g7⟩
  have H7 := Lib.hid h7
  have H3' := Lib.hid ((((H3.out.up t4).up t5).up t6).up t7)
  obtain ⟨k3, c3, e3⟩ : ∃ k c, v3 = .func (.func k) #[] c := ⟨_, _, H3'.out.2.choose_spec.choose_spec.1⟩
  obtain ⟨k7, c7, e7⟩ : ∃ k c, v7 = .func (.func k) #[] c := ⟨_, _, H7.out.2.choose_spec.choose_spec.1⟩
  clear h7
  subst e3 e7
  go_wp2_with fail
  go_ret
  have t8 : Turn [] w7 ((w7.alloc (.cells #[.func (.func k3) #[] c3] 147)).alloc (.cells #[.func (.func k7) #[] c7] 147)) := ((Turn.refl [] w7).alloc _).alloc _
  refine ⟨_, w7.heap.size :: (w7.heap.size + 1) :: (G3 ++ G7), rfl, Msr.gap (f := runN isB isB) (g := runN isH noF) (by simp; omega) (by simp) (by simp) (by simp) (H3'.out.up t8) (H7.out.up t8), ((((((t1.trans' t2).trans' t3).trans' t4).trans' t5).trans' t6).trans' t7).trans' t8, ?_⟩
  have s1 := t1.size
  have s2 := t2.size
  have s3 := t3.size
  have s4 := t4.size
  have s5 := t5.size
  have s6 := t6.size
  have s7 := t7.size
  intro g hg
  simp at hg
  rcases hg with rfl | rfl | hg | hg
  · omega
  · omega
  · rcases g3 g hg with h | h | h
    · omega
    · exact g1 g h
    · have := g2 g h
      omega
  · rcases g7 g hg with h | h | h
    · omega
    · have := g4 g h
      omega
    · rcases g6 g h with h | h
      · omega
      · have := g5 g h
        omega

/-- The kinds of tokens: their shapes lie in block b; all of it reads the blocks G alone. -/
def Knd (w : World) (G : List Nat) (b : Nat) : Prop :=
  b ∈ G ∧ (∀ g ∈ G, g < w.heap.size) ∧ ∃ v1 v2 v3, w.heap[b]? = some (.cells #[.int .i64 0, v1, .int .i64 32, .int .i64 1, v2, .int .i64 3, .int .i64 2, v3, .int .i64 2] 173 (0, 0)) ∧ Msr w G v1 wdN ∧ Msr w G v2 nmN ∧ Msr w G v3 sgN
theorem Msr.more {w : World} {G G' : List Nat} {v : Value} {f : List UInt8 → Nat} (h : Msr w G v f) (hs : ∀ g ∈ G, g ∈ G') (hl : ∀ g ∈ G', g < w.heap.size) : Msr w G' v f := by
  obtain ⟨hG, k, caps, rfl, hen, hk⟩ := h
  exact ⟨hl, k, caps, rfl, hen, fun w2 h2 c => hk w2 (fun g hg => h2 g (hs g hg)) c⟩
theorem Knd.turn {w w' : World} {F G : List Nat} {b : Nat} (h : Knd w G b) (t : Turn F w w') (hn : ∀ g ∈ G, g ∉ F) : Knd w' G b := by
  obtain ⟨hb, hl, v1, v2, v3, hbl, h1, h2, h3⟩ := h
  exact ⟨hb, fun g hg => Nat.lt_of_lt_of_le (hl g hg) t.size, v1, v2, v3, t.heap hbl (hn b hb), h1.turn t hn, h2.turn t hn, h3.turn t hn⟩

theorem mkShapes_any (w : World) (h : Sg w) : Calls Tryz.prog 101 #[] w fun e w' => ∃ b G, e = .returned (.slice (some ⟨b, 0, none⟩) 3 3) ∧ Knd w' G b ∧ Turn [] w w' ∧ ∀ g ∈ G, w.heap.size ≤ g ∨ g = 0 := by
  have HS := Lib.hid h
  clear h
  go_enter Tryz.func101, Tryz.ntmps101
  go_wp2_with fail
  refine (mkWord_any w).mono ?_
  rintro e w1 ⟨v1, G1, rfl, h1, t1, g1⟩
  have H1 := Lib.hid h1
  obtain ⟨k1, c1, e1⟩ : ∃ k c, v1 = .func (.func k) #[] c := ⟨_, _, H1.out.2.choose_spec.choose_spec.1⟩
  clear h1
  subst e1
  go_wp2_with fail
  refine (mkNumber_any w1).mono ?_
  rintro e w2 ⟨v2, G2, rfl, h2, t2, g2⟩
  have H2 := Lib.hid h2
  obtain ⟨k2, c2, e2⟩ : ∃ k c, v2 = .func (.func k) #[] c := ⟨_, _, H2.out.2.choose_spec.choose_spec.1⟩
  clear h2
  subst e2
  go_wp2_with fail
  have hS2 := (HS.out.turn t1 (by simp)).turn t2 (by simp)
  have HS2 := Lib.hid hS2
  clear hS2
  refine (mkSign_any w2 HS2.out).mono ?_
  rintro e w3 ⟨rfl, rfl⟩
  go_wp2_with fail
  go_ret
  have s1 := t1.size
  have s2 := t2.size
  have t4 := (Turn.refl [] w3).alloc (.cells #[.int .i64 0, .func (.func k1) #[] c1, .int .i64 32, .int .i64 1, .func (.func k2) #[] c2, .int .i64 3, .int .i64 2, .func (.func 148) #[] #[], .int .i64 2] 173)
  have hl : ∀ g ∈ w3.heap.size :: 0 :: (G1 ++ G2), g < (w3.alloc (.cells #[.int .i64 0, .func (.func k1) #[] c1, .int .i64 32, .int .i64 1, .func (.func k2) #[] c2, .int .i64 3, .int .i64 2, .func (.func 148) #[] #[], .int .i64 2] 173)).heap.size := by
    intro g hg
    have h1 := HS2.out.1
    simp at hg ⊢
    rcases hg with rfl | rfl | hg | hg
    · omega
    · omega
    · have := H1.out.1 g hg
      omega
    · have := H2.out.1 g hg
      omega
  refine ⟨_, w3.heap.size :: 0 :: (G1 ++ G2), rfl, ⟨by simp, hl, _, _, _, heap_alloc_new _ _, ?_, ?_, ?_⟩, (t1.trans' t2).trans' t4, ?_⟩
  · exact ((H1.out.up t2).up t4).more (fun g hg => by simp [hg]) hl
  · exact (H2.out.up t4).more (fun g hg => by simp [hg]) hl
  · exact ((Msr.sign HS2.out).up t4).more (fun g hg => by simp at hg; simp [hg]) hl
  · intro g hg
    simp at hg
    rcases hg with rfl | rfl | hg | hg
    · exact .inl (by omega)
    · exact .inr rfl
    · exact .inl (g1 g hg)
    · have := g2 g hg
      exact .inl (by omega)
end Go.Proofs.YtnmhcgkccchacaaGreatDoor

/- Going along a text: place.pass, place.fault, cursor.take, start. -/
set_option linter.unusedSimpArgs false
set_option linter.unusedVariables false
set_option maxRecDepth 100000
namespace Go.Proofs.YtnmhcgkccchacaaGreatDoor
open Go.RowKit

def adv (p : Nat × Nat) (c : UInt8) : Nat × Nat := if c = 10 then (p.1 + 1, 1) else (p.1, p.2 + 1)
def pss (p : Nat × Nat) (t : List UInt8) : Nat × Nat := t.foldl adv p

theorem pss_le : ∀ (t : List UInt8) (p : Nat × Nat), (pss p t).1 ≤ p.1 + t.length ∧ (pss p t).2 ≤ p.2 + t.length + 1
  | [], p => by simp [pss]
  | c :: t, p => by
    have := pss_le t (adv p c)
    have e : pss p (c :: t) = pss (adv p c) t := rfl
    rw [e, List.length_cons]
    unfold adv at *
    split at this <;> (rename_i h; simp only [h, if_true, if_false] at this ⊢; omega)
theorem pss_snoc (p : Nat × Nat) (t : List UInt8) (c : UInt8) : pss p (t ++ [c]) = adv (pss p t) c := by simp [pss, List.foldl_append]
theorem pss_app (p : Nat × Nat) (t u : List UInt8) : pss p (t ++ u) = pss (pss p t) u := by simp [pss, List.foldl_append]

theorem cells4_0 {w : World} {b : Nat} {x0 x1 x2 x3 y : Value} (h : w.heap[b]? = some (.cells #[x0, x1, x2, x3] 129 (0, 0))) : (w.setCell ⟨b, 0, none⟩ y).heap[b]? = some (.cells #[y, x1, x2, x3] 129 (0, 0)) := by
  simp only [World.setCell, Array.getElem?_modify, h, if_true, Option.map_some]
  rfl
theorem cells4_1 {w : World} {b : Nat} {x0 x1 x2 x3 y : Value} (h : w.heap[b]? = some (.cells #[x0, x1, x2, x3] 129 (0, 0))) : (w.setCell ⟨b, 1, none⟩ y).heap[b]? = some (.cells #[x0, y, x2, x3] 129 (0, 0)) := by
  simp only [World.setCell, Array.getElem?_modify, h, if_true, Option.map_some]
  rfl
theorem cells4_2 {w : World} {b : Nat} {x0 x1 x2 x3 y : Value} (h : w.heap[b]? = some (.cells #[x0, x1, x2, x3] 129 (0, 0))) : (w.setCell ⟨b, 2, none⟩ y).heap[b]? = some (.cells #[x0, x1, y, x3] 129 (0, 0)) := by
  simp only [World.setCell, Array.getElem?_modify, h, if_true, Option.map_some]
  rfl
theorem cells4_3 {w : World} {b : Nat} {x0 x1 x2 x3 y : Value} (h : w.heap[b]? = some (.cells #[x0, x1, x2, x3] 129 (0, 0))) : (w.setCell ⟨b, 3, none⟩ y).heap[b]? = some (.cells #[x0, x1, x2, y] 129 (0, 0)) := by
  simp only [World.setCell, Array.getElem?_modify, h, if_true, Option.map_some]
  rfl

theorem cell_of_row (w : World) (b i : Nat) (cs : Array Value) (t : TypeId) (z : Nat × Nat) (h : w.heap[b]? = some (.cells cs t z)) : w.cell? ⟨b, i, none⟩ = cs[i]? := by
  simp [World.cell?, h]
theorem frozen_of_row (w : World) (b i : Nat) (cs : Array Value) (t : TypeId) (h : w.heap[b]? = some (.cells cs t (0, 0))) : w.frozen? ⟨b, i, none⟩ = false := by
  simp [World.frozen?, h]

set_option maxHeartbeats 1600000 in
theorem pass_any (b l c : Nat) (x2 x3 : Value) (s : ByteArray) (w : World) (h : w.heap[b]? = some (.cells #[.int .i64 (l : Int), .int .i64 (c : Int), x2, x3] 129 (0, 0))) (hs : s.size ≤ 1000000) (hl : l ≤ 1000000) (hc : c ≤ 1000000) :
    Calls Tryz.prog 150 #[.pointer (some ⟨b, 0, none⟩), .string s] w fun e w' => e = .returned (.tuple #[]) ∧
      w'.heap[b]? = some (.cells #[.int .i64 ((pss (l, c) s.data.toList).1 : Int), .int .i64 ((pss (l, c) s.data.toList).2 : Int), x2, x3] 129 (0, 0)) ∧ Turn [b] w w' := by
  have HB := Lib.hid h
  clear h
  go_enter Tryz.func150, Tryz.ntmps150
  go_wp2_with fail
  go_loopw [7] (fun ti wr => ∃ i q1 q2 : Nat, i ≤ s.size ∧ ti = .int .i64 (i : Int) ∧ q1 ≤ l + i ∧ q2 ≤ c + i + 1 ∧ Hid (pss (l, c) (s.data.toList.take i) = (q1, q2)) ∧ Hid (wr.heap[b]? = some (.cells #[.int .i64 (q1 : Int), .int .i64 (q2 : Int), x2, x3] 129 (0, 0))) ∧ Hid (Turn [b] w wr)) (fun ti _ => s.size - (intOf ti).toNat)
  case atStart => exact ⟨0, l, c, by omega, rfl, by omega, by omega, Lib.hid rfl, HB, Lib.hid (Turn.refl _ _)⟩
  case round =>
    obtain ⟨i, q1, q2, hi, rfl, hq1, hq2, HP, HW, HT⟩ := hrel
    by_cases hlt : i < s.size
    · have d1 : decide ((i : Int) < (s.size : Int)) = true := by simp; omega
      have d2 : (i : Int) < (s.size : Int) := by omega
      have hst : pss (l, c) (s.data.toList.take (i + 1)) = adv (q1, q2) s[i] := by
        rw [take_snoc (data_get hlt), pss_snoc, HP.out]
      have HST := Lib.hid hst
      clear hst
      have c0 : wr.cell? ⟨b, 0, none⟩ = some (.int .i64 (q1 : Int)) := cell_of_row wr b 0 _ 129 (0, 0) HW.out
      have c1 : wr.cell? ⟨b, 1, none⟩ = some (.int .i64 (q2 : Int)) := cell_of_row wr b 1 _ 129 (0, 0) HW.out
      have f0 : wr.frozen? ⟨b, 0, none⟩ = false := frozen_of_row wr b 0 _ 129 HW.out
      have f1 : wr.frozen? ⟨b, 1, none⟩ = false := frozen_of_row wr b 1 _ 129 HW.out
      by_cases h10 : s[i] = 10
      · have d3 : decide ((s[i].toNat : Int) = 10) = true := by rw [h10]; rfl
        have d4 : ((s[i].toNat : Int) == 10) = true := by rw [h10]; rfl
        have d5 : (s[i].toNat : Int) = 10 := by rw [h10]; rfl
        have H10 := Lib.hid h10
        clear h10
        go_wp2_with fail
        go_roundw
        case rel =>
          refine ⟨i + 1, q1 + 1, 1, by omega, by go_num, by omega, by omega, Lib.hid (by rw [HST.out]; unfold adv; rw [if_pos H10.out]), Lib.hid ?_, Lib.hid (((HT.out).setCell (.inl (by simp)) _).setCell (.inl (by simp)) _)⟩
          exact cells4_1 (cells4_0 HW.out)
        case measure => simp [intOf]; omega
      · have h11 : ¬ (s[i].toNat : Int) = 10 := fun e => h10 (UInt8.toNat_inj.1 (by simpa using (by omega : s[i].toNat = 10)))
        have d3 : decide ((s[i].toNat : Int) = 10) = false := by simpa using h11
        have d4 : ((s[i].toNat : Int) == 10) = false := by simpa using h11
        have H10 := Lib.hid h10
        clear h10
        go_wp2_with fail
        go_roundw
        case rel =>
          refine ⟨i + 1, q1, q2 + 1, by omega, by go_num, by omega, by omega, Lib.hid (by rw [HST.out]; unfold adv; rw [if_neg H10.out]), Lib.hid ?_, Lib.hid ((HT.out).setCell (.inl (by simp)) _)⟩
          exact cells4_1 HW.out
        case measure => simp [intOf]; omega
    · obtain rfl : i = s.size := by omega
      go_wp2_with fail
      go_end0
      have := HP.out
      rw [Lib.size_eq, List.take_length] at this
      rw [this]
      exact ⟨rfl, HW.out, HT.out⟩

theorem fault_any (b l c : Nat) (x2 x3 : Value) (k : Nat) (w : World) (h : w.heap[b]? = some (.cells #[.int .i64 (l : Int), .int .i64 (c : Int), x2, x3] 129 (0, 0))) :
    Calls Tryz.prog 77 #[.pointer (some ⟨b, 0, none⟩), .int .i64 (k : Int)] w fun e w' => e = .returned (.agg #[.int .i64 (k : Int), .int .i64 (l : Int), .int .i64 (c : Int)]) ∧ Turn [] w w' := by
  have hb : b < w.heap.size := (Array.getElem?_eq_some_iff.1 h).1
  have c0 : w.cell? ⟨b, 0, none⟩ = some (.int .i64 (l : Int)) := cell_of_row w b 0 _ 129 (0, 0) h
  have c1 : w.cell? ⟨b, 1, none⟩ = some (.int .i64 (c : Int)) := cell_of_row w b 1 _ 129 (0, 0) h
  clear h
  go_enter Tryz.func77, Tryz.ntmps77
  go_wp2_with fail
  obtain ⟨W, hW⟩ : ∃ W, w.alloc (.cells #[.int .i64 0, .int .i64 0, .int .i64 0] 34) = W := ⟨_, rfl⟩
  obtain ⟨r, hr⟩ : ∃ r, w.heap.size = r := ⟨_, rfl⟩
  rw [hW, hr]
  have hZ : W.heap[r]? = some (.cells #[.int .i64 0, .int .i64 0, .int .i64 0] 34 (0, 0)) := by rw [← hW, ← hr]; exact heap_alloc_new w _
  have hT : Turn [] w W := by rw [← hW]; exact (Turn.refl [] w).alloc _
  have k0 : W.cell? ⟨b, 0, none⟩ = some (.int .i64 (l : Int)) := (hT.cell (p := ⟨b, 0, none⟩) hb (by simp)).trans c0
  have k1 : W.cell? ⟨b, 1, none⟩ = some (.int .i64 (c : Int)) := (hT.cell (p := ⟨b, 1, none⟩) hb (by simp)).trans c1
  have z0 : W.cell? ⟨r, 0, none⟩ = some (.int .i64 0) := cell_of_row W r 0 _ 34 (0, 0) hZ
  have z1 : W.cell? ⟨r, 1, none⟩ = some (.int .i64 0) := cell_of_row W r 1 _ 34 (0, 0) hZ
  have z2 : W.cell? ⟨r, 2, none⟩ = some (.int .i64 0) := cell_of_row W r 2 _ 34 (0, 0) hZ
  have f0 : W.frozen? ⟨r, 0, none⟩ = false := frozen_of_row W r 0 _ 34 hZ
  have f1 : W.frozen? ⟨r, 1, none⟩ = false := frozen_of_row W r 1 _ 34 hZ
  have f2 : W.frozen? ⟨r, 2, none⟩ = false := frozen_of_row W r 2 _ 34 hZ
  have HT := Lib.hid hT
  have HR := Lib.hid hr
  clear hW hr hT c0 c1 hZ
  go_still_tail 12, (by kernel_rfl)
  change wpList _ _ _ _ _ W.drew
  go_wp2_with fail
  refine bodyPost_ret (v := .agg #[.int .i64 (k : Int), .int .i64 (l : Int), .int .i64 (c : Int)]) (by simp [results, Tryz.results77, go_sem, z0, z1, z2]) rfl ⟨rfl, ?_⟩
  have := HR.out
  refine ((((HT.out).drew).setCell (.inr ?_) _).setCell (.inr ?_) _).setCell (.inr ?_) _ <;> (simp; omega)

theorem start_any (s : ByteArray) (w : World) :
    Calls Tryz.prog 76 #[.string s] w fun e w' => e = .returned (.agg #[.int .i64 1, .int .i64 1, .string s]) ∧ Turn [] w w' := by
  go_enter Tryz.func76, Tryz.ntmps76
  go_wp2_with fail
  refine bodyPost_ret (v := .agg #[.int .i64 1, .int .i64 1, .string s]) (by simp [results, Tryz.results76, go_sem]) rfl ⟨rfl, (Turn.refl _ _).alloc _⟩

set_option maxHeartbeats 1600000 in
theorem take_any (b l c : Nat) (x3 : Value) (s : ByteArray) (n : Nat) (w : World) (h : w.heap[b]? = some (.cells #[.int .i64 (l : Int), .int .i64 (c : Int), .string s, x3] 129 (0, 0))) (hs : s.size ≤ 1000000) (hl : l ≤ 1000000) (hc : c ≤ 1000000) (hn : n ≤ s.size) :
    Calls Tryz.prog 133 #[.pointer (some ⟨b, 0, none⟩), .int .i64 (n : Int)] w fun e w' => e = .returned (.string (s.extract 0 n)) ∧
      w'.heap[b]? = some (.cells #[.int .i64 ((pss (l, c) (s.data.toList.take n)).1 : Int), .int .i64 ((pss (l, c) (s.data.toList.take n)).2 : Int), .string (s.extract n s.size), x3] 129 (0, 0)) ∧ Turn [b] w w' := by
  have HB := Lib.hid h
  have hb : b < w.heap.size := (Array.getElem?_eq_some_iff.1 h).1
  have c2 : w.cell? ⟨b, 2, none⟩ = some (.string s) := cell_of_row w b 2 _ 129 (0, 0) h
  clear h
  have d1 : (n : Int) ≤ (s.size : Int) := by omega
  have hx : (s.extract 0 n).data.toList = s.data.toList.take n := by rw [Lib.extract_data]; simp
  have HX := Lib.hid hx
  clear hx
  have hxs : (s.extract 0 n).size ≤ 1000000 := by
    rw [Lib.size_eq, HX.out, List.length_take]
    omega
  go_enter Tryz.func133, Tryz.ntmps133
  go_wp2_with fail
  refine (pass_any b l c (.string s) x3 (s.extract 0 n) w HB.out hxs hl hc).mono ?_
  rintro e w1 ⟨rfl, hw1, t1⟩
  rw [HX.out] at hw1
  have HW1 := Lib.hid hw1
  have c2' : w1.cell? ⟨b, 2, none⟩ = some (.string s) := cell_of_row w1 b 2 _ 129 (0, 0) hw1
  have f2' : w1.frozen? ⟨b, 2, none⟩ = false := frozen_of_row w1 b 2 _ 129 hw1
  clear hw1 c2
  have HT1 := Lib.hid t1
  clear t1
  go_wp2_with fail
  go_ret
  exact ⟨rfl, cells4_2 HW1.out, (HT1.out).setCell (.inl (by simp)) _⟩
end Go.Proofs.YtnmhcgkccchacaaGreatDoor

/- Tokens in memory: a slice of them that the program itself made; strings.Clone. -/
set_option linter.unusedSimpArgs false
set_option linter.unusedVariables false
namespace Go.Proofs.YtnmhcgkccchacaaGreatDoor
open Go.RowKit

structure Tok where
  kind : Nat
  text : List UInt8
  line : Nat
  col : Nat
deriving DecidableEq, Repr
def Tok.cs (t : Tok) : List Value := [.int .i64 (t.kind : Int), .string ⟨t.text.toArray⟩, .int .i64 (t.line : Int), .int .i64 (t.col : Int)]
theorem Tok.cs_length (t : Tok) : t.cs.length = 4 := rfl

/-- The slice v is of the program's own making and holds the tokens L. -/
def OwnT (w : World) (v : Value) (L : List Tok) : Prop := w.ownsRow 0 55 4 v L.length (L.flatMap Tok.cs)
theorem OwnT.nil (w : World) : OwnT w (.slice none 0 0) [] := World.ownsRow_nil w 0 55 4

theorem flat4 : ∀ (L : List Tok) (i : Nat) (t : Tok), L[i]? = some t → ∀ (k : Nat) (y : Value), t.cs[k]? = some y → (L.flatMap Tok.cs)[i * 4 + k]? = some y
  | [], i, t, h => by simp at h
  | u :: L, 0, t, h => by
    intro k y hy
    simp at h
    subst h
    have hk : k < 4 := (List.getElem?_eq_some_iff.1 hy).1
    rw [List.flatMap_cons, Nat.zero_mul, Nat.zero_add, List.getElem?_append_left hk]
    exact hy
  | u :: L, i + 1, t, h => by
    intro k y hy
    rw [List.flatMap_cons, List.getElem?_append_right (by rw [Tok.cs_length]; omega), Tok.cs_length, show (i + 1) * 4 + k - 4 = i * 4 + k by omega]
    exact flat4 L i t (by simpa using h) k y hy

theorem OwnT.form {w : World} {v : Value} {L : List Tok} (h : OwnT w v L) : ∃ A c, v = .slice A L.length c ∧ L.length ≤ c ∧
    ∀ (i : Nat) (t : Tok), L[i]? = some t → ∃ g, A = some ⟨g, 0, none⟩ ∧ g < w.heap.size ∧ ∀ (k : Nat) (y : Value), t.cs[k]? = some y → w.cell? ⟨g, i * 4 + k, none⟩ = some y := by
  rcases h.2 with ⟨rfl, hn⟩ | ⟨g, cap, cur, rfl, hb, hg, hnc, _, _, ht⟩
  · refine ⟨none, 0, by rw [hn], by omega, fun i t hi => ?_⟩
    rw [List.eq_nil_of_length_eq_zero hn] at hi
    simp at hi
  · refine ⟨_, cap, rfl, hnc, fun i t hi => ⟨g, rfl, (Array.getElem?_eq_some_iff.1 hg).1, fun k y hy => ?_⟩⟩
    have hk : k < 4 := (List.getElem?_eq_some_iff.1 hy).1
    have hil : i < L.length := (List.getElem?_eq_some_iff.1 hi).1
    rw [World.ownsRow.cellAt (cap := cap) h (i * 4 + k) (by omega)]
    exact flat4 L i t hi k y hy
theorem ownsRow_blk {w : World} {B e size n : Nat} {v : Value} {xs : List Value} (h : w.ownsRow B e size v n xs) {g : Nat} (hg : v.ownBlock = some g) : ∃ cs, w.heap[g]? = some (.cells cs e (0, 0)) := by
  rcases h.2 with ⟨rfl, _⟩ | ⟨g', cap, cur, rfl, _, hb, _⟩
  · cases hg
  · injection hg with hg
    subst hg
    exact ⟨_, hb⟩

theorem tok_info : (Tryz.prog.info? 55).map (fun i => (i.zero, i.size, i.bytes)) = some (some (.agg #[.int .i64 0, .string ⟨#[]⟩, .int .i64 0, .int .i64 0]), 4, 40) := by kernel_rfl

/-- append of one token, laid in a block of its own, onto a slice of the program's own. -/
theorem step_appT {ops : Array Oper} {o : Oper} {a : Act} {K : Act → World → Prop} {Q : Exit → Act → World → Prop} {E : Prop} (hgd : o.guard = none) (s x : Operand)
    (ho : o.op = .call { callee := .builtin .append, args := #[s, x], argTypes := #[50, 50] }) (W : World) (v : Value) (L : List Tok) (t : Tok) (vb c : Nat)
    (hs : a.eval s = v) (hx : a.eval x = .slice (some ⟨vb, 0, none⟩) 1 c) (hown : OwnT W v L) (hb : W.heap[vb]? = some (.cells t.cs.toArray 55 (0, 0))) (hl : L.length ≤ 1000000)
    (h : ∀ v' w', OwnT w' v' (L ++ [t]) → Turn v.ownBlock.toList W w' → (v'.ownBlock = v.ownBlock ∨ ∃ g, v'.ownBlock = some g ∧ W.heap.size ≤ g) → K (a.put o.dst v') w') :
    if Region.wanted o (yielded ops a.tmps) = true then Oper.wp Tryz.prog o a W K Q else E := by
  have hw : Region.wanted o (yielded ops a.tmps) = true := by simp [Region.wanted, hgd]
  rw [if_pos hw]
  obtain ⟨i0, hi0, hz0, hz1, hz2⟩ := info_parts tok_info
  obtain ⟨v', w', hr, h2, h3, _, h5⟩ := run_append_own_at (P := Tryz.prog) W 0 50 o.type 55 i0 _ 4 40 Tryz.underlying50 hi0 hz0 hz1 hz2 rfl (by omega) v L.length _ hown ⟨vb, 0, none⟩ 1 c t.cs (by simp [Tok.cs_length]) (fun j u hj => by
      rw [Addr.add_lit, cell_of_row _ vb _ _ _ _ hb, Nat.zero_add]
      simpa using hj) (fun u hu => by
      simp [Tok.cs] at hu
      rcases hu with rfl | rfl | rfl | rfl <;> rfl) (by simp only [maxLen]; omega) (by omega) (Nat.zero_le _)
  unfold Oper.wp execOp
  simp only [ho, resolve, invoke, builtin, Sem.run_bind, Sem.run_pure, Result.andThen_ok, List.map_toArray, List.map_cons, List.map_nil, hs, hx, hr]
  refine h v' w' ?_ ((Turn.refl _ _).grown h3 (fun k hk => .inl (by simp [hk]))) ?_
  · unfold OwnT
    rw [List.length_append, List.flatMap_append]
    simpa using h2
  · rcases h5 with h5 | h5
    · exact .inl h5
    · exact .inr ⟨_, h5, Nat.le_refl _⟩
theorem wpList_appT {ops : Array Oper} {rest : List Oper} {o : Oper} {a : Act} {Q : Exit → Act → World → Prop} (hgd : o.guard = none) (s x : Operand)
    (ho : o.op = .call { callee := .builtin .append, args := #[s, x], argTypes := #[50, 50] })
    (W : World) (v : Value) (L : List Tok) (t : Tok) (C : Array Value) (c : Nat) (hs : a.eval s = v) (hown : OwnT W v L) (hC : C = t.cs.toArray) (hx : a.eval x = .slice (some ⟨W.heap.size, 0, none⟩) 1 c)
    (hl : L.length ≤ 1000000)
    (h : ∀ v' w', OwnT w' v' (L ++ [t]) → Turn v.ownBlock.toList W w' → (v'.ownBlock = v.ownBlock ∨ ∃ g, v'.ownBlock = some g ∧ W.heap.size ≤ g) → wpList Tryz.prog ops Q rest (a.put o.dst v') w') :
    wpList Tryz.prog ops Q (o :: rest) a (W.alloc (.cells C 55)) := by
  subst hC
  obtain ⟨i0, hi0, hz0, hz1, hz2⟩ := info_parts tok_info
  refine wpList_append_own_at (W.alloc (.cells t.cs.toArray 55)) hgd s x 50 ho 0 55 i0 _ 4 40 Tryz.underlying50 hi0 hz0 hz1 hz2 rfl (by omega) v L.length _ hs
    (Turn.owns ((Turn.refl [] W).alloc _) hown (by simp)) ⟨W.heap.size, 0, none⟩ 1 c t.cs hx (by simp [Tok.cs_length]) ?_ ?_ (by simp only [maxLen]; omega) (by omega) (Nat.zero_le _) ?_
  · intro j u hj
    rw [Addr.add_lit, cell_of_row _ W.heap.size _ _ _ _ (heap_alloc_new W _), Nat.zero_add]
    simpa using hj
  · intro u hu
    simp [Tok.cs] at hu
    rcases hu with rfl | rfl | rfl | rfl <;> rfl
  · intro v' w' h1 h2 _ h4
    refine h v' w' ?_ (((Turn.refl _ W).alloc _).grown h2 (fun k hk => .inl (by simp [hk]))) ?_
    · unfold OwnT
      rw [List.length_append, List.flatMap_append]
      simpa using h1
    · rcases h4 with h4 | h4
      · exact .inl h4
      · exact .inr ⟨_, h4, by simp⟩

theorem byte_info : (Tryz.prog.info? 5).map (fun i => (i.zero, i.size, i.bytes)) = some (some (.int .u8 0), 1, 1) := by kernel_rfl

set_option maxHeartbeats 4000000 in
set_option maxRecDepth 100000 in
theorem sliteClone_any (s : ByteArray) (w : World) (hlim : s.size ≤ 281474976710656) :
    Calls Tryz.prog 151 #[.string s] w fun e w' => e = .returned (.string s) ∧ Turn [] w w' := by
  by_cases h0 : s.size = 0
  · have hs : s = ⟨#[]⟩ := by
      apply ByteArray.ext
      exact Array.eq_empty_of_size_eq_zero h0
    subst hs
    go_enter Tryz.func151, Tryz.ntmps151
    go_wp2_with fail
    go_ret
    exact ⟨rfl, Turn.refl _ _⟩
  · obtain ⟨i0, hi, hz0, hz1, hz2⟩ := info_parts byte_info
    have hinfo : (Tryz.prog.info? 5).map (·.size) = some 1 := by rw [hi]; simp [hz1]
    have hco : Tryz.prog.cellsOf 5 = 1 := by simp [Program.cellsOf, hi, hz1]
    obtain ⟨M, hM⟩ : ∃ M, M = madeCells (Value.int .u8 0).cells (((s.size : Nat) : Int).toNat * i0.size) := ⟨_, rfl⟩
    have hMs : M.size = s.size := by rw [hM, size_madeCells, hz1]; simp
    have hmk : ∀ W : World, (Instr.makeSlice 167 (.int .i64 (s.size : Int)) (.int .i64 (s.size : Int))).run Tryz.prog W = .ok (.slice (some ⟨W.heap.size, 0, none⟩) s.size s.size) (W.alloc (.cells M 5)) := fun W => by
      have h := run_make (P := Tryz.prog) W 167 5 i0 (.int .u8 0) Tryz.underlying167 hi hz0 .i64 .i64 (s.size : Int) (s.size : Int) (by omega) (by omega) (by rw [hz2]; omega) (by omega)
      rw [← hM] at h
      simpa using h
    clear hM
    have hcp := Lib.run_copy_row_string (P := Tryz.prog) (w.alloc (.cells M 5)) 167 9 3 5 w.heap.size 0 s.size s.size s M 5 Tryz.underlying167 hinfo (heap_alloc_new w _) (Nat.le_refl _) (by omega)
    obtain ⟨Y, hY⟩ : ∃ Y, Y = (M.toList.take 0 ++ Lib.byteCells s.data.toList ++ M.toList.drop (0 + s.size)).toArray := ⟨_, rfl⟩
    rw [← hY] at hcp
    have hYl : Y.toList = Lib.byteCells s.data.toList := by
      rw [hY, List.toList_toArray, List.take_zero, List.nil_append, List.drop_of_length_le (by rw [Array.length_toList]; omega), List.append_nil]
    have hYs : Y.size = s.size := by rw [← Array.length_toList, hYl, Lib.byteCells_length, ← Lib.size_eq]
    have hgY : ((w.alloc (.cells M 5)).setRow w.heap.size Y).heap[w.heap.size]? = some (.cells Y 5 (0, 0)) := setRow_heap _ _ M _ 5 (0, 0) (heap_alloc_new w _)
    have hne : s.data.toList ≠ [] := fun e => h0 (by rw [Lib.size_eq, e]; rfl)
    have hUS := Lib.run_unsafeString_row (P := Tryz.prog) ((w.alloc (.cells M 5)).setRow w.heap.size Y) 191 3 9 5 Tryz.underlying191 hco w.heap.size Y.size (by unfold World.shape?; rw [hgY]) s.data.toList hne (by rw [← Lib.size_eq]; omega) (by rw [← Lib.size_eq]; omega)
      (fun j x hx => Lib.cells_of_row hgY Y.size j _ (by rw [List.take_of_length_le (by rw [Array.length_toList]; exact Nat.le_refl _), hYl]; simp [Lib.byteCells, hx]))
    rw [← Lib.size_eq] at hUS
    clear hY
    go_enter Tryz.func151, Tryz.ntmps151
    go_wp2_with fail
    go_ret
    have hb1 : Below w.heap.size w (w.alloc (.cells M 5)) := (Below.refl _ w).alloc (Nat.le_refl _) _
    have hb2 : Below w.heap.size (w.alloc (.cells M 5)) ((w.alloc (.cells M 5)).setRow w.heap.size Y) := ⟨rfl, rfl, rfl, by simp, fun k hk => setRow_other _ _ _ _ (by omega)⟩
    exact ⟨rfl, Turn.below (Lib.below_freeze (hb1.trans hb2) (p := ⟨w.heap.size, 0, none⟩) (Nat.le_refl _) _)⟩

theorem sClone_any (s : ByteArray) (w : World) (hlim : s.size ≤ 281474976710656) :
    Calls Tryz.prog 134 #[.string s] w fun e w' => e = .returned (.string s) ∧ Turn [] w w' := by
  go_enter Tryz.func134, Tryz.ntmps134
  go_wp2_with fail
  refine (sliteClone_any s w hlim).mono ?_
  rintro e w1 ⟨rfl, ht⟩
  have HT := Lib.hid ht
  clear ht
  go_wp2_with fail
  go_ret
  exact ⟨rfl, HT.out⟩
end Go.Proofs.YtnmhcgkccchacaaGreatDoor

/- A text's tokens, as a plain function of its octets. -/
set_option linter.unusedSimpArgs false
set_option linter.unusedVariables false
set_option maxRecDepth 100000
namespace Go.Proofs.YtnmhcgkccchacaaGreatDoor
open Go.RowKit

/-- What stands at a text's start, behind all gaps: an error, or a token's size and kind. -/
def fst3 (t : List UInt8) : Nat × Nat × Nat :=
  if 32 < wdN t then (13, 0, 0) else if 0 < wdN t then (0, wdN t, 0)
  else if 3 < nmN t then (13, 0, 0) else if 0 < nmN t then (0, nmN t, 1)
  else if 0 < sgN t then (0, sgN t, 2) else (10, 0, 0)

inductive LR where
  | bad (e l c : Nat)
  | good (ts : List Tok) (p : Nat × Nat)
deriving DecidableEq, Repr
def preT (us : List Tok) : LR → LR
  | .bad e l c => .bad e l c
  | .good ts p => .good (us ++ ts) p
theorem preT_nil (r : LR) : preT [] r = r := by cases r <;> rfl
theorem preT_preT (a b : List Tok) (r : LR) : preT a (preT b r) = preT (a ++ b) r := by cases r <;> simp [preT]

def lx : Nat → List UInt8 → Nat × Nat → LR
  | 0, _, p => .good [] p
  | n + 1, t, p =>
    if t = [] then .good [] p
    else if 0 < gpN t then lx n (t.drop (gpN t)) (pss p (t.take (gpN t)))
    else if (fst3 t).1 ≠ 0 then .bad (fst3 t).1 p.1 p.2
    else preT [⟨(fst3 t).2.2, t.take (fst3 t).2.1, p.1, p.2⟩] (lx n (t.drop (fst3 t).2.1) (pss p (t.take (fst3 t).2.1)))
def lxs (t : List UInt8) (p : Nat × Nat) : LR := lx t.length t p

theorem runN_le (p q : UInt8 → Bool) : ∀ t : List UInt8, runN p q t ≤ t.length
  | [] => Nat.le_refl _
  | c :: r => by
    have := (List.takeWhile_prefix q (l := r)).length_le
    rw [List.length_cons]
    simp only [runN]
    split <;> omega
theorem gpN_le (t : List UInt8) : gpN t ≤ t.length := by
  have h1 := runN_le isB isB t
  have h2 := runN_le isH noF t
  unfold gpN
  omega
theorem sgF_len (t : List UInt8) : ∀ (l : List (List UInt8)) (n : Nat), n ≤ t.length → l.foldl (sgF t) n ≤ t.length
  | [], n, h => h
  | x :: l, n, h => by
    rw [List.foldl_cons]
    refine sgF_len t l _ ?_
    unfold sgF
    split
    · rename_i hp
      have := (List.isPrefixOf_iff_prefix.1 hp).length_le
      omega
    · exact h
theorem sgN_len (t : List UInt8) : sgN t ≤ t.length := sgF_len t signsL 0 (Nat.zero_le _)
theorem sgN_two (t : List UInt8) : sgN t ≤ 2 := sgF_le t signsL 0 (by decide) (by omega)
theorem fst3_size (t : List UInt8) (h : (fst3 t).1 = 0) : 0 < (fst3 t).2.1 ∧ (fst3 t).2.1 ≤ t.length := by
  have h1 := runN_le isL isW t
  have h2 := runN_le isD isD t
  have h3 := sgN_len t
  by_cases a : 32 < wdN t
  · simp [fst3, a] at h
  by_cases b : 0 < wdN t
  · simp only [fst3, if_neg a, if_pos b]
    exact ⟨b, h1⟩
  by_cases c : 3 < nmN t
  · simp [fst3, a, b, c] at h
  by_cases d : 0 < nmN t
  · simp only [fst3, if_neg a, if_neg b, if_neg c, if_pos d]
    exact ⟨d, h2⟩
  by_cases e : 0 < sgN t
  · simp only [fst3, if_neg a, if_neg b, if_neg c, if_neg d, if_pos e]
    exact ⟨e, h3⟩
  · simp [fst3, a, b, c, d, e] at h
theorem fst3_kind (t : List UInt8) : (fst3 t).2.2 ≤ 2 := by
  unfold fst3
  repeat' split
  all_goals simp
theorem fst3_err (t : List UInt8) : (fst3 t).1 ≤ 13 := by
  unfold fst3
  repeat' split
  all_goals simp

theorem lx_fuel : ∀ (n m : Nat) (t : List UInt8) (p : Nat × Nat), t.length ≤ n → t.length ≤ m → lx n t p = lx m t p
  | 0, 0, t, p, _, _ => rfl
  | 0, m + 1, t, p, h, _ => by
    have : t = [] := List.eq_nil_of_length_eq_zero (by omega)
    subst this
    simp [lx]
  | n + 1, 0, t, p, _, h => by
    have : t = [] := List.eq_nil_of_length_eq_zero (by omega)
    subst this
    simp [lx]
  | n + 1, m + 1, t, p, h1, h2 => by
    unfold lx
    split
    · rfl
    split
    · exact lx_fuel n m _ _ (by rw [List.length_drop]; omega) (by rw [List.length_drop]; omega)
    split
    · rfl
    · rename_i h3 h4 h5
      have := fst3_size t (by omega)
      rw [lx_fuel n m _ _ (by rw [List.length_drop]; omega) (by rw [List.length_drop]; omega)]

theorem lxs_nil (p : Nat × Nat) : lxs [] p = .good [] p := rfl
theorem lxs_succ (t : List UInt8) (p : Nat × Nat) : lxs t p = lx (t.length + 1) t p := lx_fuel _ _ _ _ (Nat.le_refl _) (by omega)
theorem lxs_gap {t : List UInt8} (p : Nat × Nat) (h : 0 < gpN t) : lxs t p = lxs (t.drop (gpN t)) (pss p (t.take (gpN t))) := by
  have hne : t ≠ [] := fun e => by rw [e] at h; exact absurd h (by decide)
  rw [lxs_succ]
  unfold lx
  rw [if_neg hne, if_pos h]
  exact lx_fuel _ _ _ _ (by rw [List.length_drop]; omega) (Nat.le_refl _)
theorem lxs_bad {t : List UInt8} (p : Nat × Nat) (hne : t ≠ []) (h : gpN t = 0) (he : (fst3 t).1 ≠ 0) : lxs t p = .bad (fst3 t).1 p.1 p.2 := by
  rw [lxs_succ]
  unfold lx
  rw [if_neg hne, if_neg (by omega), if_pos he]
theorem lxs_tok {t : List UInt8} (p : Nat × Nat) (hne : t ≠ []) (h : gpN t = 0) (he : (fst3 t).1 = 0) :
    lxs t p = preT [⟨(fst3 t).2.2, t.take (fst3 t).2.1, p.1, p.2⟩] (lxs (t.drop (fst3 t).2.1) (pss p (t.take (fst3 t).2.1))) := by
  rw [lxs_succ]
  unfold lx
  rw [if_neg hne, if_neg (by omega), if_neg (by omega)]
  have := fst3_size t he
  exact congrArg _ (lx_fuel _ _ _ _ (by rw [List.length_drop]; omega) (Nat.le_refl _))

/-- The document's example. -/
theorem lxs_awake : lxs [120, 32, 61, 32, 121, 46, 102, 59] (1, 1) =
    .good [⟨0, [120], 1, 1⟩, ⟨2, [61], 1, 3⟩, ⟨0, [121], 1, 5⟩, ⟨2, [46], 1, 6⟩, ⟨0, [102], 1, 7⟩, ⟨2, [59], 1, 8⟩] (1, 9) := by
  decide +kernel
end Go.Proofs.YtnmhcgkccchacaaGreatDoor

/- The reference's Kind. -/
set_option linter.unusedSimpArgs false
set_option linter.unusedVariables false
set_option maxRecDepth 100000
namespace Go.Proofs.YtnmhcgkccchacaaGreatDoor
open Go.RowKit

def sgL : List Nat := [123, 125, 40, 41, 91, 93, 59, 44, 61, 46, 60, 43, 45]
def kN (n : Nat) : Nat :=
  if (65 ≤ n ∧ n ≤ 90) ∨ (97 ≤ n ∧ n ≤ 122) ∨ n = 95 then 0 else if 48 ≤ n ∧ n ≤ 57 then 1 else if n ∈ sgL then 2
  else if n ∈ [32, 9, 13, 10] then 3 else if n = 35 then 4 else if n = 58 then 5 else 6

set_option maxHeartbeats 3200000 in
theorem kind_any (n : Nat) (hn : n < 256) (w : World) : Calls Tryz.prog 43 #[.int .u8 (n : Int)] w fun e w' => e = .returned (.int .i64 (kN n : Int)) ∧ w' = w := by
  go_enter Tryz.func43, Tryz.ntmps43
  go_wp2_with fail
  all_goals
    go_ret
    refine ⟨ret_int ?_, rfl⟩
    try simp only [beq_iff_eq, beq_eq_false_iff_ne, ne_eq] at *
    unfold kN sgL
    simp only [List.mem_cons, List.not_mem_nil, or_false]
    (repeat' split) <;> omega
end Go.Proofs.YtnmhcgkccchacaaGreatDoor

/- Which words are keywords: the program's Keyword, the reference's. -/
set_option linter.unusedSimpArgs false
set_option linter.unusedVariables false
namespace Go.Proofs.YtnmhcgkccchacaaGreatDoor
open Go.RowKit

def kwL : List (List UInt8) := [[99, 108, 97, 115, 115], [101, 120, 116, 101, 110, 100, 115], [105, 109, 112, 108, 101, 109, 101, 110, 116, 115], [105, 110, 116, 101, 114, 102, 97, 99, 101], [102, 105, 101, 108, 100], [115, 116, 97, 116, 105, 99], [109, 101, 116, 104, 111, 100], [105, 110, 105, 116], [109, 97, 105, 110], [118, 97, 114], [110, 101, 119], [110, 117, 108, 108], [105, 110, 112, 117, 116], [116, 104, 114, 111, 119], [116, 114, 121], [99, 97, 116, 99, 104], [105, 102], [101, 108, 115, 101], [119, 104, 105, 108, 101], [114, 101, 116, 117, 114, 110], [105, 110, 116], [118, 111, 105, 100]]
/-- The table of keywords lies where the program's text lays it. -/
def Kw (w : World) : Prop := 1 < w.heap.size ∧ ∀ i x, kwL[i]? = some x → w.cell? ⟨1, i, none⟩ = some (.string ⟨x.toArray⟩)
theorem Kw.turn {F : List Nat} {w w' : World} (h : Kw w) (t : Turn F w w') (hn : 1 ∉ F) : Kw w' :=
  ⟨Nat.lt_of_lt_of_le h.1 t.size, fun i x hx => (t.cell (p := ⟨1, i, none⟩) h.1 hn).trans (h.2 i x hx)⟩
def kwC : List Value := kwL.map (fun x => .string ⟨x.toArray⟩)
set_option maxRecDepth 100000 in
theorem kw_index (i : Nat) (x : List UInt8) (h : kwL[i]? = some x) (W : World) : (Instr.index 184 (.agg kwC.toArray) (.int .i64 (i : Int))).run Tryz.prog W = .ok (.string ⟨x.toArray⟩) W := by
  iterate 22 (rcases i with _ | i; · (injection h with h; subst h; kernel_rfl))
  simp [kwL] at h
theorem kw_range {w : World} (h : Kw w) : w.rangeAt 1 0 kwC := fun j v hv => by
  unfold kwC at hv
  rw [List.getElem?_map] at hv
  cases hx : kwL[j]? with
  | none => rw [hx] at hv; cases hv
  | some x =>
    rw [hx] at hv
    injection hv with hv
    subst hv
    rw [Nat.zero_add]
    exact h.2 j x hx

theorem mem_next {l : List (List UInt8)} {i : Nat} {x t : List UInt8} (h : l[i]? = some x) (h0 : t ∉ l.take i) (hn : t ≠ x) : t ∉ l.take (i + 1) := by
  rw [take_snoc h]
  simp
  exact ⟨h0, hn⟩
theorem data_eq {s : ByteArray} {x : List UInt8} : s = ⟨x.toArray⟩ ↔ s.data.toList = x := by
  constructor
  · rintro rfl
    rfl
  · rintro rfl
    rw [Lib.mk_data]

set_option maxHeartbeats 1600000 in
set_option maxRecDepth 100000 in
theorem keyword_any (s : ByteArray) (w : World) (h : Kw w) :
    Calls Tryz.prog 141 #[.string s] w fun e w' => e = .returned (.bool (kwL.contains s.data.toList)) ∧ w' = w := by
  have HX := Lib.hid kw_index
  have hc := kw_range h
  have hlen : (Tryz.prog.info? 184).map (·.size) = some kwC.length := by kernel_rfl
  obtain ⟨C, hC⟩ : ∃ C, kwC = C := ⟨_, rfl⟩
  rw [hC] at HX hc hlen
  have HCR := Lib.hid hc
  have HCL := Lib.hid hlen
  clear hC h hc hlen
  go_enter Tryz.func141, Tryz.ntmps141
  go_wp2_with (refine wpList_load_mid rfl 184 (.global 1) rfl 1 0 rfl C _ HCR.out Tryz.underlying184 rfl HCL.out ?_)
  go_loopw [6] (fun ti wr => ∃ i : Nat, i ≤ 22 ∧ ti = .int .i64 (i : Int) ∧ Hid (s.data.toList ∉ kwL.take i) ∧ w = wr) (fun ti _ => 22 - (intOf ti).toNat)
  case atStart => exact ⟨0, by omega, rfl, Lib.hid (by simp), rfl⟩
  case round =>
    obtain ⟨i, hi, rfl, HF, rfl⟩ := hrel
    by_cases hlt : i < 22
    · obtain ⟨x, hx⟩ := at_lt (show i < kwL.length from hlt)
      have hix := HX.out i x hx
      have HP := Lib.hid hx
      clear hx
      have hd : decide ((i : Int) < 22) = true := by simp; omega
      have hd2 : (i : Int) < 22 := by omega
      obtain ⟨X, hX⟩ : ∃ X : ByteArray, X = ⟨x.toArray⟩ := ⟨_, rfl⟩
      rw [← hX] at hix
      by_cases he : s = X
      · have e1 := bytes_t he
        have HE := Lib.hid (he.trans hX)
        clear he hX
        go_wp2_with fail
        go_ret
        refine ⟨ret_bool ?_, rfl⟩
        have := data_eq.1 HE.out
        rw [this]
        simp only [List.contains_eq_mem]
        exact (decide_eq_true (List.mem_of_getElem? HP.out)).symm
      · have e1 := bytes_f he
        have HE := Lib.hid (show s.data.toList ≠ x from fun e => he ((data_eq.2 e).trans hX.symm))
        clear he hX
        go_wp2_with fail
        go_roundw
        case rel => exact ⟨i + 1, by omega, by go_num, Lib.hid (mem_next HP.out HF.out HE.out), by first | rfl | trivial⟩
        case measure => simp [intOf]; omega
    · obtain rfl : i = 22 := by omega
      go_wp2_with fail
      go_ret
      refine ⟨ret_bool ?_, rfl⟩
      have := HF.out
      rw [List.take_of_length_le (by decide)] at this
      simp only [List.contains_eq_mem]
      exact (decide_eq_false this).symm

theorem words_any (w : World) : Calls Tryz.prog 75 #[] w fun e w' => ∃ g, e = .returned (.slice (some ⟨g, 0, none⟩) 22 22) ∧ (∀ i x, kwL[i]? = some x → w'.cell? ⟨g, i, none⟩ = some (.string ⟨x.toArray⟩)) ∧ Turn [] w w' ∧ g < w'.heap.size := by
  go_enter Tryz.func75, Tryz.ntmps75
  go_wp2_with fail
  go_ret
  refine ⟨_, rfl, ?_, (Turn.refl _ _).alloc _, by simp⟩
  intro i x hx
  rw [cell_of_row _ w.heap.size i _ 9 (0, 0) (heap_alloc_new w _)]
  iterate 22 (rcases i with _ | i; · (injection hx with hx; subst hx; rfl))
  simp [kwL] at hx

set_option maxHeartbeats 1600000 in
theorem refKeyword_any (s : ByteArray) (w : World) :
    Calls Tryz.prog 44 #[.string s] w fun e w' => e = .returned (.bool (kwL.contains s.data.toList)) ∧ Turn [] w w' := by
  go_enter Tryz.func44, Tryz.ntmps44
  go_wp2_with fail
  refine (words_any w).mono ?_
  rintro e w1 ⟨g, rfl, hc, t1, hg⟩
  have HT1 := Lib.hid t1
  have HC := Lib.hid hc
  clear t1 hc
  go_wp2_with fail
  go_loopw [4] (fun ti wr => ∃ i : Nat, i ≤ 22 ∧ ti = .int .i64 (i : Int) ∧ Hid (s.data.toList ∉ kwL.take i) ∧ w1 = wr) (fun ti _ => 22 - (intOf ti).toNat)
  case atStart => exact ⟨0, by omega, rfl, Lib.hid (by simp), rfl⟩
  case round =>
    obtain ⟨i, hi, rfl, HF, rfl⟩ := hrel
    by_cases hlt : i < 22
    · obtain ⟨x, hx⟩ := at_lt (show i < kwL.length from hlt)
      have hix := HC.out i x hx
      have HP := Lib.hid hx
      clear hx
      have hd : decide ((i : Int) < 22) = true := by simp; omega
      have hd2 : (i : Int) < 22 := by omega
      obtain ⟨X, hX⟩ : ∃ X : ByteArray, X = ⟨x.toArray⟩ := ⟨_, rfl⟩
      rw [← hX] at hix
      by_cases he : X = s
      · have e1 := bytes_t he
        have HE := Lib.hid (he.symm.trans hX)
        clear he hX
        go_wp2_with fail
        go_ret
        refine ⟨ret_bool ?_, HT1.out⟩
        have := data_eq.1 HE.out
        rw [this]
        simp only [List.contains_eq_mem]
        exact (decide_eq_true (List.mem_of_getElem? HP.out)).symm
      · have e1 := bytes_f he
        have HE := Lib.hid (show s.data.toList ≠ x from fun e => he (((data_eq.2 e).trans hX.symm).symm))
        clear he hX
        go_wp2_with fail
        go_roundw
        case rel => exact ⟨i + 1, by omega, by go_num, Lib.hid (mem_next HP.out HF.out HE.out), by first | rfl | trivial⟩
        case measure => simp [intOf]; omega
    · obtain rfl : i = 22 := by omega
      go_wp2_with fail
      go_ret
      refine ⟨ret_bool ?_, HT1.out⟩
      have := HF.out
      rw [List.take_of_length_le (by decide)] at this
      simp only [List.contains_eq_mem]
      exact (decide_eq_false this).symm
end Go.Proofs.YtnmhcgkccchacaaGreatDoor
