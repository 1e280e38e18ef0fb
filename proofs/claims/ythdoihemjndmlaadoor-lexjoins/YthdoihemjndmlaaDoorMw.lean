/- The measures of words, numbers, signs, and of what stands between, as they are made. -/
import Derived.Test.YthdoihemjndmlaaDoorMk
set_option linter.unusedSimpArgs false
set_option linter.unusedVariables false
namespace Go.Proofs.YthdoihemjndmlaaDoor
open Go.RowKit

def LET : List UInt8 := [65, 66, 67, 68, 69, 70, 71, 72, 73, 74, 75, 76, 77, 78, 79, 80, 81, 82, 83, 84, 85, 86, 87, 88, 89, 90, 97, 98, 99, 100, 101, 102, 103, 104, 105, 106, 107, 108, 109, 110, 111, 112, 113, 114, 115, 116, 117, 118, 119, 120, 121, 122, 95]
def WRD : List UInt8 := [65, 66, 67, 68, 69, 70, 71, 72, 73, 74, 75, 76, 77, 78, 79, 80, 81, 82, 83, 84, 85, 86, 87, 88, 89, 90, 97, 98, 99, 100, 101, 102, 103, 104, 105, 106, 107, 108, 109, 110, 111, 112, 113, 114, 115, 116, 117, 118, 119, 120, 121, 122, 95, 48, 49, 50, 51, 52, 53, 54, 55, 56, 57]
def DIG : List UInt8 := [48, 49, 50, 51, 52, 53, 54, 55, 56, 57]
def BLK : List UInt8 := [32, 9, 13, 10]
def isL (c : UInt8) : Bool := LET.contains c
def isW (c : UInt8) : Bool := WRD.contains c
def isD (c : UInt8) : Bool := DIG.contains c
def isB (c : UInt8) : Bool := BLK.contains c
def isH (c : UInt8) : Bool := [35].contains c
def noF (c : UInt8) : Bool := ![10].contains c
def wdN : List UInt8 → Nat := runN isL isW
def nmN : List UInt8 → Nat := runN isD isD
def gpN (t : List UInt8) : Nat := max (runN isB isB t) (runN isH noF t)

theorem Oct.up {w w' : World} {G : List Nat} {v : Value} {p : UInt8 → Bool} (h : Oct w G v p) (t : Turn [] w w') : Oct w' G v p := h.turn t (by simp)
theorem Msr.up {w w' : World} {G : List Nat} {v : Value} {f : List UInt8 → Nat} (h : Msr w G v f) (t : Turn [] w w') : Msr w' G v f := h.turn t (by simp)

set_option maxRecDepth 100000 in
theorem mkWord_any (w : World) : Calls Tryd.prog 22 #[] w fun e w' => ∃ v G, e = .returned v ∧ Msr w' G v wdN ∧ Turn [] w w' ∧ ∀ g ∈ G, w.heap.size ≤ g := by
  go_enter Tryd.func22, Tryd.ntmps22
  go_wp2_with fail
  refine (mkAmong_any ⟨LET.toArray⟩ w).mono ?_
  rintro e w1 ⟨v1, G1, rfl, h1, t1, g1⟩
  have H1 := Lib.hid h1
  clear h1
  go_wp2_with fail
  refine (mkAmong_any ⟨WRD.toArray⟩ w1).mono ?_
  rintro e w2 ⟨v2, G2, rfl, h2, t2, g2⟩
  have H2 := Lib.hid h2
  clear h2
  go_wp2_with fail
  refine (mkRun_any v1 v2 _ _ G1 G2 w2 (H1.out.up t2) H2.out).mono ?_
  rintro e w3 ⟨v3, G3, rfl, h3, t3, g3⟩
  have H3 := Lib.hid h3
  clear h3
  go_wp2_with fail
  go_ret
  refine ⟨v3, G3, rfl, H3.out, (t1.trans' t2).trans' t3, fun g hg => ?_⟩
  have s1 := t1.size
  have s2 := t2.size
  rcases g3 g hg with h | h | h
  · omega
  · exact g1 g h
  · have := g2 g h
    omega

theorem mkNumber_any (w : World) : Calls Tryd.prog 32 #[] w fun e w' => ∃ v G, e = .returned v ∧ Msr w' G v nmN ∧ Turn [] w w' ∧ ∀ g ∈ G, w.heap.size ≤ g := by
  go_enter Tryd.func32, Tryd.ntmps32
  go_wp2_with fail
  refine (mkAmong_any ⟨DIG.toArray⟩ w).mono ?_
  rintro e w1 ⟨v1, G1, rfl, h1, t1, g1⟩
  have H1 := Lib.hid h1
  clear h1
  go_wp2_with fail
  refine (mkAmong_any ⟨DIG.toArray⟩ w1).mono ?_
  rintro e w2 ⟨v2, G2, rfl, h2, t2, g2⟩
  have H2 := Lib.hid h2
  clear h2
  go_wp2_with fail
  refine (mkRun_any v1 v2 _ _ G1 G2 w2 (H1.out.up t2) H2.out).mono ?_
  rintro e w3 ⟨v3, G3, rfl, h3, t3, g3⟩
  have H3 := Lib.hid h3
  clear h3
  go_wp2_with fail
  go_ret
  refine ⟨v3, G3, rfl, H3.out, (t1.trans' t2).trans' t3, fun g hg => ?_⟩
  have s1 := t1.size
  have s2 := t2.size
  rcases g3 g hg with h | h | h
  · omega
  · exact g1 g h
  · have := g2 g h
    omega

theorem mkSign_any (w : World) (h : Sg w) : Calls Tryd.prog 33 #[] w fun e w' => e = .returned (.func (.func 40) #[] #[]) ∧ w' = w := by
  have HS := Lib.hid h
  clear h
  go_enter Tryd.func33, Tryd.ntmps33
  go_wp2_with fail
  go_ret
  exact ⟨rfl, rfl⟩

theorem mkGap_any (w : World) : Calls Tryd.prog 24 #[] w fun e w' => ∃ v G, e = .returned v ∧ Msr w' G v gpN ∧ Turn [] w w' ∧ ∀ g ∈ G, w.heap.size ≤ g := by
  have hmf := mf
  go_enter Tryd.func24, Tryd.ntmps24
  go_wp2_with fail
  refine (mkAmong_any ⟨BLK.toArray⟩ w).mono ?_
  rintro e w1 ⟨v1, G1, rfl, h1, t1, g1⟩
  have H1 := Lib.hid h1
  clear h1
  go_wp2_with fail
  refine (mkAmong_any ⟨BLK.toArray⟩ w1).mono ?_
  rintro e w2 ⟨v2, G2, rfl, h2, t2, g2⟩
  have H2 := Lib.hid h2
  clear h2
  go_wp2_with fail
  refine (mkRun_any v1 v2 _ _ G1 G2 w2 (H1.out.up t2) H2.out).mono ?_
  rintro e w3 ⟨v3, G3, rfl, h3, t3, g3⟩
  have H3 := Lib.hid h3
  clear h3
  go_wp2_with fail
  refine (mkAmong_any ⟨#[35]⟩ w3).mono ?_
  rintro e w4 ⟨v4, G4, rfl, h4, t4, g4⟩
  have H4 := Lib.hid h4
  clear h4
  go_wp2_with fail
  refine (mkAmong_any ⟨#[10]⟩ w4).mono ?_
  rintro e w5 ⟨v5, G5, rfl, h5, t5, g5⟩
  have H5 := Lib.hid h5
  clear h5
  go_wp2_with fail
  refine (mkBut_any v5 _ G5 w5 H5.out).mono ?_
  rintro e w6 ⟨v6, G6, rfl, h6, t6, g6⟩
  have H6 := Lib.hid h6
  clear h6
  go_wp2_with fail
  refine (mkRun_any v4 v6 _ _ G4 G6 w6 ((H4.out.up t5).up t6) H6.out).mono ?_
  rintro e w7 ⟨v7, G7, rfl, h7, t7, g7⟩
  have H7 := Lib.hid h7
  have H3' := Lib.hid ((((H3.out.up t4).up t5).up t6).up t7)
  obtain ⟨k3, c3, e3⟩ : ∃ k c, v3 = .func (.func k) #[] c := ⟨_, _, H3'.out.2.choose_spec.choose_spec.1⟩
  obtain ⟨k7, c7, e7⟩ : ∃ k c, v7 = .func (.func k) #[] c := ⟨_, _, H7.out.2.choose_spec.choose_spec.1⟩
  clear h7
  subst e3 e7
  go_wp2_with fail
  go_ret
  have t8 : Turn [] w7 ((w7.alloc (.cells #[.func (.func k3) #[] c3] 54)).alloc (.cells #[.func (.func k7) #[] c7] 54)) := ((Turn.refl [] w7).alloc _).alloc _
  refine ⟨_, w7.heap.size :: (w7.heap.size + 1) :: (G3 ++ G7), rfl, Msr.gap (f := runN isB isB) (g := runN isH noF) (by simp; omega) (by simp) (by simp) (by simp) (H3'.out.up t8) (H7.out.up t8), ((((((t1.trans' t2).trans' t3).trans' t4).trans' t5).trans' t6).trans' t7).trans' t8, ?_⟩
  have s1 := t1.size
  have s2 := t2.size
  have s3 := t3.size
  have s4 := t4.size
  have s5 := t5.size
  have s6 := t6.size
  have s7 := t7.size
  intro g hg
  simp at hg
  rcases hg with rfl | rfl | hg | hg
  · omega
  · omega
  · rcases g3 g hg with h | h | h
    · omega
    · exact g1 g h
    · have := g2 g h
      omega
  · rcases g7 g hg with h | h | h
    · omega
    · have := g4 g h
      omega
    · rcases g6 g h with h | h
      · omega
      · have := g5 g h
        omega

/-- The kinds of tokens: their shapes lie in block b; all of it reads the blocks G alone. -/
def Knd (w : World) (G : List Nat) (b : Nat) : Prop :=
  b ∈ G ∧ (∀ g ∈ G, g < w.heap.size) ∧ ∃ v1 v2 v3, w.heap[b]? = some (.cells #[.int .i64 0, v1, .int .i64 32, .int .i64 1, v2, .int .i64 3, .int .i64 2, v3, .int .i64 2] 69 (0, 0)) ∧ Msr w G v1 wdN ∧ Msr w G v2 nmN ∧ Msr w G v3 sgN
theorem Msr.more {w : World} {G G' : List Nat} {v : Value} {f : List UInt8 → Nat} (h : Msr w G v f) (hs : ∀ g ∈ G, g ∈ G') (hl : ∀ g ∈ G', g < w.heap.size) : Msr w G' v f := by
  obtain ⟨hG, k, caps, rfl, hen, hk⟩ := h
  exact ⟨hl, k, caps, rfl, hen, fun w2 h2 c => hk w2 (fun g hg => h2 g (hs g hg)) c⟩
theorem Knd.turn {w w' : World} {F G : List Nat} {b : Nat} (h : Knd w G b) (t : Turn F w w') (hn : ∀ g ∈ G, g ∉ F) : Knd w' G b := by
  obtain ⟨hb, hl, v1, v2, v3, hbl, h1, h2, h3⟩ := h
  exact ⟨hb, fun g hg => Nat.lt_of_lt_of_le (hl g hg) t.size, v1, v2, v3, t.heap hbl (hn b hb), h1.turn t hn, h2.turn t hn, h3.turn t hn⟩

theorem mkShapes_any (w : World) (h : Sg w) : Calls Tryd.prog 25 #[] w fun e w' => ∃ b G, e = .returned (.slice (some ⟨b, 0, none⟩) 3 3) ∧ Knd w' G b ∧ Turn [] w w' ∧ ∀ g ∈ G, w.heap.size ≤ g ∨ g = 1 := by
  have HS := Lib.hid h
  clear h
  go_enter Tryd.func25, Tryd.ntmps25
  go_wp2_with fail
  refine (mkWord_any w).mono ?_
  rintro e w1 ⟨v1, G1, rfl, h1, t1, g1⟩
  have H1 := Lib.hid h1
  obtain ⟨k1, c1, e1⟩ : ∃ k c, v1 = .func (.func k) #[] c := ⟨_, _, H1.out.2.choose_spec.choose_spec.1⟩
  clear h1
  subst e1
  go_wp2_with fail
  refine (mkNumber_any w1).mono ?_
  rintro e w2 ⟨v2, G2, rfl, h2, t2, g2⟩
  have H2 := Lib.hid h2
  obtain ⟨k2, c2, e2⟩ : ∃ k c, v2 = .func (.func k) #[] c := ⟨_, _, H2.out.2.choose_spec.choose_spec.1⟩
  clear h2
  subst e2
  go_wp2_with fail
  have hS2 := (HS.out.turn t1 (by simp)).turn t2 (by simp)
  have HS2 := Lib.hid hS2
  clear hS2
  refine (mkSign_any w2 HS2.out).mono ?_
  rintro e w3 ⟨rfl, rfl⟩
  go_wp2_with fail
  go_ret
  have s1 := t1.size
  have s2 := t2.size
  have t4 := (Turn.refl [] w3).alloc (.cells #[.int .i64 0, .func (.func k1) #[] c1, .int .i64 32, .int .i64 1, .func (.func k2) #[] c2, .int .i64 3, .int .i64 2, .func (.func 40) #[] #[], .int .i64 2] 69)
  have hl : ∀ g ∈ w3.heap.size :: 1 :: (G1 ++ G2), g < (w3.alloc (.cells #[.int .i64 0, .func (.func k1) #[] c1, .int .i64 32, .int .i64 1, .func (.func k2) #[] c2, .int .i64 3, .int .i64 2, .func (.func 40) #[] #[], .int .i64 2] 69)).heap.size := by
    intro g hg
    have h1 := HS2.out.1
    simp at hg ⊢
    rcases hg with rfl | rfl | hg | hg
    · omega
    · omega
    · have := H1.out.1 g hg
      omega
    · have := H2.out.1 g hg
      omega
  refine ⟨_, w3.heap.size :: 1 :: (G1 ++ G2), rfl, ⟨by simp, hl, _, _, _, heap_alloc_new _ _, ?_, ?_, ?_⟩, (t1.trans' t2).trans' t4, ?_⟩
  · exact ((H1.out.up t2).up t4).more (fun g hg => by simp [hg]) hl
  · exact (H2.out.up t4).more (fun g hg => by simp [hg]) hl
  · exact ((Msr.sign HS2.out).up t4).more (fun g hg => by simp at hg; simp [hg]) hl
  · intro g hg
    simp at hg
    rcases hg with rfl | rfl | hg | hg
    · exact .inl (by omega)
    · exact .inr rfl
    · exact .inl (g1 g hg)
    · have := g2 g hg
      exact .inl (by omega)
end Go.Proofs.YthdoihemjndmlaaDoor
