import Derived.Test.YtbocejiclellfaaGreatDoorQ01IApp
import Derived.Laws.EntriesVeiled

/- The table of classes in memory; Len, has, entry. -/
set_option linter.unusedSimpArgs false
set_option linter.unusedVariables false
set_option maxRecDepth 100000
namespace Go.Proofs.YtbocejiclellfaaGreatDoor
open Go.RowKit

def RdN (A : Nat → Prop) (w : World) (cs : List Value) (x : Nat) : Prop := cs = [.int .i64 (x : Int)]
theorem goodN : GoodR 1 RdN where
  turn h _ _ := h
  mono h _ := h
  len h := by unfold RdN at h; rw [h]; rfl
  one h := by unfold RdN at h; rw [h]; intro u hu; simp at hu; rw [hu]; rfl
/-- What a table tells of one. -/
structure En where
  nm : ByteArray
  face : Bool
  sup : Int
  rt : List Nat
theorem rdv_one {α : Type} {sz : Nat} {R : Rdg α} {A : Nat → Prop} {w : World} {v : Value} {l : List α} (h : RdV sz R A w v l) : v.oneCell' = true := by
  obtain ⟨P, c, rfl, _⟩ := h
  rfl
def RdE (A : Nat → Prop) (w : World) (cs : List Value) (x : En) : Prop := ∃ V, cs = [.string x.nm, .bool x.face, .int .i64 x.sup, V] ∧ RdV 1 RdN A w V x.rt
theorem goodE : GoodR 4 RdE where
  turn := by
    rintro A w w' F cs m ⟨V, e, h⟩ t hF
    exact ⟨V, e, h.turn goodN t hF⟩
  mono := by
    rintro A B w cs m ⟨V, e, h⟩ hB
    exact ⟨V, e, h.mono goodN hB⟩
  len := by
    rintro A w cs m ⟨V, rfl, h⟩
    rfl
  one := by
    rintro A w cs m ⟨V, rfl, h⟩ u hu
    simp at hu
    rcases hu with rfl | rfl | rfl | rfl
    all_goals first | rfl | exact rdv_one h
/-- Block t is a table: a map, and the entries, all of them in blocks that A allows. -/
structure Tl (w : World) (A : Nat → Prop) (t : Nat) (M V : Value) (Es : List En) : Prop where
  blk : w.heap[t]? = some (.cells #[M, V] 82 (0, 0))
  ent : RdV 4 RdE A w V Es
  len : Es.length ≤ 1000000
theorem Tl.turn {w w' : World} {A : Nat → Prop} {t : Nat} {M V : Value} {Es : List En} {F : List Nat} (h : Tl w A t M V Es) (k : Turn F w w') (ht : t ∉ F) (hF : ∀ g ∈ F, ¬ A g) : Tl w' A t M V Es := ⟨k.heap h.blk ht, h.ent.turn goodE k hF, h.len⟩
theorem Tl.turn' {w w' : World} {A : Nat → Prop} {t : Nat} {M V : Value} {Es : List En} (h : Tl w A t M V Es) (k : Turn [] w w') : Tl w' A t M V Es := h.turn k (by simp) (by simp)
theorem Tl.form {w : World} {A : Nat → Prop} {t : Nat} {M V : Value} {Es : List En} (h : Tl w A t M V Es) : ∃ P c, V = .slice P Es.length c ∧ Es.length ≤ c := by
  obtain ⟨P, c, e, hc, _⟩ := h.ent
  exact ⟨P, c, e, hc⟩

set_option maxHeartbeats 1600000 in
theorem len_any8 {w : World} {A : Nat → Prop} {t : Nat} {M V : Value} {Es : List En} (h : Tl w A t M V Es) :
    Calls Tryz.prog 45 #[.pointer (some ⟨t, 0, none⟩)] w fun e w' => e = .returned (.int .i64 (Es.length : Int)) ∧ w = w' := by
  obtain ⟨P, c, rfl, hc⟩ := h.form
  have c1 : w.cell? ⟨t, 1, none⟩ = some (.slice P Es.length c) := cell_of_row w t 1 _ _ _ h.blk
  obtain ⟨N, hN⟩ : ∃ N, Es.length = N := ⟨_, rfl⟩
  rw [hN] at c1 hc ⊢
  clear hN h
  go_enter Tryz.func45, Tryz.ntmps45
  go_wp2_with fail
  go_ret
  exact ⟨rfl, rfl⟩
set_option maxHeartbeats 1600000 in
theorem has_any8 {w : World} {A : Nat → Prop} {t : Nat} {M V : Value} {Es : List En} (h : Tl w A t M V Es) (i : Int) :
    Calls Tryz.prog 67 #[.pointer (some ⟨t, 0, none⟩), .int .i64 i] w fun e w' => e = .returned (.bool (decide (0 ≤ i ∧ i < (Es.length : Int)))) ∧ w = w' := by
  have HL := Lib.hid (len_any8 h)
  obtain ⟨N, hN⟩ : ∃ N, Es.length = N := ⟨_, rfl⟩
  rw [hN] at HL ⊢
  clear hN h
  by_cases h0 : 0 ≤ i
  · have d0 : decide (0 ≤ i) = true := by simpa using h0
    go_enter Tryz.func67, Tryz.ntmps67
    go_wp2_with fail
    refine HL.out.mono ?_
    rintro e w1 ⟨rfl, rfl⟩
    go_wp2_with fail
    go_ret
    exact ⟨ret_bool (by simp [h0]), rfl⟩
  · have d0 : decide (0 ≤ i) = false := by simpa using h0
    go_enter Tryz.func67, Tryz.ntmps67
    go_wp2_with fail
    go_ret
    exact ⟨ret_bool (by simp [h0]), rfl⟩
def en0 : En := ⟨⟨#[]⟩, false, -1, []⟩
def enAt (Es : List En) (i : Int) : En := if 0 ≤ i then (Es[i.toNat]?).getD en0 else en0
theorem enAt_nat {Es : List En} {k : Nat} {x : En} (h : Es[k]? = some x) : enAt Es (k : Int) = x := by
  unfold enAt
  rw [if_pos (by omega), Int.toNat_natCast, h]
  rfl
theorem enAt_out {Es : List En} {i : Int} (h : ¬ (0 ≤ i ∧ i < (Es.length : Int))) : enAt Es i = en0 := by
  unfold enAt
  split
  · rw [List.getElem?_eq_none (by omega)]
    rfl
  · rfl
theorem Tl.below {w : World} {A : Nat → Prop} {t : Nat} {M V : Value} {Es : List En} (h : Tl w A t M V Es) {r : Nat} (hr : w.heap.size = r) : Tl w (fun g => A g ∧ g < r) t M V Es :=
  ⟨h.blk, h.ent.mono goodE (fun g ha hg => ⟨ha, by omega⟩), h.len⟩
set_option maxHeartbeats 3200000 in
theorem entry_any8 {w : World} {A : Nat → Prop} {t : Nat} {M V : Value} {Es : List En} (h : Tl w A t M V Es) (i : Int) :
    Calls Tryz.prog 50 #[.pointer (some ⟨t, 0, none⟩), .int .i64 i] w fun e w' => ∃ U, e = .returned (.agg #[.string (enAt Es i).nm, .bool (enAt Es i).face, .int .i64 (enAt Es i).sup, U]) ∧ RdV 1 RdN A w' U (enAt Es i).rt ∧ Turn [] w w' := by
  have HH : Hid (∀ W, Turn [] w W → Calls Tryz.prog 67 #[.pointer (some ⟨t, 0, none⟩), .int .i64 i] W fun e w' => e = .returned (.bool (decide (0 ≤ i ∧ i < (Es.length : Int)))) ∧ W = w') := Lib.hid fun W k => has_any8 (h.turn' k) i
  have t1 : Turn [] w (w.alloc (.cells #[.string ⟨#[]⟩, .bool false, .int .i64 0, .slice none 0 0] 100)) := (Turn.refl [] w).alloc _
  obtain ⟨W1, hW1⟩ : ∃ W, w.alloc (.cells #[.string ⟨#[]⟩, .bool false, .int .i64 0, .slice none 0 0] 100) = W := ⟨_, rfl⟩
  obtain ⟨r, hr⟩ : ∃ r, w.heap.size = r := ⟨_, rfl⟩
  have b1 : W1.heap[r]? = some (.cells #[.string ⟨#[]⟩, .bool false, .int .i64 0, .slice none 0 0] 100 (0, 0)) := by rw [← hW1, ← hr]; exact heap_alloc_new w _
  rw [hW1] at t1
  have h1 : Tl W1 (fun g => A g ∧ g < r) t M V Es := Tl.turn' (Tl.below h hr) t1
  by_cases hi : 0 ≤ i ∧ i < (Es.length : Int)
  · obtain ⟨k, rfl⟩ := Int.eq_ofNat_of_zero_le hi.1
    have hk : k < Es.length := by omega
    obtain ⟨x, hx⟩ := at_lt hk
    rw [enAt_nat hx]
    obtain ⟨P, c, rfl, hc, hh⟩ := h1.ent
    rcases hh with h0 | ⟨g, rfl, hA, hg, hat⟩
    · rw [h0] at hk; simp at hk
    obtain ⟨cs, hcs, U, rfl, hU⟩ := hat k x hx
    have c1 : W1.cell? ⟨t, 1, none⟩ = some (.slice (some ⟨g, 0, none⟩) Es.length c) := cell_of_row W1 t 1 _ _ _ h1.blk
    have e0 : W1.cell? ⟨g, k * 4, none⟩ = some (.string x.nm) := hcs 0 _ rfl
    have e1 : W1.cell? ⟨g, k * 4 + 1, none⟩ = some (.bool x.face) := hcs 1 _ rfl
    have e2 : W1.cell? ⟨g, k * 4 + 2, none⟩ = some (.int .i64 x.sup) := hcs 2 _ rfl
    have e3 : W1.cell? ⟨g, k * 4 + 3, none⟩ = some U := hcs 3 _ rfl
    obtain ⟨PU, cU, hPU, hcU, hhU⟩ := id hU
    subst hPU
    obtain ⟨N, hN⟩ : ∃ N, Es.length = N := ⟨_, rfl⟩
    obtain ⟨nm, face, sup, rt⟩ := x
    obtain ⟨m, hm⟩ : ∃ m, rt.length = m := ⟨_, rfl⟩
    simp only at e0 e1 e2 e3 hU hcU hhU ⊢
    have d1 : decide (0 ≤ (k : Int) ∧ (k : Int) < (N : Int)) = true := by rw [← hN]; simpa using hk
    have d2 : (k : Int) < (N : Int) := by omega
    have hkN : k < N := by omega
    have f0 : W1.frozen? ⟨r, 0, none⟩ = false := frozen_of_row W1 r 0 _ _ b1
    have f1 : W1.frozen? ⟨r, 1, none⟩ = false := frozen_of_row W1 r 1 _ _ b1
    have f2 : W1.frozen? ⟨r, 2, none⟩ = false := frozen_of_row W1 r 2 _ _ b1
    have f3 : W1.frozen? ⟨r, 3, none⟩ = false := frozen_of_row W1 r 3 _ _ b1
    have z0 : W1.cell? ⟨r, 0, none⟩ = some (.string ⟨#[]⟩) := cell_of_row W1 r 0 _ _ _ b1
    have z1 : W1.cell? ⟨r, 1, none⟩ = some (.bool false) := cell_of_row W1 r 1 _ _ _ b1
    have z2 : W1.cell? ⟨r, 2, none⟩ = some (.int .i64 0) := cell_of_row W1 r 2 _ _ _ b1
    have z3 : W1.cell? ⟨r, 3, none⟩ = some (.slice none 0 0) := cell_of_row W1 r 3 _ _ _ b1
    have HH1 := Lib.hid (HH.out W1 t1)
    rw [hm] at e3
    rw [hN] at HH1 c1
    have HU := Lib.hid hU
    have HT1 := Lib.hid t1
    have HW1 := Lib.hid hW1
    have HR := Lib.hid hr
    have HM := Lib.hid hm
    clear h h1 hx hcs hat hU hhU t1 hW1 b1 hm hN HH hi
    go_enter Tryz.func50, Tryz.ntmps50
    go_wp2_with fail
    rw [HW1.out]
    refine HH1.out.mono ?_
    rintro e w2 ⟨rfl, rfl⟩
    rw [d1]
    go_wp2_with fail
    refine bodyPost_ret (v := .agg #[.string nm, .bool face, .int .i64 sup, .slice PU m cU]) (by simp [results, Tryz.results50, go_sem, z0, z1, z2, z3]) rfl ?_
    rw [← HM.out]
    have tE : Turn [r] W1 ((((W1.setCell ⟨r, 0, none⟩ (.string nm)).setCell ⟨r, 1, none⟩ (.bool face)).setCell ⟨r, 2, none⟩ (.int .i64 sup)).setCell ⟨r, 3, none⟩ (.slice PU rt.length cU)) :=
      ((((Turn.refl [r] W1).setCell (.inl (by simp)) _).setCell (.inl (by simp)) _).setCell (.inl (by simp)) _).setCell (.inl (by simp)) _
    exact ⟨_, rfl, (HU.out.turn goodN tE (by simp)).mono goodN (fun g hg _ => hg.1), HT1.out.trans tE (fun g hg => .inr (by simp at hg; omega))⟩
  · rw [enAt_out hi]
    have d1 : decide (0 ≤ i ∧ i < (Es.length : Int)) = false := by simpa using hi
    have f0 : W1.frozen? ⟨r, 0, none⟩ = false := frozen_of_row W1 r 0 _ _ b1
    have f1 : W1.frozen? ⟨r, 1, none⟩ = false := frozen_of_row W1 r 1 _ _ b1
    have f2 : W1.frozen? ⟨r, 2, none⟩ = false := frozen_of_row W1 r 2 _ _ b1
    have f3 : W1.frozen? ⟨r, 3, none⟩ = false := frozen_of_row W1 r 3 _ _ b1
    have z0 : W1.cell? ⟨r, 0, none⟩ = some (.string ⟨#[]⟩) := cell_of_row W1 r 0 _ _ _ b1
    have z1 : W1.cell? ⟨r, 1, none⟩ = some (.bool false) := cell_of_row W1 r 1 _ _ _ b1
    have z2 : W1.cell? ⟨r, 2, none⟩ = some (.int .i64 0) := cell_of_row W1 r 2 _ _ _ b1
    have z3 : W1.cell? ⟨r, 3, none⟩ = some (.slice none 0 0) := cell_of_row W1 r 3 _ _ _ b1
    have HH1 := Lib.hid (HH.out W1 t1)
    have HT1 := Lib.hid t1
    have HW1 := Lib.hid hW1
    clear h h1 t1 hW1 b1 HH hi
    go_enter Tryz.func50, Tryz.ntmps50
    go_wp2_with fail
    rw [HW1.out]
    refine HH1.out.mono ?_
    rintro e w2 ⟨rfl, rfl⟩
    rw [d1]
    go_wp2_with fail
    refine bodyPost_ret (v := .agg #[.string ⟨#[]⟩, .bool false, .int .i64 (-1), .slice none 0 0]) (by simp [results, Tryz.results50, go_sem, z0, z1, z2, z3]) rfl ?_
    have tE : Turn [r] W1 ((((W1.setCell ⟨r, 0, none⟩ (.string ⟨#[]⟩)).setCell ⟨r, 1, none⟩ (.bool false)).setCell ⟨r, 2, none⟩ (.int .i64 (-1))).setCell ⟨r, 3, none⟩ (.slice none 0 0)) :=
      ((((Turn.refl [r] W1).setCell (.inl (by simp)) _).setCell (.inl (by simp)) _).setCell (.inl (by simp)) _).setCell (.inl (by simp)) _
    exact ⟨_, rfl, RdV.nil _ _ _, HT1.out.trans tE (fun g hg => .inr (by simp at hg; omega))⟩
end Go.Proofs.YtbocejiclellfaaGreatDoor

/- reach: what some numbers lead to, with any function that lets numbers enter, and any that tells where one leads. -/
set_option linter.unusedSimpArgs false
set_option linter.unusedVariables false
set_option maxRecDepth 100000
namespace Go.Proofs.YtbocejiclellfaaGreatDoor
open Go.RowKit

/-- May a number below n enter? -/
def mayB (n : Nat) (l : List Int) (i : Int) : Bool := decide (0 ≤ i ∧ i < (n : Int)) && !hasB l i
def stepL (n : Nat) (l : List Int) (i : Int) : List Int := if mayB n l i then putL l i else l
/-- A function value that lets numbers enter a set that grows: it stands in the blocks F, and reads as St says. -/
structure Ent (D : Int → Prop) (B n k : Nat) (pre caps : List Value) (St : World → List Nat → List Int → Prop) : Prop where
  turn : ∀ {w w' : World} {G F : List Nat} {l : List Int}, St w F l → Turn G w w' → (∀ g ∈ G, g ∉ F ∧ B ≤ g) → St w' F l
  lt : ∀ {w : World} {F : List Nat} {l : List Int}, St w F l → ∀ g ∈ F, g < w.heap.size
  enters : ∀ (args : Array Value) (W : World), (callFunc k args).run Tryz.prog W = .ok (.enter k args) W
  call : ∀ {w : World} {F : List Nat} {l : List Int} (i : Int), D i → St w F l → Calls Tryz.prog k (pre ++ Value.int .i64 i :: caps).toArray w fun e w' =>
    e = .returned (.bool (mayB n l i)) ∧ ∃ F', St w' F' (stepL n l i) ∧ Turn F w w' ∧ Foot w.heap.size F F'
/-- The list that is gathered, at block fb; the function value, at block eb. -/
structure Rg (B : Nat) (St : World → List Nat → List Int → Prop) (k : Nat) (pre caps : List Value) (w : World) (eb fb : Nat) (F : List Nat) (V : Value) (l L : List Int) : Prop where
  st : St w F l
  fn : w.cell? ⟨eb, 0, none⟩ = some (.func (.func k) pre.toArray caps.toArray)
  blk : w.heap[fb]? = some (.cells #[V] 63 (0, 0))
  own : OwnI w 0 V L
  eF : eb ∉ F
  fF : fb ∉ F
  ef : eb ≠ fb
  vF : ∀ g, V.ownBlock = some g → g ∉ F ∧ g ≠ fb ∧ g ≠ eb
  el : eb < w.heap.size
  fB : B ≤ fb
  vB : ∀ g, V.ownBlock = some g → B ≤ g
  wB : B ≤ w.heap.size
theorem Rg.turn {D : Int → Prop} {B n k : Nat} {pre caps : List Value} {St : World → List Nat → List Int → Prop} (E : Ent D B n k pre caps St) {w w' : World} {eb fb : Nat} {F : List Nat} {V : Value} {l L : List Int} (h : Rg B St k pre caps w eb fb F V l L) (t : Turn [] w w') : Rg B St k pre caps w' eb fb F V l L :=
  ⟨E.turn h.st t (by simp), (t.cell (p := ⟨eb, 0, none⟩) h.el (by simp)).trans h.fn, t.heap h.blk (by simp), h.own.turn' t, h.eF, h.fF, h.ef, h.vF, Nat.lt_of_lt_of_le h.el t.size, h.fB, h.vB, Nat.le_trans h.wB t.size⟩
def meetL (n : Nat) : List Int → List Int → List Int → List Int × List Int
  | [], l, L => (l, L)
  | i :: is, l, L => meetL n is (stepL n l i) (if mayB n l i then L ++ [i] else L)

theorem meetL_cons (n : Nat) (i : Int) (is l L : List Int) : meetL n (i :: is) l L = meetL n is (stepL n l i) (if mayB n l i then L ++ [i] else L) := rfl
theorem moved_trans {w w1 : World} {V V1 V6 : Value} (h : Moved w V V1) (hm : V6.ownBlock = V1.ownBlock ∨ ∃ g, V6.ownBlock = some g ∧ w1.heap.size ≤ g) (hs : w.heap.size ≤ w1.heap.size) : Moved w V V6 := by
  rcases hm with hm | ⟨g, hg, hl⟩
  · rcases h with h | ⟨g, hg, hl⟩
    · exact .inl (hm.trans h)
    · exact .inr ⟨g, by rw [hm]; exact hg, hl⟩
  · exact .inr ⟨g, hg, by omega⟩
theorem rg_step {D : Int → Prop} {B n k : Nat} {pre caps : List Value} {St : World → List Nat → List Int → Prop} (E : Ent D B n k pre caps St) {w w1 w6 : World} {eb fb : Nat} {F F2 : List Nat} {V V1 V6 : Value} {l L1 : List Int} {x : Int}
    (hst : St w1 F2 l) (hG : w1.cell? ⟨eb, 0, none⟩ = some (.func (.func k) pre.toArray caps.toArray) ∧ eb ∉ F2 ∧ fb ∉ F2 ∧ (∀ g, V1.ownBlock = some g → g ∉ F2 ∧ g ≠ fb ∧ g ≠ eb) ∧ eb ≠ fb ∧ eb < w1.heap.size)
    (hBB : B ≤ fb ∧ (∀ g, V1.ownBlock = some g → B ≤ g) ∧ B ≤ w1.heap.size)
    (hlt : (∀ g ∈ F2, g < w1.heap.size) ∧ fb < w1.heap.size) (hb6 : w6.heap[fb]? = some (.cells #[V1] 63 (0, 0)))
    (ho6 : OwnI w6 0 V6 (L1 ++ [x])) (ht6 : Turn V1.ownBlock.toList w1 w6) (hm6 : V6.ownBlock = V1.ownBlock ∨ ∃ g, V6.ownBlock = some g ∧ w1.heap.size ≤ g)
    (hT2 : Turn (fb :: V.ownBlock.toList ++ F) w w1) (hMv : Moved w V V1) :
    Rg B St k pre caps (w6.setCell ⟨fb, 0, none⟩ V6) eb fb F2 V6 l (L1 ++ [x]) ∧ Turn (fb :: V.ownBlock.toList ++ F) w (w6.setCell ⟨fb, 0, none⟩ V6) ∧ Moved w V V6 := by
  obtain ⟨h1, h2, h3, h4, h5, h6⟩ := hG
  have tS : Turn [fb] w6 (w6.setCell ⟨fb, 0, none⟩ V6) := (Turn.refl [fb] w6).setCell (.inl (by simp)) _
  have v6 : ∀ g, V6.ownBlock = some g → g ∉ F2 ∧ g ≠ fb ∧ g ≠ eb := fun g hg => by
    rcases hm6 with hm | ⟨g', hg', hl⟩
    · exact h4 g (by rw [← hm]; exact hg)
    · rw [hg] at hg'
      injection hg' with e
      subst e
      exact ⟨fun h => by have := hlt.1 g h; omega, by have := hlt.2; omega, by omega⟩
  have hv1 : ∀ g ∈ V1.ownBlock.toList, g ∉ F2 ∧ g ≠ fb ∧ g ≠ eb := fun g hg => h4 g (by simpa using hg)
  have vB6 : ∀ g, V6.ownBlock = some g → B ≤ g := fun g hg => by
    rcases hm6 with hm | ⟨g', hg', hl⟩
    · exact hBB.2.1 g (by rw [← hm]; exact hg)
    · rw [hg] at hg'
      injection hg' with e
      have := hBB.2.2
      omega
  refine ⟨⟨E.turn (E.turn hst ht6 (fun g hg => ⟨(hv1 g hg).1, hBB.2.1 g (by simpa using hg)⟩)) tS (by simpa using ⟨h3, hBB.1⟩), ?_, heap_setCell_same w6 fb 0 _ _ _ hb6, ho6.turn tS (fun g hg hh => (v6 g hg).2.1 (by simpa using hh)), h2, h3, h5, v6, Nat.lt_of_lt_of_le h6 (Nat.le_trans ht6.size tS.size), hBB.1, vB6, Nat.le_trans hBB.2.2 (Nat.le_trans ht6.size tS.size)⟩, ?_, moved_trans hMv hm6 hT2.size⟩
  · refine (tS.cell (p := ⟨eb, 0, none⟩) (Nat.lt_of_lt_of_le h6 ht6.size) (by simpa using h5)).trans ((ht6.cell (p := ⟨eb, 0, none⟩) h6 (fun hg => (hv1 eb hg).2.2 rfl)).trans h1)
  · refine (hT2.trans ht6 (fun g hg => ?_)).trans tS (fun g hg => .inl (by simp at hg; simp [hg]))
    rcases hMv with hMv | ⟨g', hg', hl⟩
    · rw [hMv] at hg
      exact .inl (by simp at hg; simp [hg])
    · rw [hg'] at hg
      simp at hg
      subst hg
      exact .inr hl

set_option maxHeartbeats 6400000 in
theorem meet_any {D : Int → Prop} {B n k : Nat} {pre caps : List Value} {St : World → List Nat → List Int → Prop} (E : Ent D B n k pre caps St) (P : Option Addr) (m c : Nat) (is : List Int) (eb fb : Nat) (w : World) (F : List Nat) (V : Value) (l L : List Int)
    (h : Rg B St k pre caps w eb fb F V l L) (hP : Ints w P is) (hm : m = is.length) (hPF : ∀ b off, P = some ⟨b, off, none⟩ → 0 < is.length → b ∉ F ∧ b ≠ fb ∧ V.ownBlock ≠ some b ∧ b < w.heap.size) (hL : L.length + is.length ≤ 10000000) (hD : ∀ i ∈ is, D i) :
    Calls Tryz.prog 76 #[.slice P m c, .pointer (some ⟨eb, 0, none⟩), .pointer (some ⟨fb, 0, none⟩)] w fun e w' => e = .returned (.tuple #[]) ∧
      ∃ F' V', Rg B St k pre caps w' eb fb F' V' (meetL n is l L).1 (meetL n is l L).2 ∧ Turn (fb :: V.ownBlock.toList ++ F) w w' ∧ Foot w.heap.size F F' ∧ Moved w V V' := by
  have HH := Lib.hid h
  have HP := Lib.hid hP
  have HPF := Lib.hid hPF
  have HE := Lib.hid E
  have HM := Lib.hid hm
  have HLL := Lib.hid hL
  have HD := Lib.hid hD
  have hmb : m ≤ 10000000 := by omega
  clear h hP hPF hm E hL hD
  go_enter Tryz.func76, Tryz.ntmps76
  go_wp2_with fail
  go_loopw [8] (fun ti wr => ∃ i : Nat, i ≤ m ∧ ti = .int .i64 (i : Int) ∧ Hid (∃ F' V' l' L', Rg B St k pre caps wr eb fb F' V' l' L' ∧ meetL n (is.drop i) l' L' = meetL n is l L ∧ L'.length ≤ L.length + i ∧ Turn (fb :: V.ownBlock.toList ++ F) w wr ∧ Foot w.heap.size F F' ∧ Moved w V V')) (fun ti _ => m - (intOf ti).toNat)
  case atStart => exact ⟨0, Nat.zero_le _, rfl, Lib.hid ⟨F, V, l, L, HH.out, rfl, by omega, Turn.refl _ _, Foot.refl _ _, Moved.refl _ _⟩⟩
  case round =>
    obtain ⟨i, hi, rfl, HR⟩ := hrel
    obtain ⟨F1, V1, l1, L1, hR, hmeet, hlen, hT, hF, hMv⟩ := HR.out
    by_cases hlt : i < m
    · obtain ⟨x, hx⟩ := at_lt (show i < is.length by have := HM.out; omega)
      obtain ⟨b, off, rfl, hb, hcell⟩ := HP.out i x hx
      obtain ⟨p1, p2, p3, p4⟩ := HPF.out b off rfl (by have := HM.out; omega)
      have hbn : b ∉ fb :: V.ownBlock.toList ++ F := by
        simp
        refine ⟨p2, fun h => p3 h, p1⟩
      have cx : wr.cell? ⟨b, off + i, none⟩ = some (.int .i64 x) := (hT.cell (p := ⟨b, off + i, none⟩) hb hbn).trans hcell
      have c1 := hR.fn
      have d3 : decide ((i : Int) < (m : Int)) = true := by simp; omega
      have d4 : (i : Int) < (m : Int) := by omega
      have hdr : is.drop i = x :: is.drop (i + 1) := by
        obtain ⟨hh, he⟩ := List.getElem?_eq_some_iff.1 hx
        rw [List.drop_eq_getElem_cons hh, he]
      rw [hdr] at hmeet
      have HC := Lib.hid (HE.out.call x (HD.out x (List.mem_of_getElem? hx)) hR.st)
      have hen := HE.out.enters
      have HX := Lib.hid (And.intro hmeet (And.intro hlen (And.intro hT (And.intro hF hMv))))
      have HRg := Lib.hid hR
      have hL1 : L1.length ≤ 10000000 := by have := HLL.out; have := HM.out; omega
      clear hx hcell hdr hmeet hlen hT hF hMv HR hR hbn p1 p2 p3 p4
      go_wp2_with fail
      refine HC.out.mono ?_
      rintro e w1 ⟨rfl, F2, hst2, t2, f2⟩
      have hR := HRg.out
      have own1 : OwnI w1 0 V1 L1 := hR.own.turn t2 (fun g hg => (hR.vF g hg).1)
      have blk1 := t2.heap hR.blk hR.fF
      have fbl : fb < wr.heap.size := (Array.getElem?_eq_some_iff.1 hR.blk).1
      have fn1 : w1.cell? ⟨eb, 0, none⟩ = some (.func (.func k) pre.toArray caps.toArray) := (t2.cell (p := ⟨eb, 0, none⟩) hR.el hR.eF).trans hR.fn
      have hF2 : ∀ g ∈ F2, g < wr.heap.size → g ∈ F1 := fun g hg hl => by
        rcases f2 g hg with h | h
        · exact h
        · omega
      have eF2 : eb ∉ F2 := fun h => hR.eF (hF2 _ h hR.el)
      have fF2 : fb ∉ F2 := fun h => hR.fF (hF2 _ h fbl)
      have vF2 : ∀ g, V1.ownBlock = some g → g ∉ F2 ∧ g ≠ fb ∧ g ≠ eb := fun g hg => ⟨fun h => (hR.vF g hg).1 (hF2 _ h (hR.own.lt g hg).2), (hR.vF g hg).2⟩
      obtain ⟨hmeet, hlen, hT, hF, hMv⟩ := HX.out
      have hT2 : Turn (fb :: V.ownBlock.toList ++ F) w w1 := hT.trans t2 (fun g hg => by
        rcases hF g hg with h | h
        · exact .inl (by simp [h])
        · exact .inr h)
      have hFt : Foot w.heap.size F F2 := hF.trans f2 hT.size
      cases hmay : mayB n l1 x with
      | false =>
        have HN : Hid (∃ F' V' l' L', Rg B St k pre caps w1 eb fb F' V' l' L' ∧ meetL n (is.drop (i + 1)) l' L' = meetL n is l L ∧ L'.length ≤ L.length + (i + 1) ∧ Turn (fb :: V.ownBlock.toList ++ F) w w1 ∧ Foot w.heap.size F F' ∧ Moved w V V') :=
          Lib.hid ⟨F2, V1, _, L1, ⟨hst2, fn1, blk1, own1, eF2, fF2, hR.ef, vF2, Nat.lt_of_lt_of_le hR.el t2.size, hR.fB, hR.vB, Nat.le_trans hR.wB t2.size⟩, by rw [← hmeet, meetL_cons, hmay]; rfl, by omega, hT2, hFt, hMv⟩
        clear hR own1 blk1 fn1 hF2 eF2 fF2 vF2 hmeet hlen hT hF hMv hT2 hFt hst2 t2 f2 HRg HX HC
        go_wp2_with fail
        go_roundw
        case rel => exact ⟨i + 1, by omega, by go_num, HN⟩
        case measure => simp [intOf]; omega
      | true =>
        have c2 : w1.cell? ⟨fb, 0, none⟩ = some V1 := cell_of_row w1 fb 0 _ _ _ blk1
        obtain ⟨A1, q1, hv1, _, _⟩ := own1.form
        have HO := Lib.hid own1
        have HBk := Lib.hid blk1
        have HS := Lib.hid hst2
        have HV := Lib.hid (And.intro hmeet (And.intro hlen (And.intro hT2 (And.intro hFt hMv))))
        have HG := Lib.hid (And.intro fn1 (And.intro eF2 (And.intro fF2 (And.intro vF2 (And.intro hR.ef (Nat.lt_of_lt_of_le hR.el t2.size))))))
        have HV1 := Lib.hid hv1
        have HLT := Lib.hid (And.intro (HE.out.lt hst2) (And.intro (show fb < w1.heap.size from (Array.getElem?_eq_some_iff.1 blk1).1) (And.intro own1.lt hT2.size)))
        have HMY := Lib.hid hmay
        have HBB : Hid (B ≤ fb ∧ (∀ g, V1.ownBlock = some g → B ≤ g) ∧ B ≤ w1.heap.size) := Lib.hid ⟨hR.fB, hR.vB, Nat.le_trans hR.wB t2.size⟩
        clear hR own1 blk1 fn1 hF2 eF2 fF2 vF2 hmeet hlen hT hF hMv hT2 hFt hst2 t2 f2 HRg HX HC hv1 hmay
        go_wp2_with (at_builtin
                     refine wpList_app1' rfl (.tmp 15) (.tmp 17) rfl w1 0 V1 L1 x 1 rfl HO.out rfl hL1 (Nat.zero_le _) ?_
                     intro v6 w6 ho6 ht6 hm6
                     obtain ⟨A6, q6, hv6, _, _⟩ := ho6.form
                     have hb6 := ht6.heap HBk.out (fun hg => ((HG.out.2.2.2.1 fb (by simpa using hg)).2.1 rfl))
                     have x4 : w6.cell? ⟨fb, 0, none⟩ = some V1 := cell_of_row w6 fb 0 _ _ _ hb6
                     have x5 : w6.frozen? ⟨fb, 0, none⟩ = false := frozen_of_row w6 fb 0 _ _ hb6
                     have HO6 := Lib.hid (And.intro ho6 (And.intro ht6 (And.intro hm6 hb6)))
                     subst hv6
                     clear ho6 ht6 hm6 hb6)
        go_roundw
        case rel =>
          obtain ⟨r1, r2, r3⟩ := rg_step HE.out HS.out HG.out HBB.out ⟨HLT.out.1, HLT.out.2.1⟩ HO6.out.2.2.2 HO6.out.1 HO6.out.2.1 HO6.out.2.2.1 HV.out.2.2.1 HV.out.2.2.2.2
          simp only [List.length_append, List.length_singleton] at r1 r2 r3
          refine ⟨i + 1, by omega, by go_num, Lib.hid ⟨F2, _, _, _, r1, ?_, ?_, r2, HV.out.2.2.2.1, r3⟩⟩
          · rw [← HV.out.1, meetL_cons, HMY.out]
            rfl
          · have := HV.out.2.1
            simp
            omega
        case measure => simp [intOf]; omega
    · obtain rfl : i = m := by omega
      have d3 : decide ((i : Int) < (i : Int)) = false := by simp
      have HX := Lib.hid (And.intro hR (And.intro hmeet (And.intro hT (And.intro hF hMv))))
      clear hR hmeet hlen hT hF hMv HR
      go_wp2_with fail
      go_end0
      obtain ⟨hR, hmeet, hT, hF, hMv⟩ := HX.out
      rw [List.drop_of_length_le (by rw [HM.out]; exact Nat.le_refl _)] at hmeet
      refine ⟨rfl, F1, V1, ?_, hT, hF, hMv⟩
      rw [← hmeet]
      exact hR
end Go.Proofs.YtbocejiclellfaaGreatDoor

/- reach, whole. -/
set_option linter.unusedSimpArgs false
set_option linter.unusedVariables false
set_option maxRecDepth 100000
namespace Go.Proofs.YtbocejiclellfaaGreatDoor
open Go.RowKit

theorem nodup_le : ∀ (n : Nat) (L : List Int), L.Nodup → (∀ i ∈ L, 0 ≤ i ∧ i < (n : Int)) → L.length ≤ n
  | 0, L, _, h => by
    cases L with
    | nil => simp
    | cons a L => have := h a (by simp); omega
  | n + 1, L, hd, h => by
    have h1 : (L.erase (n : Int)).Nodup := hd.erase _
    have h2 := nodup_le n (L.erase (n : Int)) h1 (fun i hi => by
      have hm := (List.Nodup.mem_erase_iff hd).1 hi
      have := h i hm.2
      have := hm.1
      omega)
    have h3 := List.length_erase_le (a := (n : Int)) (l := L)
    have h4 : L.length ≤ (L.erase (n : Int)).length + 1 := by
      by_cases hm : (n : Int) ∈ L
      · rw [List.length_erase_of_mem hm]; omega
      · rw [List.erase_of_not_mem hm]; omega
    omega
/-- The list gathered is without repeats, all of it below n and in the set. -/
structure InvL (n : Nat) (l L : List Int) : Prop where
  nd : L.Nodup
  lo : ∀ i ∈ L, 0 ≤ i ∧ i < (n : Int)
  mem : ∀ i ∈ L, i ∈ l
theorem mem_step {n : Nat} (hn : n ≤ 1000000) {l : List Int} {i y : Int} : y ∈ stepL n l i ↔ y ∈ l ∨ (y = i ∧ 0 ≤ i ∧ i < (n : Int)) := by
  unfold stepL
  by_cases hr : 0 ≤ i ∧ i < (n : Int)
  · have hok : okB i = true := by simp [okB]; omega
    cases hh : hasB l i with
    | true =>
      have hm : i ∈ l := by simpa [hasB] using hh
      rw [show mayB n l i = false by simp [mayB, hh]]
      simp only [Bool.false_eq_true, if_false]
      constructor
      · exact .inl
      · rintro (h | ⟨rfl, _⟩)
        · exact h
        · exact hm
    | false =>
      rw [show mayB n l i = true by simp [mayB, hh, hr]]
      simp only [if_true]
      rw [mem_putL]
      constructor
      · rintro (h | ⟨h, _⟩)
        · exact .inl h
        · exact .inr ⟨h, hr⟩
      · rintro (h | ⟨h, _⟩)
        · exact .inl h
        · exact .inr ⟨h, hok⟩
  · rw [show mayB n l i = false by simp [mayB, hr]]
    simp only [Bool.false_eq_true, if_false]
    constructor
    · exact .inl
    · rintro (h | ⟨_, h⟩)
      · exact h
      · exact absurd h hr
theorem meetL_inv {n : Nat} (hn : n ≤ 1000000) : ∀ (is : List Int) {l L : List Int}, InvL n l L → InvL n (meetL n is l L).1 (meetL n is l L).2
  | [], l, L, h => h
  | i :: is, l, L, h => by
    rw [meetL_cons]
    apply meetL_inv hn is
    cases hm : mayB n l i with
    | false =>
      simp only [Bool.false_eq_true, if_false]
      exact ⟨h.nd, h.lo, fun y hy => (mem_step hn).2 (.inl (h.mem y hy))⟩
    | true =>
      simp only [if_true]
      have hm' := hm
      unfold mayB at hm'
      rw [Bool.and_eq_true, decide_eq_true_eq] at hm'
      have hni : i ∉ l := by
        have := hm'.2
        simpa [hasB] using this
      refine ⟨?_, ?_, ?_⟩
      · rw [List.nodup_append]
        exact ⟨h.nd, by simp, fun a ha b hb => by simp at hb; subst hb; intro e; subst e; exact hni (h.mem _ ha)⟩
      · intro y hy
        rcases List.mem_append.1 hy with hy | hy
        · exact h.lo y hy
        · simp at hy; subst hy; exact hm'.1
      · intro y hy
        rcases List.mem_append.1 hy with hy | hy
        · exact (mem_step hn).2 (.inl (h.mem y hy))
        · simp at hy; subst hy; exact (mem_step hn).2 (.inr ⟨rfl, hm'.1⟩)
theorem meetL_len (n : Nat) : ∀ (is l L : List Int), L.length ≤ (meetL n is l L).2.length
  | [], l, L => Nat.le_refl _
  | i :: is, l, L => by
    rw [meetL_cons]
    refine Nat.le_trans ?_ (meetL_len n is _ _)
    split <;> simp
def ofN (l : List Nat) : List Int := l.map (fun (j : Nat) => (j : Int))
def goL (n : Nat) (nx : Nat → List Nat) : Nat → Nat → List Int → List Int → List Int × List Int
  | 0, _, l, L => (l, L)
  | f + 1, k, l, L => match L[k]? with
    | none => (l, L)
    | some i => goL n nx f (k + 1) (meetL n (ofN (nx i.toNat)) l L).1 (meetL n (ofN (nx i.toNat)) l L).2
theorem goL_some {n : Nat} {nx : Nat → List Nat} {f k : Nat} {l L : List Int} {i : Int} (h : L[k]? = some i) :
    goL n nx (f + 1) k l L = goL n nx f (k + 1) (meetL n (ofN (nx i.toNat)) l L).1 (meetL n (ofN (nx i.toNat)) l L).2 := by
  rw [goL, h]
theorem goL_none {n : Nat} {nx : Nat → List Nat} {f k : Nat} {l L : List Int} (h : L.length ≤ k) : goL n nx f k l L = (l, L) := by
  cases f with
  | zero => rfl
  | succ f => rw [goL, List.getElem?_eq_none h]
/-- What reach answers, and the set behind it. -/
def reachL (n : Nat) (nx : Nat → List Nat) (is l : List Int) : List Int × List Int := goL n nx (n + 1) 0 (meetL n is l []).1 (meetL n is l []).2

/-- The list at U reads as numbers: as ints. -/
theorem rdn_ints {A : Nat → Prop} {w : World} {P : Option Addr} {c m : Nat} {l : List Nat} (h : RdV 1 RdN A w (.slice P m c) l) : m = l.length ∧ Ints w P (ofN l) ∧ ∀ b off, P = some ⟨b, off, none⟩ → 0 < l.length → A b ∧ b < w.heap.size := by
  obtain ⟨P', c', e, hc, hh⟩ := h
  injection e with e1 e2 e3
  subst e1 e2 e3
  refine ⟨rfl, ?_, ?_⟩
  · intro k y hy
    unfold ofN at hy
    rw [List.getElem?_map] at hy
    cases hk : l[k]? with
    | none => rw [hk] at hy; cases hy
    | some j =>
      rw [hk] at hy
      injection hy with hy
      subst hy
      rcases hh with rfl | ⟨b, rfl, hA, hb, hat⟩
      · simp at hk
      · obtain ⟨cs, hcs, hr⟩ := hat k j hk
        unfold RdN at hr
        subst hr
        have := hcs 0 _ rfl
        exact ⟨b, 0, rfl, hb, by rw [show 0 + k = k * 1 + 0 by omega]; exact this⟩
  · intro b off e hpos
    rcases hh with rfl | ⟨b', rfl, hA, hb, _⟩
    · simp at hpos
    · injection e with e
      injection e with e1 e2
      subst e1
      exact ⟨hA, hb⟩

set_option maxHeartbeats 12800000 in
theorem reach_any {D : Int → Prop} {B n k kn : Nat} {pre caps capn : List Value} {St : World → List Nat → List Int → Prop} (E : Ent D B n k pre caps St) (nx : Nat → List Nat) (A : Nat → Prop) (hn : n ≤ 1000000) (hnx : ∀ i, (nx i).length ≤ 1000000) (hDn : ∀ i, i < n → ∀ a ∈ nx i, D (a : Int))
    (hen : ∀ (args : Array Value) (W : World), (callFunc kn args).run Tryz.prog W = .ok (.enter kn args) W)
    (hN : ∀ (W : World) (F : List Nat) (l : List Int) (i : Nat), St W F l → i < n → Calls Tryz.prog kn (Value.int .i64 (i : Int) :: capn).toArray W fun e w' => ∃ U, e = .returned U ∧ RdV 1 RdN A w' U (nx i) ∧ Turn [] W w')
    (hAF : ∀ (W : World) (F : List Nat) (l : List Int), St W F l → ∀ g ∈ F, ¬ A g)
    (P : Option Addr) (m c : Nat) (is : List Int) (w : World) (F : List Nat) (l : List Int) (hst : St w F l) (hB : B ≤ w.heap.size) (hA : ∀ g, A g → g < w.heap.size) (hP : Ints w P is) (hm : m = is.length) (hm2 : m ≤ 1000000) (hDi : ∀ i ∈ is, D i) (hPF : ∀ b off, P = some ⟨b, off, none⟩ → 0 < is.length → b ∉ F ∧ b < w.heap.size) :
    Calls Tryz.prog 59 #[.func (.func kn) #[] capn.toArray, .func (.func k) pre.toArray caps.toArray, .slice P m c] w fun e w' => ∃ F' V, e = .returned V ∧ OwnI w' 0 V (reachL n nx is l).2 ∧ (∀ g, V.ownBlock = some g → w.heap.size ≤ g) ∧ St w' F' (reachL n nx is l).1 ∧ Turn F w w' ∧ Foot w.heap.size F F' := by
  have hmf : ∀ (fn : Fn) (first cap : Array Value) (w : World), (Instr.makeFunc fn first cap).run Tryz.prog w = .ok (.func fn first cap) w := fun _ _ _ _ => rfl
  have hen1 := E.enters
  have hen2 := enters_of Tryz.func76 (by kernel_rfl) rfl
  obtain ⟨r, hr⟩ : ∃ r, w.heap.size = r := ⟨_, rfl⟩
  obtain ⟨W1, hW1⟩ : ∃ W, (w.alloc (.cells #[.func (.func k) pre.toArray caps.toArray] 90)).alloc (.cells #[.slice none 0 0] 63) = W := ⟨_, rfl⟩
  have t1 : Turn [] w W1 := by rw [← hW1]; exact ((Turn.refl [] w).alloc _).alloc _
  have s1 : W1.heap.size = r + 2 := by rw [← hW1, ← hr]; simp
  have b0 : W1.heap[r]? = some (.cells #[.func (.func k) pre.toArray caps.toArray] 90 (0, 0)) := by rw [← hW1, ← hr]; exact ((Turn.refl [] _).alloc _).heap (heap_alloc_new w _) (by simp)
  have b1 : W1.heap[r + 1]? = some (.cells #[.slice none 0 0] 63 (0, 0)) := by
    rw [← hW1, ← hr]
    have := heap_alloc_new (w.alloc (.cells #[.func (.func k) pre.toArray caps.toArray] 90)) (.cells #[.slice none 0 0] 63)
    rwa [World.size_alloc] at this
  have hlt := E.lt hst
  have hRg : Rg B St k pre caps W1 r (r + 1) F (.slice none 0 0) l [] := ⟨E.turn hst t1 (by simp), cell_of_row W1 r 0 _ _ _ b0, b1, OwnI.nil _ _, fun h => by have := hlt _ h; omega, fun h => by have := hlt _ h; omega, by omega, (fun g hg => by cases hg), by omega, by omega, (fun g hg => by cases hg), by omega⟩
  have HM := Lib.hid (meet_any E P m c is r (r + 1) W1 F (.slice none 0 0) l [] hRg (hP.below t1) hm (fun b off e h0 => by
    obtain ⟨q1, q2⟩ := hPF b off e h0
    exact ⟨q1, by omega, (fun h => by cases h), by omega⟩) (by simp; omega) hDi)
  have HW1 := Lib.hid hW1
  have HT1 := Lib.hid t1
  have HE := Lib.hid E
  have HN := Lib.hid hN
  have HAF := Lib.hid hAF
  have HA := Lib.hid hA
  have HR := Lib.hid hr
  have HS := Lib.hid s1
  have HNX := Lib.hid hnx
  have HDn := Lib.hid hDn
  have hinv0 : InvL n (meetL n is l []).1 (meetL n is l []).2 := meetL_inv hn is ⟨by simp, by simp, by simp⟩
  have HI0 := Lib.hid hinv0
  clear hinv0 hW1 t1 s1 b0 b1 hlt hRg hN hAF hA hP hPF hst hnx E hm hr hB hDn hDi
  go_enter Tryz.func59, Tryz.ntmps59
  go_wp2_with fail
  rw [HR.out, HW1.out]
  refine HM.out.mono ?_
  rintro e w2 ⟨rfl, F2, V2, hRg2, t2, f2, mv2⟩
  have hrr := HR.out
  have hF2 : Foot w.heap.size F F2 := fun g hg => by
    rcases f2 g hg with h | h
    · exact .inl h
    · have := HS.out; exact .inr (by omega)
  have HST : Hid (∃ F' V' l' L', Rg B St k pre caps w2 r (r + 1) F' V' l' L' ∧ goL n nx (n + 1 - 0) 0 l' L' = reachL n nx is l ∧ InvL n l' L' ∧ 0 ≤ L'.length ∧ Turn F w w2 ∧ Foot w.heap.size F F' ∧ (∀ g, V'.ownBlock = some g → w.heap.size ≤ g)) :=
    Lib.hid ⟨F2, V2, _, _, hRg2, rfl, HI0.out, Nat.zero_le _, (HT1.out.more (G := F) (by simp)).trans t2 (fun g hg => by
      simp at hg
      rcases hg with rfl | hg | hg
      · exact .inr (by omega)
      · cases hg
      · exact .inl hg), hF2, fun g hg => by
      rcases mv2 with h | ⟨g', h1, h2⟩
      · rw [h] at hg; cases hg
      · rw [hg] at h1
        injection h1 with h1
        have := HS.out
        omega⟩
  clear hRg2 t2 f2 mv2 hF2 HM hrr
  go_wp2_with fail
  go_loopw [9] (fun tk wr => ∃ q : Nat, q ≤ n ∧ tk = .int .i64 (q : Int) ∧ Hid (∃ F' V' l' L', Rg B St k pre caps wr r (r + 1) F' V' l' L' ∧ goL n nx (n + 1 - q) q l' L' = reachL n nx is l ∧ InvL n l' L' ∧ q ≤ L'.length ∧ Turn F w wr ∧ Foot w.heap.size F F' ∧ (∀ g, V'.ownBlock = some g → w.heap.size ≤ g))) (fun tk _ => n - (intOf tk).toNat)
  case atStart => exact ⟨0, Nat.zero_le _, rfl, HST⟩
  case round =>
    obtain ⟨q, hq, rfl, HQ⟩ := hrel
    obtain ⟨F', V', l', L', hR, hgo, hinv, hqL, hT, hF, hV⟩ := HQ.out
    obtain ⟨A1, c1, hv1, hints, hcc⟩ := hR.own.form
    subst hv1
    have cf : wr.cell? ⟨r + 1, 0, none⟩ = some (.slice A1 L'.length c1) := cell_of_row wr (r + 1) 0 _ _ _ hR.blk
    have hLn : L'.length ≤ n := nodup_le n L' hinv.nd hinv.lo
    obtain ⟨N, hNL⟩ : ∃ N, L'.length = N := ⟨_, rfl⟩
    rw [hNL] at cf hcc hqL hLn
    by_cases hlt : q < N
    · obtain ⟨i, hi⟩ := at_lt (show q < L'.length by omega)
      obtain ⟨i0, i1⟩ := hinv.lo i (List.mem_of_getElem? hi)
      obtain ⟨j, rfl⟩ := Int.eq_ofNat_of_zero_le i0
      obtain ⟨b, off, rfl, hb, hc⟩ := hints q _ hi
      have d1 : decide ((q : Int) < (N : Int)) = true := by simp; omega
      have d2 : (q : Int) < (N : Int) := by omega
      have HC := Lib.hid (HN.out wr F' l' j hR.st (by omega))
      have HJN : Hid (j < n) := Lib.hid (by omega)
      have HX := Lib.hid (And.intro hgo (And.intro hinv (And.intro hT (And.intro hF hV))))
      have HRg := Lib.hid hR
      have HI := Lib.hid (And.intro hi hNL)
      clear hR hgo hinv hT hF hV hints hi hNL i0 i1 HQ
      go_wp2_with fail
      refine HC.out.mono ?_
      rintro e w3 ⟨U, rfl, hU, t3⟩
      obtain ⟨PU, cU, hUe, hUc, _⟩ := id hU
      subst hUe
      obtain ⟨_, hUi, hUb⟩ := rdn_ints hU
      have HRg3 := HRg.out.turn HE.out t3
      obtain ⟨hgo, hinv, hT, hF, hV⟩ := HX.out
      have hwr := hT.size
      have hrr := HR.out
      have HM3 := Lib.hid (meet_any HE.out PU (nx j).length cU (ofN (nx j)) r (r + 1) w3 F' _ l' L' HRg3 hUi (by simp [ofN]) (fun b' off' e' hpos => by
        obtain ⟨a1, a2⟩ := hUb b' off' e' (by simpa [ofN] using hpos)
        have a3 := HA.out b' a1
        refine ⟨fun h => HAF.out wr F' l' HRg.out.st b' h a1, by omega, fun h => ?_, a2⟩
        have := hV b' h
        omega) (by have := HNX.out j; have := HI.out.2; simp [ofN]; omega) (fun i hi => by
        unfold ofN at hi
        obtain ⟨a, ha, rfl⟩ := List.mem_map.1 hi
        exact HDn.out j HJN.out a ha))
      have HT3 := Lib.hid t3
      clear hU hUi hUb HRg3 hgo hinv hT hF hV t3 HC hUc hwr hrr
      obtain ⟨mU, hmU⟩ : ∃ mU, (nx j).length = mU := ⟨_, rfl⟩
      rw [hmU] at HM3 ⊢
      clear hmU
      go_wp2_with fail
      refine HM3.out.mono ?_
      rintro e w4 ⟨rfl, F4, V4, hR4, t4, f4, mv4⟩
      obtain ⟨hgo, hinv, hT, hF, hV⟩ := HX.out
      have HNX4 : Hid (∃ F' V' l' L', Rg B St k pre caps w4 r (r + 1) F' V' l' L' ∧ goL n nx (n + 1 - (q + 1)) (q + 1) l' L' = reachL n nx is l ∧ InvL n l' L' ∧ q + 1 ≤ L'.length ∧ Turn F w w4 ∧ Foot w.heap.size F F' ∧ (∀ g, V'.ownBlock = some g → w.heap.size ≤ g)) := by
        refine Lib.hid ⟨F4, V4, _, _, hR4, ?_, meetL_inv hn _ hinv, ?_, ?_, ?_, ?_⟩
        · rw [← hgo, show n + 1 - q = (n + 1 - (q + 1)) + 1 by omega, goL_some HI.out.1, Int.toNat_natCast]
        · have := meetL_len n (ofN (nx j)) l' L'
          have := HI.out.2
          omega
        · refine (hT.trans' HT3.out).trans t4 (fun g hg => ?_)
          simp at hg
          rcases hg with rfl | hg | hg
          · exact .inr (by have := HR.out; omega)
          · exact .inr (hV g hg)
          · exact hF g hg
        · refine hF.trans f4 ?_
          have := HT3.out.size
          have := hT.size
          omega
        · intro g hg
          rcases mv4 with h | ⟨g', h1, h2⟩
          · exact hV g (by rw [← h]; exact hg)
          · rw [hg] at h1
            injection h1 with h1
            have := HT3.out.size
            have := hT.size
            omega
      clear hR4 t4 f4 mv4 hgo hinv hT hF hV HX HM3
      go_wp2_with fail
      go_roundw
      case rel => exact ⟨q + 1, by omega, by go_num, HNX4⟩
      case measure => simp [intOf]; omega
    · have d1 : decide ((q : Int) < (N : Int)) = false := by simp; omega
      have d2 : ¬ (q : Int) < (N : Int) := by omega
      have HX := Lib.hid (And.intro hR (And.intro hgo (And.intro hT (And.intro hF hV))))
      have HNL := Lib.hid hNL
      clear hR hgo hinv hT hF hV hints hNL HQ
      go_wp2_with fail
      go_ret
      obtain ⟨hR, hgo, hT, hF, hV⟩ := HX.out
      rw [goL_none (by rw [HNL.out]; omega)] at hgo
      refine ⟨F', _, rfl, ?_, ?_, ?_, hT, hF⟩
      · rw [← hgo, ← HNL.out]; exact hR.own
      · rw [← HNL.out]; exact hV
      · rw [← hgo]; exact hR.st
end Go.Proofs.YtbocejiclellfaaGreatDoor

/- Above. -/
set_option linter.unusedSimpArgs false
set_option linter.unusedVariables false
set_option maxRecDepth 100000
namespace Go.Proofs.YtbocejiclellfaaGreatDoor
open Go.RowKit

theorem fldE0 (a : ByteArray) (b : Bool) (c : Int) (P : Option Addr) (n q : Nat) (w : World) : (Instr.field 100 (.agg #[.string a, .bool b, .int .i64 c, .slice P n q]) 0).run Tryz.prog w = .ok (.string a) w := by kernel_rfl
theorem fldE1 (a : ByteArray) (b : Bool) (c : Int) (P : Option Addr) (n q : Nat) (w : World) : (Instr.field 100 (.agg #[.string a, .bool b, .int .i64 c, .slice P n q]) 1).run Tryz.prog w = .ok (.bool b) w := by kernel_rfl
theorem fldE2 (a : ByteArray) (b : Bool) (c : Int) (P : Option Addr) (n q : Nat) (w : World) : (Instr.field 100 (.agg #[.string a, .bool b, .int .i64 c, .slice P n q]) 2).run Tryz.prog w = .ok (.int .i64 c) w := by kernel_rfl
theorem fldE3 (a : ByteArray) (b : Bool) (c : Int) (P : Option Addr) (n q : Nat) (w : World) : (Instr.field 100 (.agg #[.string a, .bool b, .int .i64 c, .slice P n q]) 3).run Tryz.prog w = .ok (.slice P n q) w := by kernel_rfl
attribute [local go_sem] fldE0 fldE1 fldE2 fldE3
theorem stepL_put {n : Nat} {l : List Int} {i : Int} (h : 0 ≤ i ∧ i < (n : Int)) : stepL n l i = putL l i := by
  unfold stepL
  cases hm : mayB n l i with
  | true => rfl
  | false =>
    simp only [Bool.false_eq_true, if_false]
    unfold mayB at hm
    rw [show decide (0 ≤ i ∧ i < (n : Int)) = true by simpa using h, Bool.true_and] at hm
    rw [putL_no (by rw [hm]; simp)]
/-- What the functions that Above makes read: a table's pointer at xb, a wide set at wb. -/
structure StA (A : Nat → Prop) (B xb t : Nat) (M V : Value) (Es : List En) (wb : Nat) (w : World) (F : List Nat) (l : List Int) : Prop where
  wd : Wd w wb F l
  px : w.cell? ⟨xb, 0, none⟩ = some (.pointer (some ⟨t, 0, none⟩))
  xl : xb < w.heap.size
  tl : Tl w A t M V Es
  fB : ∀ g ∈ F, B ≤ g
  xB : xb < B
  tB : t < B
  aB : ∀ g, A g → g < B
  wB : B ≤ w.heap.size
theorem StA.turn {A : Nat → Prop} {B xb t : Nat} {M V : Value} {Es : List En} {wb : Nat} {w w' : World} {F G : List Nat} {l : List Int} (h : StA A B xb t M V Es wb w F l) (k : Turn G w w') (hG : ∀ g ∈ G, g ∉ F ∧ B ≤ g) : StA A B xb t M V Es wb w' F l :=
  ⟨h.wd.turn k (fun g hg => (hG g hg).1), (k.cell (p := ⟨xb, 0, none⟩) h.xl (fun hg => by have h1 : B ≤ xb := (hG _ hg).2; have := h.xB; omega)).trans h.px, Nat.lt_of_lt_of_le h.xl k.size,
    h.tl.turn k (fun hg => by have := (hG _ hg).2; have := h.tB; omega) (fun g hg ha => by have := (hG g hg).2; have := h.aB g ha; omega), h.fB, h.xB, h.tB, h.aB, Nat.le_trans h.wB k.size⟩

set_option maxHeartbeats 3200000 in
theorem above1_any {A : Nat → Prop} {B xb t : Nat} {M V : Value} {Es : List En} {wb : Nat} {w : World} {F : List Nat} {l : List Int} (i : Int) (h : StA A B xb t M V Es wb w F l) :
    Calls Tryz.prog 66 #[.int .i64 i, .pointer (some ⟨xb, 0, none⟩), .pointer (some ⟨wb, 0, none⟩)] w fun e w' => e = .returned (.bool (mayB Es.length l i)) ∧ ∃ F', StA A B xb t M V Es wb w' F' (stepL Es.length l i) ∧ Turn F w w' ∧ Foot w.heap.size F F' := by
  have c1 := h.px
  have HS := Lib.hid h
  have HH := Lib.hid (has_any8 h.tl i)
  obtain ⟨n, hn⟩ : ∃ n, Es.length = n := ⟨_, rfl⟩
  have hle := h.tl.len
  rw [hn] at HH hle ⊢
  have HN := Lib.hid hn
  clear hn h
  by_cases hr : 0 ≤ i ∧ i < (n : Int)
  · obtain ⟨j, rfl⟩ := Int.eq_ofNat_of_zero_le hr.1
    have HW := Lib.hid (wadd_any wb F l j (by omega) w HS.out.wd)
    have d : decide (0 ≤ (j : Int) ∧ (j : Int) < (n : Int)) = true := decide_eq_true hr
    have HR := Lib.hid hr
    clear hr
    rw [d] at HH
    go_enter Tryz.func66, Tryz.ntmps66
    go_wp2_with fail
    refine HH.out.mono ?_
    rintro e w1 ⟨rfl, rfl⟩
    go_wp2_with fail
    refine HW.out.mono ?_
    rintro e w2 ⟨rfl, F', hw', t', f'⟩
    go_wp2_with fail
    go_ret
    have hS := HS.out
    refine ⟨ret_bool (by unfold mayB; rw [d]; rfl), F', ?_, t', f'⟩
    rw [stepL_put HR.out]
    refine ⟨hw', (t'.cell (p := ⟨xb, 0, none⟩) hS.xl (fun hg => by have h1 : B ≤ xb := hS.fB _ hg; have := hS.xB; omega)).trans hS.px, Nat.lt_of_lt_of_le hS.xl t'.size,
      hS.tl.turn t' (fun hg => by have := hS.fB _ hg; have := hS.tB; omega) (fun g hg ha => by have := hS.fB g hg; have := hS.aB g ha; omega), ?_, hS.xB, hS.tB, hS.aB, Nat.le_trans hS.wB t'.size⟩
    intro g hg
    rcases f' g hg with h | h
    · exact hS.fB g h
    · have := hS.wB; omega
  · have d : decide (0 ≤ i ∧ i < (n : Int)) = false := decide_eq_false hr
    have hm : mayB n l i = false := by unfold mayB; rw [d]; rfl
    have HM := Lib.hid hm
    rw [d] at HH
    clear hr hm
    go_enter Tryz.func66, Tryz.ntmps66
    go_wp2_with fail
    refine HH.out.mono ?_
    rintro e w1 ⟨rfl, rfl⟩
    go_wp2_with fail
    go_ret
    refine ⟨ret_bool HM.out.symm, F, ?_, Turn.refl _ _, Foot.refl _ _⟩
    unfold stepL
    rw [HM.out]
    exact HS.out
theorem entA {A : Nat → Prop} {B xb t : Nat} {M V : Value} {Es : List En} {wb : Nat} : Ent (fun _ => True) B Es.length 66 [] [.pointer (some ⟨xb, 0, none⟩), .pointer (some ⟨wb, 0, none⟩)] (StA A B xb t M V Es wb) where
  turn h k hG := h.turn k hG
  lt h := h.wd.lt.2
  enters := enters_of Tryz.func66 (by kernel_rfl) rfl
  call i _ h := above1_any i h

set_option maxHeartbeats 3200000 in
theorem above2_any {A : Nat → Prop} {B xb t : Nat} {M V : Value} {Es : List En} {wb : Nat} {w : World} {F : List Nat} {l : List Int} (i : Nat) (h : StA A B xb t M V Es wb w F l) :
    Calls Tryz.prog 68 #[.int .i64 (i : Int), .pointer (some ⟨xb, 0, none⟩)] w fun e w' => ∃ U, e = .returned U ∧ RdV 1 RdN A w' U (enAt Es i).rt ∧ Turn [] w w' := by
  have c1 := h.px
  have HE := Lib.hid (entry_any8 h.tl (i : Int))
  obtain ⟨x, hx⟩ : ∃ x, enAt Es (i : Int) = x := ⟨_, rfl⟩
  rw [hx] at HE ⊢
  obtain ⟨nm, face, sup, rt⟩ := x
  clear h hx
  go_enter Tryz.func68, Tryz.ntmps68
  go_wp2_with fail
  refine HE.out.mono ?_
  rintro e w1 ⟨U, rfl, hU, t1⟩
  obtain ⟨PU, cU, rfl, _, _⟩ := id hU
  have HU := Lib.hid (And.intro hU t1)
  clear hU t1
  go_wp2_with fail
  go_ret
  exact ⟨_, rfl, HU.out.1, HU.out.2⟩

/-- A wide set's numbers are in their order, and below 2^20. -/
theorem Wd.sd {w : World} {b : Nat} {F : List Nat} {l : List Int} (h : Wd w b F l) : Sd l ∧ ∀ y ∈ l, 0 ≤ y ∧ y < 1048576 := by
  rcases h with ⟨_, rfl, _⟩ | ⟨g, c, sb, v, rs, _, _, _, h4, rfl, _⟩
  · exact ⟨List.Pairwise.nil, by simp⟩
  · refine ⟨sd_nums h4.ok.asc, fun y hy => ?_⟩
    obtain ⟨m, hm, _, rfl⟩ := (mem_nums h4.ok y).1 hy
    omega
set_option maxHeartbeats 6400000 in
theorem wlist_any (b : Nat) (F : List Nat) (l : List Int) (w : World) (h : Wd w b F l) (hT : Tab w) :
    Calls Tryz.prog 69 #[.pointer (some ⟨b, 0, none⟩)] w fun e w' => ∃ V, e = .returned V ∧ OwnI w' w.heap.size V l ∧ Turn [] w w' := by
  have hsd := h.sd
  rcases h with ⟨hb, rfl, _⟩ | ⟨g, c, sb, v, rs, hb, hg, hc, hs, rfl, _⟩
  · have c0 : w.cell? ⟨b, 0, none⟩ = some (.slice none 0 0) := cell_of_row w b 0 _ _ _ hb
    clear hb hT
    go_enter Tryz.func69, Tryz.ntmps69
    go_wp2_with fail
    go_loopw [3, 13] (fun v3 v13 wr => v3 = .slice none 0 0 ∧ v13 = .int .i64 0 ∧ w = wr) (fun _ _ _ => 0)
    case atStart => exact ⟨rfl, rfl, rfl⟩
    case round =>
      obtain ⟨rfl, rfl, rfl⟩ := hrel
      go_wp2_with fail
      go_ret
      exact ⟨_, rfl, OwnI.nil _ _, Turn.refl _ _⟩
  · have c0 : w.cell? ⟨b, 0, none⟩ = some (.slice (some ⟨g, 0, none⟩) 1 c) := cell_of_row w b 0 _ _ _ hb
    have HL := Lib.hid (list_any (.pointer (some ⟨sb, 0, none⟩)) v rs w (.inr ⟨sb, rfl, hs⟩) hT)
    obtain ⟨l, hl⟩ : ∃ l, nums rs = l := ⟨_, rfl⟩
    have hlen : l.length ≤ 1048576 := by rw [← hl, nums_length]; exact hs.ok.total
    rw [hl] at HL hsd ⊢
    have HSD := Lib.hid hsd
    obtain ⟨r, hr⟩ : ∃ r, w.heap.size = r := ⟨_, rfl⟩
    rw [hr] at HL ⊢
    have HR := Lib.hid hr
    clear hb hs hT hl hsd hr
    go_enter Tryz.func69, Tryz.ntmps69
    go_wp2_with fail
    go_loopw [3, 13] (fun v3 v13 wr => (v3 = .slice none 0 0 ∧ v13 = .int .i64 0 ∧ w = wr) ∨ (v13 = .int .i64 1 ∧ Hid (OwnI wr r v3 l ∧ Turn [] w wr))) (fun _ v13 _ => 1 - (intOf v13).toNat)
    case atStart => exact .inl ⟨rfl, rfl, rfl⟩
    case round =>
      rcases hrel with ⟨rfl, rfl, rfl⟩ | ⟨rfl, HO⟩
      · have e0 : w.cell? ⟨g, 0, none⟩ = some (.pointer (some ⟨sb, 0, none⟩)) := hc
        go_wp2_with fail
        refine HL.out.mono ?_
        rintro e w1 ⟨V1, rfl, hV1, t1⟩
        obtain ⟨A1, c1, rfl, hints, hcc⟩ := hV1.form
        obtain ⟨N, hN⟩ : ∃ N, l.length = N := ⟨_, rfl⟩
        have HI := Lib.hid hints
        have HT1 := Lib.hid t1
        have HN := Lib.hid hN
        rw [hN] at hcc hlen ⊢
        clear hV1 hints t1 hN HL
        go_wp2_with fail
        obtain ⟨r1, hr1⟩ : ∃ r1, w1.heap.size = r1 := ⟨_, rfl⟩
        have HR1 := Lib.hid hr1
        clear hr1
        go_loopw [3, 21] (fun v3 v21 wr => ∃ q : Nat, q ≤ N ∧ v21 = .int .i64 (q : Int) ∧ Hid (OwnI wr r1 v3 (l.take q) ∧ Turn [] w1 wr)) (fun _ v21 _ => N - (intOf v21).toNat)
        case atStart => exact ⟨0, Nat.zero_le _, rfl, Lib.hid ⟨OwnI.nil _ _, Turn.refl _ _⟩⟩
        case round =>
          obtain ⟨q, hq, rfl, HO⟩ := hrel
          by_cases hlt : q < N
          · obtain ⟨y, hy⟩ := at_lt (show q < l.length by have := HN.out; omega)
            obtain ⟨b', off, rfl, hb', hcy⟩ := HI.out q y hy
            obtain ⟨y0, y1⟩ := HSD.out.2 y (List.mem_of_getElem? hy)
            have cy : wr.cell? ⟨b', off + q, none⟩ = some (.int .i64 y) := (HO.out.2.cell (p := ⟨b', off + q, none⟩) hb' (by simp)).trans hcy
            have d1 : decide ((q : Int) < (N : Int)) = true := by simp; omega
            have d2 : (q : Int) < (N : Int) := by omega
            have w1 : IntKind.i64.wrap y = y := wrap_small y y0 (by omega)
            have w2 : wrap64 y = y := by unfold wrap64; omega
            have hlq : (l.take q).length ≤ 10000000 := by rw [List.length_take]; omega
            have HY := Lib.hid hy
            have hro : r1 ≤ wr.heap.size := by have := HO.out.2.size; have := HR1.out; omega
            clear hy hcy
            go_wp2_with (at_builtin
                         refine wpList_app1' rfl (.tmp 25) (.tmp 30) rfl wr r1 u3 (l.take q) y 1 rfl HO.out.1 rfl hlq hro ?_
                         intro v6 w6 ho6 ht6 hm6
                         have HO6 := Lib.hid (And.intro ho6 (And.intro ht6 hm6))
                         clear ho6 ht6 hm6)
            go_roundw
            case rel =>
              refine ⟨q + 1, by omega, by go_num, Lib.hid ⟨?_, ?_⟩⟩
              · rw [take_snoc HY.out]; exact HO6.out.1
              · refine HO.out.2.trans HO6.out.2.1 (fun x hx => .inr ?_)
                have := (HO.out.1.lt x (Option.mem_toList.1 hx)).1
                have := HR1.out
                omega
            case measure => simp [intOf]; omega
          · obtain rfl : q = N := by omega
            have d1 : decide ((q : Int) < (q : Int)) = false := by simp
            have HO2 := HO.out
            rw [List.take_of_length_le (by rw [HN.out]; exact Nat.le_refl _)] at HO2
            have HO3 : Hid (OwnI wr r u3 l ∧ Turn [] w wr) := Lib.hid ⟨HO2.1.mono (by have := HT1.out.size; have := HR.out; have := HR1.out; omega), HT1.out.trans' HO2.2⟩
            clear HO2 HO
            go_wp2_with fail
            go_roundw
            case rel => exact .inr ⟨by go_num, HO3⟩
            case measure => simp [intOf]
      · obtain ⟨A1, c1, hv, _, _⟩ := HO.out.1.form
        subst hv
        go_wp2_with fail
        go_ret
        exact ⟨_, rfl, HO.out.1, HO.out.2⟩
end Go.Proofs.YtbocejiclellfaaGreatDoor

/- Above, whole. -/
set_option linter.unusedSimpArgs false
set_option linter.unusedVariables false
set_option maxRecDepth 100000
namespace Go.Proofs.YtbocejiclellfaaGreatDoor
open Go.RowKit

def nxE (Es : List En) (i : Nat) : List Nat := (enAt Es (i : Int)).rt
/-- What Above answers. -/
def abvL (Es : List En) (is : List Int) : List Int := (reachL Es.length (nxE Es) is []).1

set_option maxHeartbeats 6400000 in
theorem above_any {A : Nat → Prop} {t : Nat} {M V : Value} {Es : List En} {w : World} (h : Tl w A t M V Es) (hrt : ∀ i, (nxE Es i).length ≤ 1000000) (hT : Tab w) (P : Option Addr) (m c : Nat) (is : List Int) (hP : Ints w P is) (hm : m = is.length) (hm2 : m ≤ 1000000) :
    Calls Tryz.prog 42 #[.pointer (some ⟨t, 0, none⟩), .slice P m c] w fun e w' => ∃ U, e = .returned U ∧ OwnI w' w.heap.size U (abvL Es is) ∧ Turn [] w w' := by
  have hmf : ∀ (fn : Fn) (first cap : Array Value) (w : World), (Instr.makeFunc fn first cap).run Tryz.prog w = .ok (.func fn first cap) w := fun _ _ _ _ => rfl
  obtain ⟨r, hr⟩ : ∃ r, w.heap.size = r := ⟨_, rfl⟩
  have htr : t < r := by rw [← hr]; exact (Array.getElem?_eq_some_iff.1 h.blk).1
  obtain ⟨W1, hW1⟩ : ∃ W, (w.alloc (.cells #[.pointer (some ⟨t, 0, none⟩)] 60)).alloc (.cells #[.slice none 0 0] 110) = W := ⟨_, rfl⟩
  have t1 : Turn [] w W1 := by rw [← hW1]; exact ((Turn.refl [] w).alloc _).alloc _
  have s1 : W1.heap.size = r + 2 := by rw [← hW1, ← hr]; simp
  have b0 : W1.heap[r]? = some (.cells #[.pointer (some ⟨t, 0, none⟩)] 60 (0, 0)) := by rw [← hW1, ← hr]; exact ((Turn.refl [] _).alloc _).heap (heap_alloc_new w _) (by simp)
  have b1 : W1.heap[r + 1]? = some (.cells #[.slice none 0 0] 110 (0, 0)) := by
    rw [← hW1, ← hr]
    have := heap_alloc_new (w.alloc (.cells #[.pointer (some ⟨t, 0, none⟩)] 60)) (.cells #[.slice none 0 0] 110)
    rwa [World.size_alloc] at this
  have hst : StA (fun g => A g ∧ g < r) (r + 1) r t M V Es (r + 1) W1 [r + 1] [] :=
    ⟨.inl ⟨b1, rfl, rfl⟩, cell_of_row W1 r 0 _ _ _ b0, by omega, (Tl.below h hr).turn' t1, by simp, by omega, by omega, fun g hg => by have := hg.2; omega, by omega⟩
  have HC := Lib.hid (reach_any (B := r + 1) (n := Es.length) (k := 66) (kn := 68) (pre := []) (caps := [.pointer (some ⟨r, 0, none⟩), .pointer (some ⟨r + 1, 0, none⟩)]) (capn := [.pointer (some ⟨r, 0, none⟩)]) entA (nxE Es) (fun g => A g ∧ g < r) h.len hrt (fun _ _ _ _ => trivial)
    (enters_of Tryz.func68 (by kernel_rfl) rfl) (fun W F l i hs hi => above2_any i hs) (fun W F l hs g hg ha => by have := hs.fB g hg; have := ha.2; omega)
    P m c is W1 [r + 1] [] hst (by omega) (fun g hg => by have := hg.2; omega) (hP.below t1) hm hm2 (fun _ _ => trivial) (fun b off e h0 => by
      obtain ⟨x, hx⟩ := at_lt h0
      obtain ⟨b', off', e', hb', _⟩ := hP 0 x hx
      rw [e] at e'
      injection e' with e'
      injection e' with e' _
      subst e'
      exact ⟨by simp; omega, by omega⟩))
  have HW1 := Lib.hid hW1
  have HT1 := Lib.hid t1
  have HR := Lib.hid hr
  have HTab := Lib.hid hT
  have HS := Lib.hid s1
  clear hW1 t1 s1 b0 b1 hst h hrt hT hP hm htr hr
  go_enter Tryz.func42, Tryz.ntmps42
  go_wp2_with fail
  rw [HR.out, HW1.out]
  refine HC.out.mono ?_
  rintro e w2 ⟨F', V2, rfl, hV2, hVn, hst2, t2, f2⟩
  have hrr := HR.out
  have hss := HS.out
  have hT2 : Turn [] w w2 := (HT1.out.more (G := [r + 1]) (by simp)).trans t2 (fun g hg => .inl hg) |>.more (by simp; omega)
  have HL := Lib.hid (wlist_any (r + 1) F' _ w2 hst2.wd (HTab.out.turn hT2 (by simp)))
  have HT2 := Lib.hid hT2
  have HZ := Lib.hid hT2.size
  obtain ⟨A2, c2, rfl, _, _⟩ := hV2.form
  clear hst2 t2 f2 hT2 hV2 hVn hrr hss HC
  go_wp2_with fail
  refine HL.out.mono ?_
  rintro e w3 ⟨U, rfl, hU, t3⟩
  obtain ⟨A3, c3, rfl, _, _⟩ := hU.form
  have HU := Lib.hid (And.intro hU t3)
  clear hU t3
  go_wp2_with fail
  go_ret
  refine ⟨_, rfl, HU.out.1.mono HZ.out, HT2.out.trans' HU.out.2⟩
end Go.Proofs.YtbocejiclellfaaGreatDoor

/- slices.Index, Contains, Min of ints; aboveItself. -/
set_option linter.unusedSimpArgs false
set_option linter.unusedVariables false
set_option maxRecDepth 100000
namespace Go.Proofs.YtbocejiclellfaaGreatDoor
open Go.RowKit
attribute [local go_sem] fldE0 fldE1 fldE2 fldE3
set_option maxHeartbeats 3200000 in
theorem index_any (P : Option Addr) (m c : Nat) (l : List Int) (v : Int) (w : World) (h : Ints w P l) (hm : m = l.length) (hb : m ≤ 1000000) :
    Calls Tryz.prog 88 #[.slice P m c, .int .i64 v] w fun e w' => (∃ j : Int, e = .returned (.int .i64 j) ∧ decide (0 ≤ j) = decide (v ∈ l)) ∧ w = w' := by
  have H := Lib.hid h
  have HM := Lib.hid hm
  clear h hm
  obtain ⟨Q, hQ⟩ : ∃ Q : Bool, decide (v ∈ l) = Q := ⟨_, rfl⟩
  rw [hQ]
  have HQ := Lib.hid hQ
  clear hQ
  go_enter Tryz.func88, Tryz.ntmps88
  go_wp2_with fail
  go_loop [8] (fun i => ∃ k : Nat, k ≤ m ∧ i = .int .i64 (k : Int) ∧ Hid (v ∉ l.take k)) (fun i => m - (intOf i).toNat)
  case atStart => exact ⟨0, Nat.zero_le _, rfl, Lib.hid (by simp)⟩
  case round =>
    obtain ⟨k, hk, rfl, HK⟩ := hrel
    by_cases hlt : k < m
    · obtain ⟨x, hx⟩ := at_lt (show k < l.length by have := HM.out; omega)
      obtain ⟨b, off, rfl, hbl, hc⟩ := H.out k x hx
      have d1 : decide ((k : Int) < (m : Int)) = true := by simp; omega
      have d2 : (k : Int) < (m : Int) := by omega
      by_cases hv : v = x
      · subst hv
        have d3 : (v == v) = true := by simp
        have HE : Hid (decide ((0 : Int) ≤ (k : Int)) = Q) := Lib.hid (by rw [← HQ.out, decide_eq_true (List.mem_of_getElem? hx)]; simp)
        clear hx
        go_wp2_with fail
        go_ret
        exact ⟨⟨_, rfl, HE.out⟩, rfl⟩
      · have d3 : (v == x) = false := by simpa using hv
        have d4 : decide (v = x) = false := by simpa using hv
        have HN : Hid (v ∉ l.take (k + 1)) := Lib.hid (by rw [take_snoc hx]; simp; exact ⟨HK.out, hv⟩)
        clear hx
        go_wp2_with fail
        go_round
        case rel => exact ⟨k + 1, by omega, by go_num, HN⟩
        case measure => simp [intOf]; omega
    · have d1 : decide ((k : Int) < (m : Int)) = false := by simp; omega
      have d2 : ¬ (k : Int) < (m : Int) := by omega
      have HE : Hid (decide ((0 : Int) ≤ -1) = Q) := Lib.hid (by
        have h2 := HK.out
        rw [List.take_of_length_le (by have := HM.out; omega)] at h2
        rw [← HQ.out, decide_eq_false h2]
        rfl)
      go_wp2_with fail
      go_ret
      exact ⟨⟨_, rfl, HE.out⟩, rfl⟩
set_option maxHeartbeats 1600000 in
theorem contains_any (P : Option Addr) (m c : Nat) (l : List Int) (v : Int) (w : World) (h : Ints w P l) (hm : m = l.length) (hb : m ≤ 1000000) :
    Calls Tryz.prog 79 #[.slice P m c, .int .i64 v] w fun e w' => e = .returned (.bool (decide (v ∈ l))) ∧ w = w' := by
  have HI := Lib.hid (index_any P m c l v w h hm hb)
  obtain ⟨Q, hQ⟩ : ∃ Q : Bool, decide (v ∈ l) = Q := ⟨_, rfl⟩
  rw [hQ] at HI ⊢
  clear h hm hQ
  go_enter Tryz.func79, Tryz.ntmps79
  go_wp2_with fail
  refine HI.out.mono ?_
  rintro e w1 ⟨⟨j, rfl, hj⟩, rfl⟩
  have HJ := Lib.hid hj
  clear hj
  go_wp2_with fail
  go_ret
  exact ⟨ret_bool HJ.out, rfl⟩
set_option maxHeartbeats 1600000 in
theorem aboveItself_any {A : Nat → Prop} {t : Nat} {M V : Value} {Es : List En} {w : World} (h : Tl w A t M V Es) (hrt : ∀ i, (nxE Es i).length ≤ 1000000) (i : Nat) :
    Calls Tryz.prog 61 #[.pointer (some ⟨t, 0, none⟩), .int .i64 (i : Int)] w fun e w' => e = .returned (.bool (decide (i ∈ nxE Es i))) ∧ Turn [] w w' := by
  have HE := Lib.hid (entry_any8 h (i : Int))
  have hr := hrt i
  obtain ⟨x, hx⟩ : ∃ x, enAt Es (i : Int) = x := ⟨_, rfl⟩
  have hnx : nxE Es i = x.rt := by unfold nxE; rw [hx]
  rw [hx] at HE
  rw [hnx] at hr ⊢
  obtain ⟨nm, face, sup, rt⟩ := x
  simp only at HE hr ⊢
  obtain ⟨Q, hQ⟩ : ∃ Q : Bool, decide (i ∈ rt) = Q := ⟨_, rfl⟩
  rw [hQ]
  have HQ := Lib.hid hQ
  clear h hx hnx hQ hrt
  go_enter Tryz.func61, Tryz.ntmps61
  go_wp2_with fail
  refine HE.out.mono ?_
  rintro e w1 ⟨U, rfl, hU, t1⟩
  obtain ⟨P, c, rfl, _, _⟩ := id hU
  obtain ⟨_, hUi, _⟩ := rdn_ints hU
  have HC := Lib.hid (contains_any P rt.length c (ofN rt) (i : Int) w1 hUi (by simp [ofN]) hr)
  have HT := Lib.hid t1
  have HB : Hid (decide ((i : Int) ∈ ofN rt) = Q) := Lib.hid (by
    rw [← HQ.out]
    congr 1
    unfold ofN
    simp
    constructor
    · rintro ⟨a, ha, e⟩
      obtain rfl : a = i := by omega
      exact ha
    · exact fun hh => ⟨i, hh, rfl⟩)
  obtain ⟨m, hm⟩ : ∃ m, rt.length = m := ⟨_, rfl⟩
  rw [hm] at HC ⊢
  rw [HB.out] at HC
  clear hU hUi t1 hm
  go_wp2_with fail
  refine HC.out.mono ?_
  rintro e w2 ⟨rfl, rfl⟩
  go_wp2_with fail
  go_ret
  exact ⟨rfl, HT.out⟩
set_option maxHeartbeats 3200000 in
theorem min_any (P : Option Addr) (m c : Nat) (l : List Int) (w : World) (h : Ints w P l) (hm : m = l.length) (h0 : 0 < m) (hb : m ≤ 1000000) :
    Calls Tryz.prog 62 #[.slice P m c] w fun e w' => (∃ x : Int, e = .returned (.int .i64 x) ∧ x ∈ l ∧ ∀ y ∈ l, x ≤ y) ∧ w = w' := by
  have H := Lib.hid h
  have HM := Lib.hid hm
  obtain ⟨x0, hx0⟩ := at_lt (show 0 < l.length by omega)
  obtain ⟨b, off, rfl, hbl, hc⟩ := h 0 x0 hx0
  have hc0 : w.cell? ⟨b, off, none⟩ = some (.int .i64 x0) := hc
  have HX0 := Lib.hid hx0
  have d0 : decide ((m : Int) < 1) = false := by simp; omega
  have d0' : ¬ (m : Int) < 1 := by omega
  have d0'' : (0 : Int) < (m : Int) := by omega
  clear h hm hx0 hc
  go_enter Tryz.func62, Tryz.ntmps62
  go_wp2_with fail
  go_loop [3, 4] (fun x i => ∃ (k : Nat) (y : Int), 1 ≤ k ∧ k ≤ m ∧ i = .int .i64 (k : Int) ∧ x = .int .i64 y ∧ Hid (y ∈ l.take k ∧ ∀ z ∈ l.take k, y ≤ z)) (fun _ i => m - (intOf i).toNat)
  case atStart =>
    refine ⟨1, x0, by omega, by omega, rfl, rfl, Lib.hid ?_⟩
    rw [show (1 : Nat) = 0 + 1 from rfl, take_snoc HX0.out]
    simp
  case round =>
    obtain ⟨k, y, hk1, hk, rfl, rfl, HK⟩ := hrel
    by_cases hlt : k < m
    · obtain ⟨z, hz⟩ := at_lt (show k < l.length by have := HM.out; omega)
      obtain ⟨b', off', e, hbl', hcz⟩ := H.out k z hz
      injection e with e
      injection e with e1 e2
      subst e1 e2
      have d1 : decide ((k : Int) < (m : Int)) = true := by simp; omega
      have d2 : (k : Int) < (m : Int) := by omega
      have HZ := Lib.hid hz
      clear hz
      by_cases hyz : y ≤ z
      · have HN : Hid (y ∈ l.take (k + 1) ∧ ∀ u ∈ l.take (k + 1), y ≤ u) := Lib.hid (by
          rw [take_snoc HZ.out]
          refine ⟨by simp [HK.out.1], fun u hu => ?_⟩
          rcases List.mem_append.1 hu with hu | hu
          · exact HK.out.2 u hu
          · simp at hu; omega)
        have e1 : min y z = y := by omega
        have e2 : decide (z < y) = false := by simp; omega
        have e3 : ¬ z < y := by omega
        go_wp2_with fail
        go_round
        case rel => exact ⟨k + 1, y, by omega, by omega, by go_num, rfl, HN⟩
        case measure => simp [intOf]; omega
      · have HN : Hid (z ∈ l.take (k + 1) ∧ ∀ u ∈ l.take (k + 1), z ≤ u) := Lib.hid (by
          rw [take_snoc HZ.out]
          refine ⟨by simp, fun u hu => ?_⟩
          rcases List.mem_append.1 hu with hu | hu
          · have := HK.out.2 u hu; omega
          · simp at hu; omega)
        have e1 : min y z = z := by omega
        have e2 : decide (z < y) = true := by simp; omega
        have e3 : z < y := by omega
        go_wp2_with fail
        go_round
        case rel => exact ⟨k + 1, z, by omega, by omega, by go_num, rfl, HN⟩
        case measure => simp [intOf]; omega
    · have d1 : decide ((k : Int) < (m : Int)) = false := by simp; omega
      have d2 : ¬ (k : Int) < (m : Int) := by omega
      have HN : Hid (y ∈ l ∧ ∀ u ∈ l, y ≤ u) := Lib.hid (by
        have h2 := HK.out
        rwa [List.take_of_length_le (by have := HM.out; omega)] at h2)
      go_wp2_with fail
      go_ret
      exact ⟨⟨y, rfl, HN.out⟩, rfl⟩
end Go.Proofs.YtbocejiclellfaaGreatDoor

/- Slices of slices of ints: those that are read, and those of the program's own making. -/
set_option linter.unusedSimpArgs false
set_option linter.unusedVariables false
set_option maxRecDepth 100000
namespace Go.Proofs.YtbocejiclellfaaGreatDoor
open Go.RowKit

/-- The slice at A reads as the list of lists of ints. -/
def RwsI (w : World) (A : Option Addr) (ls : List (List Int)) : Prop :=
  ∀ k l, ls[k]? = some l → ∃ b off A' c, A = some ⟨b, off, none⟩ ∧ b < w.heap.size ∧ w.cell? ⟨b, off + k, none⟩ = some (.slice A' l.length c) ∧ Ints w A' l
theorem RwsI.turn' {w w' : World} {A : Option Addr} {ls : List (List Int)} (h : RwsI w A ls) (t : Turn [] w w') : RwsI w' A ls := fun k l hl => by
  obtain ⟨b, off, A', c, e, hlt, hc, hi⟩ := h k l hl
  exact ⟨b, off, A', c, e, Nat.lt_of_lt_of_le hlt t.size, (t.cell (p := ⟨b, off + k, none⟩) hlt (by simp)).trans hc, hi.below t⟩

/-- The slice v is of the program's own making (from block B on), each of its slices too, all apart, and it holds the lists ls. -/
structure OwnLL (w : World) (B : Nat) (v : Value) (ls : List (List Int)) (xs : List Value) : Prop where
  row : w.ownsRow B 63 1 v xs.length xs
  len : xs.length = ls.length
  each : ∀ (k : Nat) (u : Value) (l : List Int), xs[k]? = some u → ls[k]? = some l → OwnI w B u l
  apart : ∀ (i j : Nat) (u u' : Value) (g : Nat), i ≠ j → xs[i]? = some u → xs[j]? = some u' → u.ownBlock = some g → u'.ownBlock ≠ some g
  outer : ∀ (k : Nat) (u : Value) (g : Nat), xs[k]? = some u → u.ownBlock = some g → v.ownBlock ≠ some g

section
variable {w w' : World} {B : Nat} {v : Value} {ls : List (List Int)} {xs : List Value}

theorem OwnLL.has (h : OwnLL w B v ls xs) {k : Nat} {u : Value} (hu : xs[k]? = some u) : ∃ l, ls[k]? = some l ∧ OwnI w B u l := by
  have hk : k < ls.length := by have := (List.getElem?_eq_some_iff.1 hu).1; have := h.len; omega
  exact ⟨_, List.getElem?_eq_getElem hk, h.each k u _ hu (List.getElem?_eq_getElem hk)⟩
theorem OwnLL.at (h : OwnLL w B v ls xs) {k : Nat} {l : List Int} (hl : ls[k]? = some l) : ∃ u, xs[k]? = some u ∧ OwnI w B u l := by
  have hk : k < xs.length := by have := (List.getElem?_eq_some_iff.1 hl).1; have := h.len; omega
  exact ⟨_, List.getElem?_eq_getElem hk, h.each k _ l (List.getElem?_eq_getElem hk) hl⟩
theorem OwnLL.lt (h : OwnLL w B v ls xs) {k : Nat} {u : Value} {g : Nat} (hu : xs[k]? = some u) (hg : u.ownBlock = some g) : B ≤ g ∧ g < w.heap.size := by
  obtain ⟨l, _, ho⟩ := h.has hu
  exact OwnI.lt ho g hg

theorem OwnLL.turn {F : List Nat} (h : OwnLL w B v ls xs) (t : Turn F w w') (h1 : ∀ g, v.ownBlock = some g → g ∉ F) (h2 : ∀ (k : Nat) (u : Value) (g : Nat), xs[k]? = some u → u.ownBlock = some g → g ∉ F) : OwnLL w' B v ls xs :=
  ⟨Turn.owns t h.row h1, h.len, fun k u l hu hl => (h.each k u l hu hl).turn t (fun g hg => h2 k u g hu hg), h.apart, h.outer⟩
theorem OwnLL.turn' (h : OwnLL w B v ls xs) (t : Turn [] w w') : OwnLL w' B v ls xs := h.turn t (by simp) (by simp)
/-- Blocks below B may turn. -/
theorem OwnLL.off {F : List Nat} (h : OwnLL w B v ls xs) (t : Turn F w w') (hF : ∀ g ∈ F, g < B) : OwnLL w' B v ls xs :=
  h.turn t (fun g hg hm => by have := World.ownsRow.lt h.row g hg; have := hF g hm; omega) (fun k u g hu hg hm => by have := h.lt hu hg; have := hF g hm; omega)

theorem OwnLL.nil (w : World) (B : Nat) : OwnLL w B (.slice none 0 0) [] [] :=
  ⟨World.ownsRow_nil w B 63 1, rfl, fun k u l h => by simp at h, fun i j u u' g _ h => by simp at h, fun k u g h => by simp at h⟩

theorem OwnLL.form (h : OwnLL w B v ls xs) : ∃ A c, v = .slice A ls.length c ∧ RwsI w A ls := by
  have hlen := h.len
  rcases h.row.2 with ⟨rfl, hn⟩ | ⟨g, cap, cur, rfl, hb, hg, hnc, _, _, ht⟩
  · have h0 : ls.length = 0 := by omega
    refine ⟨none, 0, by rw [h0], fun k l hl => ?_⟩
    rw [List.eq_nil_of_length_eq_zero h0] at hl
    simp at hl
  · refine ⟨some ⟨g, 0, none⟩, cap, by rw [hlen], fun k l hl => ?_⟩
    obtain ⟨u, hu, ho⟩ := h.at hl
    obtain ⟨A', c, rfl, hi, _⟩ := ho.form
    have hk : k < xs.length := (List.getElem?_eq_some_iff.1 hu).1
    have e := World.ownsRow.cellAt (cap := cap) h.row k (by omega)
    exact ⟨g, 0, A', c, rfl, (Array.getElem?_eq_some_iff.1 hg).1, by rw [Nat.zero_add, e, hu], hi⟩

theorem OwnLL.mono {B' : Nat} (h : OwnLL w B v ls xs) (hB : B' ≤ B) : OwnLL w B' v ls xs :=
  ⟨ownsRow_mono h.row hB, h.len, fun k u l hu hl => (h.each k u l hu hl).mono hB, h.apart, h.outer⟩

theorem rowI_info : (Tryz.prog.info? 63).map (fun i => (i.zero, i.size, i.bytes)) = some (some (.slice none 0 0), 1, 24) := by kernel_rfl

theorem getElem?_snoc {α : Type} {l : List α} {x y : α} {k : Nat} (h : (l ++ [x])[k]? = some y) : l[k]? = some y ∨ (k = l.length ∧ y = x) := by
  by_cases hk : k < l.length
  · rw [List.getElem?_append_left hk] at h
    exact .inl h
  · rw [List.getElem?_append_right (by omega)] at h
    have hz : k - l.length = 0 := by
      rcases Nat.eq_zero_or_pos (k - l.length) with h' | h'
      · exact h'
      · rw [List.getElem?_eq_none (by simp; omega)] at h; cases h
    rw [hz] at h
    simp at h
    exact .inr ⟨by omega, h.symm⟩

/-- A slice laid behind the others. -/
theorem OwnLL.snoc {F : List Nat} {v' u : Value} {l : List Int} (h : OwnLL w B v ls xs) (hu : OwnI w B u l) (h1 : ∀ g, u.ownBlock = some g → v.ownBlock ≠ some g) (h2 : ∀ (k : Nat) (u' : Value) (g : Nat), xs[k]? = some u' → u'.ownBlock = some g → u.ownBlock ≠ some g)
    (hr : w'.ownsRow B 63 1 v' (xs.length + 1) (xs ++ [u])) (t : Turn v.ownBlock.toList w w') (hv : v'.ownBlock = v.ownBlock ∨ ∃ g, v'.ownBlock = some g ∧ w.heap.size ≤ g) : OwnLL w' B v' (ls ++ [l]) (xs ++ [u]) := by
  have hnew : ∀ u' : Value, (∃ l', OwnI w B u' l') → (∀ g, u'.ownBlock = some g → v.ownBlock ≠ some g) → ∀ g, u'.ownBlock = some g → v'.ownBlock ≠ some g := by
    intro u' ⟨l', ho⟩ hne g hg
    rcases hv with e | ⟨g', e, hle⟩
    · rw [e]; exact hne g hg
    · rw [e]
      have := OwnI.lt ho g hg
      intro e2
      injection e2 with e2
      omega
  have hstay : ∀ u' : Value, (∀ g, u'.ownBlock = some g → v.ownBlock ≠ some g) → ∀ g, u'.ownBlock = some g → g ∉ v.ownBlock.toList := by
    intro u' hne g hg hm
    exact hne g hg (by simpa using hm)
  refine ⟨by rw [List.length_append]; exact hr, by simp [h.len], ?_, ?_, ?_⟩
  · intro k x y hx hy
    rcases getElem?_snoc hx with hx | ⟨rfl, rfl⟩
    · rw [List.getElem?_append_left (by have := (List.getElem?_eq_some_iff.1 hx).1; have := h.len; omega)] at hy
      exact (h.each k x y hx hy).turn t (hstay x (fun g hg => h.outer k x g hx hg))
    · rw [h.len, List.getElem?_append_right (Nat.le_refl _)] at hy
      simp at hy
      subst hy
      exact hu.turn t (hstay x h1)
  · intro i j x y g hij hx hy hg
    rcases getElem?_snoc hx with hx2 | ⟨rfl, rfl⟩
    · rcases getElem?_snoc hy with hy2 | ⟨rfl, rfl⟩
      · exact h.apart i j x y g hij hx2 hy2 hg
      · exact h2 i x g hx2 hg
    · rcases getElem?_snoc hy with hy | ⟨rfl, rfl⟩
      · exact fun e => h2 j y g hy e hg
      · exact absurd rfl hij
  · intro k x g hx hg
    rcases getElem?_snoc hx with hx | ⟨rfl, rfl⟩
    · obtain ⟨l', _, ho⟩ := h.has hx
      exact hnew x ⟨l', ho⟩ (fun g hg => h.outer k x g hx hg) g hg
    · exact hnew x ⟨l, hu⟩ h1 g hg

/-- append of one slice, laid in a block of its own just ahead, onto a slice of slices of the program's own. -/
theorem wpList_appRow {ops : Array Oper} {rest : List Oper} {o : Oper} {a : Act} {Q : Exit → Act → World → Prop} (hgd : o.guard = none) (s x : Operand)
    (ho : o.op = .call { callee := .builtin .append, args := #[s, x], argTypes := #[93, 93] })
    (W : World) (B : Nat) (v : Value) (ls : List (List Int)) (xs : List Value) (A' : Option Addr) (c' : Nat) (l : List Int) (c : Nat) (hs : a.eval s = v) (hown : OwnLL W B v ls xs) (hu : OwnI W B (.slice A' l.length c') l)
    (h1 : ∀ g, Value.ownBlock (.slice A' l.length c') = some g → v.ownBlock ≠ some g) (h2 : ∀ (k : Nat) (u' : Value) (g : Nat), xs[k]? = some u' → u'.ownBlock = some g → Value.ownBlock (.slice A' l.length c') ≠ some g)
    (hx : a.eval x = .slice (some ⟨W.heap.size, 0, none⟩) 1 c) (hl : ls.length ≤ 1000000) (hB : B ≤ W.heap.size)
    (h : ∀ v' w', OwnLL w' B v' (ls ++ [l]) (xs ++ [.slice A' l.length c']) → Turn v.ownBlock.toList W w' → (v'.ownBlock = v.ownBlock ∨ ∃ g, v'.ownBlock = some g ∧ W.heap.size ≤ g) → wpList Tryz.prog ops Q rest (a.put o.dst v') w') :
    wpList Tryz.prog ops Q (o :: rest) a (W.alloc (.cells #[.slice A' l.length c'] 63)) := by
  obtain ⟨i0, hi0, hz0, hz1, hz2⟩ := info_parts rowI_info
  have hlen := hown.len
  have t0 : Turn [] W (W.alloc (.cells #[.slice A' l.length c'] 63)) := (Turn.refl [] W).alloc _
  refine wpList_append_own_at (W.alloc (.cells #[.slice A' l.length c'] 63)) hgd s x 93 ho B 63 i0 _ 1 24 Tryz.underlying93 hi0 hz0 hz1 hz2 rfl (by omega) v xs.length xs hs
    (hown.turn' t0).row ⟨W.heap.size, 0, none⟩ 1 c [.slice A' l.length c'] hx rfl ?_ (by simp [Value.oneCell']) (by simp only [maxLen]; omega) (by omega) (by simp; omega) ?_
  · intro j u hj
    match j, hj with
    | 0, hj =>
      simp at hj
      subst hj
      simp [Addr.add]
  · intro v' w' r1 r2 _ r4
    have t1 : Turn v.ownBlock.toList W w' := ((Turn.refl _ W).alloc _).grown r2 (fun k hk => .inl (by simp [hk]))
    have r5 : v'.ownBlock = v.ownBlock ∨ ∃ g, v'.ownBlock = some g ∧ W.heap.size ≤ g := by
      rcases r4 with r4 | r4
      · exact .inl r4
      · exact .inr ⟨_, r4, by simp⟩
    exact h v' w' (hown.snoc (F := []) hu h1 h2 r1 t1 r5) t1 r5

/-- One of the slices put anew. -/
theorem OwnLL.put {g n cap at_ : Nat} {u u2 : Value} {l' : List Int} (h : OwnLL w B (.slice (some ⟨g, 0, none⟩) n cap) ls xs) (hn : n = xs.length) (hu : xs[at_]? = some u) (t : Turn u.ownBlock.toList w w') (ho : OwnI w' B u2 l')
    (hv : u2.ownBlock = u.ownBlock ∨ ∃ g, u2.ownBlock = some g ∧ w.heap.size ≤ g) : OwnLL (w'.setCell ⟨g, at_, none⟩ u2) B (.slice (some ⟨g, 0, none⟩) n cap) (ls.set at_ l') (xs.set at_ u2) := by
  subst hn
  have hob : Value.ownBlock (.slice (some ⟨g, 0, none⟩) xs.length cap) = some g := rfl
  have hgu : ∀ (k : Nat) (x : Value), xs[k]? = some x → x.ownBlock ≠ some g := fun k x hx e => h.outer k x g hx e hob
  have hg : B ≤ g ∧ g < w.heap.size := World.ownsRow.lt h.row g hob
  have hrow : w'.ownsRow B 63 1 (.slice (some ⟨g, 0, none⟩) xs.length cap) xs.length xs := Turn.owns t h.row (fun g' hg' hm => by
    have e : g = g' := by have := hob.symm.trans hg'; injection this
    subst e
    exact hgu at_ u hu (by simpa using hm))
  have hst := World.ownsRow.stored hrow at_ u2
  have hgu2 : u2.ownBlock ≠ some g := by
    rcases hv with e | ⟨g', e, hle⟩
    · rw [e]; exact hgu at_ u hu
    · rw [e]; intro e2; injection e2 with e2; omega
  have hcases : ∀ (k : Nat) (x : Value), (xs.set at_ u2)[k]? = some x → (k = at_ ∧ x = u2) ∨ (k ≠ at_ ∧ xs[k]? = some x) := by
    intro k x hx
    rw [List.getElem?_set] at hx
    by_cases e : at_ = k
    · rw [if_pos e] at hx
      split at hx
      · injection hx with hx; exact .inl ⟨e.symm, hx.symm⟩
      · cases hx
    · rw [if_neg e] at hx
      exact .inr ⟨fun e2 => e e2.symm, hx⟩
  have hsame : ∀ p : Nat, p ≠ g → (w'.setCell ⟨g, at_, none⟩ u2).heap[p]? = w'.heap[p]? := fun p hp => Below.heap_setCell _ _ _ _ hp
  have tset : Turn [g] w' (w'.setCell ⟨g, at_, none⟩ u2) := (Turn.refl _ _).setCell (.inl (by simp)) _
  have keep : ∀ (k : Nat) (x : Value), k ≠ at_ → xs[k]? = some x → ∀ g', x.ownBlock = some g' → u2.ownBlock ≠ some g' := by
    intro k x hk hx g' hg'
    rcases hv with e | ⟨g2, e, hle⟩
    · rw [e]; exact h.apart k at_ x u g' hk hx hu hg'
    · rw [e]; intro e2; injection e2 with e2
      have := h.lt hx hg'
      omega
  refine ⟨by rw [List.length_set]; exact hst.1, by simp [h.len], ?_, ?_, ?_⟩
  · intro k x y hx hy
    rcases hcases k x hx with ⟨rfl, rfl⟩ | ⟨hk, hx⟩
    · rw [List.getElem?_set] at hy
      rw [if_pos rfl] at hy
      split at hy
      · injection hy with hy
        subst hy
        exact ho.turn tset (fun g' hg' hm => hgu2 (by rw [hg']; simpa using hm))
      · cases hy
    · rw [List.getElem?_set, if_neg (fun e => hk e.symm)] at hy
      refine ((h.each k x y hx hy).turn t (fun g' hg' hm => ?_)).turn tset (fun g' hg' hm => hgu k x hx (by rw [hg']; simpa using hm))
      exact h.apart k at_ x u g' hk hx hu hg' (by simpa using hm)
  · intro i j x y g' hij hx hy hg'
    rcases hcases i x hx with ⟨rfl, rfl⟩ | ⟨hi, hx2⟩
    · rcases hcases j y hy with ⟨rfl, rfl⟩ | ⟨hj, hy⟩
      · exact absurd rfl hij
      · exact fun e => keep j y hj hy g' e hg'
    · rcases hcases j y hy with ⟨rfl, rfl⟩ | ⟨hj, hy⟩
      · exact keep i x hi hx2 g' hg'
      · exact h.apart i j x y g' hij hx2 hy hg'
  · intro k x g' hx hg' e
    have e3 : g = g' := by have := hob.symm.trans e; injection this
    subst e3
    rcases hcases k x hx with ⟨rfl, rfl⟩ | ⟨hk, hx⟩
    · exact hgu2 hg'
    · exact hgu k x hx hg'

/-- A row of the program's own lies in no map's block. -/
theorem ownsRow_cells {e : TypeId} {size n : Nat} (h : w.ownsRow B e size v n xs) {g : Nat} (hg : v.ownBlock = some g) : ∃ cs t f, w.heap[g]? = some (.cells cs t f) := by
  rcases h.2 with ⟨rfl, _⟩ | ⟨g', cap, cur, rfl, _, hb, _⟩
  · cases hg
  · injection hg with hg
    subst hg
    exact ⟨_, _, _, hb⟩
theorem OwnI.cells {l : List Int} (h : OwnI w B v l) {g : Nat} (hg : v.ownBlock = some g) : ∃ cs t f, w.heap[g]? = some (.cells cs t f) := ownsRow_cells h hg
theorem OwnLL.offMap {q : Nat} {es : Array MapEntry} {clock : Nat} (h : OwnLL w B v ls xs) (hq : w.heap[q]? = some (.map es clock)) (t : Turn [q] w w') : OwnLL w' B v ls xs := by
  refine h.turn t (fun g hg hm => ?_) (fun k u g hu hg hm => ?_)
  · obtain ⟨cs, t', f, hc⟩ := ownsRow_cells h.row hg
    simp at hm
    subst hm
    rw [hq] at hc
    cases hc
  · obtain ⟨l, _, ho⟩ := h.has hu
    obtain ⟨cs, t', f, hc⟩ := ho.cells hg
    simp at hm
    subst hm
    rw [hq] at hc
    cases hc

theorem OwnLL.shape (h : OwnLL w B v ls xs) {k : Nat} (hk : ls.length = k + 1) : ∃ g c, v = .slice (some ⟨g, 0, none⟩) (k + 1) c := by
  obtain ⟨g, c, e, _⟩ := World.ownsRow.form h.row (by have := h.len; omega)
  exact ⟨g, c, by rw [e, h.len, hk]⟩
theorem OwnI.shape {l : List Int} {k : Nat} (h : OwnI w B v l) (hk : l.length = k + 1) : ∃ g c, v = .slice (some ⟨g, 0, none⟩) (k + 1) c := by
  obtain ⟨g, c, e, _⟩ := World.ownsRow.form h (by omega)
  exact ⟨g, c, by rw [e, hk]⟩

/-- The same two appends, with the new slice's shape written out. -/
theorem wpList_appRowS {ops : Array Oper} {rest : List Oper} {o : Oper} {a : Act} {Q : Exit → Act → World → Prop} (hgd : o.guard = none) (s x : Operand)
    (ho : o.op = .call { callee := .builtin .append, args := #[s, x], argTypes := #[93, 93] })
    (W : World) (B : Nat) (v : Value) (ls : List (List Int)) (xs : List Value) (A' : Option Addr) (n' c' : Nat) (l : List Int) (c : Nat) (hs : a.eval s = v) (hown : OwnLL W B v ls xs) (hn : n' = l.length) (hu : OwnI W B (.slice A' n' c') l)
    (h1 : ∀ g, Value.ownBlock (.slice A' n' c') = some g → v.ownBlock ≠ some g) (h2 : ∀ (k : Nat) (u' : Value) (g : Nat), xs[k]? = some u' → u'.ownBlock = some g → Value.ownBlock (.slice A' n' c') ≠ some g)
    (hx : a.eval x = .slice (some ⟨W.heap.size, 0, none⟩) 1 c) (hl : ls.length ≤ 1000000) (hB : B ≤ W.heap.size) (k : Nat) (hk : ls.length = k)
    (h : ∀ g1 c1 w', OwnLL w' B (.slice (some ⟨g1, 0, none⟩) (k + 1) c1) (ls ++ [l]) (xs ++ [.slice A' n' c']) → Turn v.ownBlock.toList W w' → wpList Tryz.prog ops Q rest (a.put o.dst (.slice (some ⟨g1, 0, none⟩) (k + 1) c1)) w') :
    wpList Tryz.prog ops Q (o :: rest) a (W.alloc (.cells #[.slice A' n' c'] 63)) := by
  subst hn
  refine wpList_appRow hgd s x ho W B v ls xs A' c' l c hs hown hu h1 h2 hx hl hB fun v' w' r1 r2 r3 => ?_
  obtain ⟨g1, c1, rfl⟩ := r1.shape (k := k) (by simp [hk])
  exact h g1 c1 w' r1 r2

theorem wpList_app1S {ops : Array Oper} {rest : List Oper} {o : Oper} {a : Act} {Q : Exit → Act → World → Prop} (hgd : o.guard = none) (s x : Operand)
    (ho : o.op = .call { callee := .builtin .append, args := #[s, x], argTypes := #[63, 63] })
    (W : World) (B : Nat) (v : Value) (l : List Int) (y : Int) (c : Nat) (hs : a.eval s = v) (hown : OwnI W B v l) (hx : a.eval x = .slice (some ⟨W.heap.size, 0, none⟩) 1 c)
    (hl : l.length ≤ 1000000) (hB : B ≤ W.heap.size) (k : Nat) (hk : l.length = k)
    (h : ∀ g1 c1 w', OwnI w' B (.slice (some ⟨g1, 0, none⟩) (k + 1) c1) (l ++ [y]) → Turn v.ownBlock.toList W w' → (Value.ownBlock (.slice (some ⟨g1, 0, none⟩) (k + 1) c1) = v.ownBlock ∨ ∃ g, Value.ownBlock (.slice (some ⟨g1, 0, none⟩) (k + 1) c1) = some g ∧ W.heap.size ≤ g) → wpList Tryz.prog ops Q rest (a.put o.dst (.slice (some ⟨g1, 0, none⟩) (k + 1) c1)) w') :
    wpList Tryz.prog ops Q (o :: rest) a (W.alloc (.cells #[.int .i64 y] 3)) := by
  refine wpList_app1 hgd s x ho W B v l y c hs hown hx hl hB fun v' w' r1 r2 r3 => ?_
  obtain ⟨g1, c1, rfl⟩ := r1.shape (k := k) (by simp [hk])
  exact h g1 c1 w' r1 r2 r3
end
end Go.Proofs.YtbocejiclellfaaGreatDoor

/- below: those right below each. -/
set_option linter.unusedSimpArgs false
set_option linter.unusedVariables false
set_option maxRecDepth 100000
namespace Go.Proofs.YtbocejiclellfaaGreatDoor
open Go.RowKit
attribute [local go_sem] fldE0 fldE1 fldE2 fldE3
def addB (i : Nat) : List Nat → List (List Int) → List (List Int)
  | [], ls => ls
  | a :: us, ls => addB i us (ls.set a ((ls[a]?.getD []) ++ [(i : Int)]))
theorem addB_len (i : Nat) : ∀ (us : List Nat) (ls : List (List Int)), (addB i us ls).length = ls.length
  | [], ls => rfl
  | a :: us, ls => by rw [addB, addB_len i us, List.length_set]
def belF (Es : List En) : Nat → Nat → List (List Int) → List (List Int)
  | 0, _, ls => ls
  | f + 1, k, ls => belF Es f (k + 1) (addB k (nxE Es k) ls)
theorem belF_len (Es : List En) : ∀ (f k : Nat) (ls : List (List Int)), (belF Es f k ls).length = ls.length
  | 0, k, ls => rfl
  | f + 1, k, ls => by rw [belF, belF_len Es f, addB_len]
def belowL (Es : List En) : List (List Int) := belF Es Es.length 0 (List.replicate Es.length [])
/-- All that stand right above one are there, and no list is too long. -/
structure EsOk (Es : List En) : Prop where
  lt : ∀ (k : Nat), ∀ a ∈ nxE Es k, a < Es.length
  few : ∀ (k : Nat), (nxE Es k).length ≤ 1000
  n : Es.length ≤ 1000
/-- No list of ls has more than m. -/
def LsLe (m : Nat) (ls : List (List Int)) : Prop := ∀ l ∈ ls, l.length ≤ m
theorem LsLe.set {m : Nat} {ls : List (List Int)} (h : LsLe m ls) (a : Nat) (x : Int) : LsLe (m + 1) (ls.set a ((ls[a]?.getD []) ++ [x])) := fun l hl => by
  rcases List.mem_or_eq_of_mem_set hl with hl | rfl
  · have := h l hl; omega
  · cases hx : ls[a]? with
    | none => simp
    | some q =>
      have := h q (List.mem_of_getElem? hx)
      simp
      omega

theorem OwnLL.zeros (w : World) (B n : Nat) (hB : B ≤ w.heap.size) (hn : n ≤ 1000000) :
    OwnLL (w.alloc (.cells (madeCells #[.slice none 0 0] (n * 1)) 63)) B (.slice (some ⟨w.heap.size, 0, none⟩) n n) (List.replicate n []) (List.replicate n (.slice none 0 0)) := by
  refine ⟨⟨by simp, .inr ⟨w.heap.size, n, madeCells #[.slice none 0 0] (n * 1), by simp, hB, heap_alloc_new w _, by simp, by simp only [maxLen]; omega, by simp [size_madeCells], ?_⟩⟩, by simp, ?_, ?_, ?_⟩
  · have h : (madeCells #[.slice none 0 0] (n * 1)).toList = List.replicate (n * 1) (.slice none 0 0) := by
      apply List.ext_getElem
      · simp [size_madeCells]
      · intro k h1 h2
        simp [madeCells, Nat.mod_one]
    rw [h, List.take_replicate]
    simp
  · intro k u l hu hl
    have h1 := List.eq_of_mem_replicate (List.mem_of_getElem? hu)
    have h2 := List.eq_of_mem_replicate (List.mem_of_getElem? hl)
    rw [h1, h2]
    exact OwnI.nil _ _
  · intro i j u u' g _ hu _ hg
    have h1 := List.eq_of_mem_replicate (List.mem_of_getElem? hu)
    rw [h1] at hg
    cases hg
  · intro k u g hu hg
    have h1 := List.eq_of_mem_replicate (List.mem_of_getElem? hu)
    rw [h1] at hg
    cases hg

theorem intss_info : (Tryz.prog.info? 63).map (fun i => (i.zero, i.size, i.bytes)) = some (some (.slice none 0 0), 1, 24) := by kernel_rfl
theorem make_intss (n : Nat) (hn : n ≤ 1000000) (W : World) : (Instr.makeSlice 93 (.int .i64 (n : Int)) (.int .i64 (n : Int))).run Tryz.prog W = .ok (.slice (some ⟨W.heap.size, 0, none⟩) n n) (W.alloc (.cells (madeCells #[.slice none 0 0] (n * 1)) 63)) := by
  obtain ⟨i0, hi0, hz0, hz1, hz2⟩ := info_parts intss_info
  have := run_make (P := Tryz.prog) W 93 63 i0 _ Tryz.underlying93 hi0 hz0 .i64 .i64 (n : Int) (n : Int) (by omega) (by omega) (by rw [hz2]; omega) (by omega)
  rw [hz1] at this
  rw [Nat.mul_one]
  simp at this
  exact this

set_option maxHeartbeats 12800000 in
theorem below_any {A : Nat → Prop} {t : Nat} {M V : Value} {Es : List En} {w : World} (h : Tl w A t M V Es) (hok : EsOk Es) :
    Calls Tryz.prog 49 #[.pointer (some ⟨t, 0, none⟩)] w fun e w' => ∃ U xs, e = .returned U ∧ OwnLL w' w.heap.size U (belowL Es) xs ∧ Turn [] w w' := by
  have HL := Lib.hid (len_any8 h)
  obtain ⟨r, hr⟩ : ∃ r, w.heap.size = r := ⟨_, rfl⟩
  have HE : Hid (∀ W (i : Int), Turn [] w W → Calls Tryz.prog 50 #[.pointer (some ⟨t, 0, none⟩), .int .i64 i] W fun e w' => ∃ U, e = .returned (.agg #[.string (enAt Es i).nm, .bool (enAt Es i).face, .int .i64 (enAt Es i).sup, U]) ∧ RdV 1 RdN (fun g => A g ∧ g < r) w' U (enAt Es i).rt ∧ Turn [] W w') := Lib.hid fun W i k => entry_any8 ((Tl.below h hr).turn' k) i
  obtain ⟨n, hn⟩ : ∃ n, Es.length = n := ⟨_, rfl⟩
  have hn1 : n ≤ 1000 := by rw [← hn]; exact hok.n
  have hmk := fun W : World => make_intss n (by omega) W
  have HOK := Lib.hid hok
  have HN := Lib.hid hn
  rw [hn] at HL
  have HZ : Hid (OwnLL (w.alloc (.cells (madeCells #[.slice none 0 0] (n * 1)) 63)) r (.slice (some ⟨r, 0, none⟩) n n) (List.replicate n []) (List.replicate n (.slice none 0 0))) := Lib.hid (by
    have := OwnLL.zeros w r n (by omega) (by omega)
    rw [hr] at this
    exact this)
  have HR := Lib.hid hr
  clear h hok hn hr
  go_enter Tryz.func49, Tryz.ntmps49
  go_wp2_with fail
  refine HL.out.mono ?_
  rintro e w1 ⟨rfl, rfl⟩
  go_wp2_with fail
  rw [HR.out]
  go_loopw [12] (fun ti wr => ∃ k : Nat, k ≤ n ∧ ti = .int .i64 (k : Int) ∧ Hid (∃ ls xs, OwnLL wr r (.slice (some ⟨r, 0, none⟩) n n) ls xs ∧ belF Es (n - k) k ls = belowL Es ∧ ls.length = n ∧ LsLe (k * 1000) ls ∧ Turn [] w wr)) (fun ti _ => n - (intOf ti).toNat)
  case atStart => exact ⟨0, Nat.zero_le _, rfl, Lib.hid ⟨_, _, by simpa using HZ.out, by rw [← HN.out]; rfl, by simp, fun l hl => by rw [List.eq_of_mem_replicate hl]; simp, (Turn.refl [] w).alloc _⟩⟩
  case round =>
    obtain ⟨k, hk, rfl, HK⟩ := hrel
    by_cases hlt : k < n
    · have d1 : decide ((k : Int) < (n : Int)) = true := by simp; omega
      have d2 : (k : Int) < (n : Int) := by omega
      obtain ⟨ls, xs, hO, hbel, hlen, hle, hT⟩ := HK.out
      have HC := Lib.hid (HE.out wr (k : Int) hT)
      obtain ⟨x, hx⟩ : ∃ x, enAt Es (k : Int) = x := ⟨_, rfl⟩
      have hrt : nxE Es k = x.rt := by unfold nxE; rw [hx]
      have hRl := HOK.out.lt k
      have hRf := HOK.out.few k
      rw [hrt] at hRl hRf
      rw [HN.out] at hRl
      rw [hx] at HC
      obtain ⟨nm, face, sup, rt⟩ := x
      simp only at HC hRl hRf hrt
      have HX := Lib.hid (And.intro hO (And.intro hbel (And.intro hlen (And.intro hle hT))))
      have HRT := Lib.hid (And.intro hrt hRl)
      clear hO hbel hlen hle hT HK hx hrt hRl
      obtain ⟨Wr, hWr⟩ : ∃ q, q = wr := ⟨_, rfl⟩
      subst hWr
      go_wp2_with fail
      refine HC.out.mono ?_
      rintro e w2 ⟨U2, rfl, hU2, t2⟩
      obtain ⟨P2, c2, rfl, hc2, hh2⟩ := hU2
      obtain ⟨m, hm⟩ : ∃ m, rt.length = m := ⟨_, rfl⟩
      have HH2 := Lib.hid hh2
      have HM := Lib.hid hm
      have HT2 := Lib.hid t2
      rw [hm] at hc2 hRf ⊢
      clear hh2 hm t2 HC
      go_wp2_with fail
      go_loopw [20] (fun tj wr => ∃ j : Nat, j ≤ m ∧ tj = .int .i64 (j : Int) ∧ Hid (∃ ls' xs', OwnLL wr r (.slice (some ⟨r, 0, none⟩) n n) ls' xs' ∧ belF Es (n - (k + 1)) (k + 1) (addB k (rt.drop j) ls') = belowL Es ∧ ls'.length = n ∧ LsLe (k * 1000 + j) ls' ∧ Turn [] w wr)) (fun tj _ => m - (intOf tj).toNat)
      case atStart =>
        obtain ⟨hO, hbel, hlen, hle, hT⟩ := HX.out
        refine ⟨0, Nat.zero_le _, rfl, Lib.hid ⟨ls, xs, hO.turn' HT2.out, ?_, hlen, hle, hT.trans' HT2.out⟩⟩
        rw [← hbel, show n - k = (n - (k + 1)) + 1 by omega, belF, HRT.out.1]
        rfl
      case round =>
        obtain ⟨j, hj, rfl, HJ⟩ := hrel
        by_cases hltj : j < m
        · obtain ⟨ls', xs', hO, hbel, hlen, hle, hT⟩ := HJ.out
          obtain ⟨a, ha⟩ := at_lt (show j < rt.length by have := HM.out; omega)
          have han : a < n := HRT.out.2 a (List.mem_of_getElem? ha)
          obtain ⟨b, hb, hbA, hbl, hcb⟩ : ∃ b, P2 = some ⟨b, 0, none⟩ ∧ b < r ∧ b < w.heap.size ∧ w.cell? ⟨b, j, none⟩ = some (.int .i64 (a : Int)) := by
            rcases HH2.out with h0 | ⟨b, e, hA, hb, hat⟩
            · rw [h0] at ha; simp at ha
            · obtain ⟨cs, hcs, hrd⟩ := hat j a ha
              unfold RdN at hrd
              subst hrd
              have hbw : b < w.heap.size := by have := hA.2; have := HR.out; omega
              refine ⟨b, e, hA.2, hbw, ?_⟩
              have h1 := hcs 0 _ rfl
              rw [show j * 1 + 0 = j by omega] at h1
              rw [← h1]
              exact ((HX.out.2.2.2.2.trans' HT2.out).cell (p := ⟨b, j, none⟩) hbw (by simp)).symm
          subst hb
          have cj : wr.cell? ⟨b, j, none⟩ = some (.int .i64 (a : Int)) := (hT.cell (p := ⟨b, j, none⟩) hbl (by simp)).trans hcb
          obtain ⟨la, hla⟩ := at_lt (show a < ls'.length by omega)
          obtain ⟨u, hu, hown⟩ := hO.at hla
          obtain ⟨Au, cu, hue, _, _⟩ := hown.form
          subst hue
          have hxl : xs'.length = n := by rw [hO.len, hlen]
          have cu0 : wr.cell? ⟨r, a, none⟩ = some (.slice Au la.length cu) := by
            have := World.ownsRow.cellAt (cap := n) (by have := hO.row; rw [hxl] at this; rw [← hxl] at this ⊢; exact this) a (by omega)
            rw [this]
            exact hu
          have fu0 : wr.frozen? ⟨r, a, none⟩ = false := by
            rcases hO.row.2 with ⟨h0, _⟩ | ⟨g, cap, cur, e, _, hg, _⟩
            · cases h0
            · injection e with e1 e2 e3
              injection e1 with e1
              injection e1 with e1
              subst e1
              exact frozen_of_row wr r a _ _ hg
          have hll : la.length ≤ 10000000 := by have := hle la (List.mem_of_getElem? hla); omega
          have d3 : decide ((j : Int) < (m : Int)) = true := by simp; omega
          have d4 : (j : Int) < (m : Int) := by omega
          have d5 : (a : Int) < (n : Int) := by omega
          have hrl : r ≤ wr.heap.size := by have := hT.size; have := HR.out; omega
          have hdr : rt.drop j = a :: rt.drop (j + 1) := by
            obtain ⟨hh, he⟩ := List.getElem?_eq_some_iff.1 ha
            rw [List.drop_eq_getElem_cons hh, he]
          rw [hdr] at hbel
          have HY := Lib.hid (And.intro hO (And.intro hbel (And.intro hlen (And.intro hle (And.intro hT (And.intro hla (And.intro hu hown)))))))
          obtain ⟨ll, hlle⟩ : ∃ q, la.length = q := ⟨_, rfl⟩
          rw [hlle] at cu0
          have HLL := Lib.hid hlle
          have HOw : Hid (OwnI wr r (.slice Au ll cu) la) := Lib.hid (by rw [← hlle]; exact hown)
          clear hO hbel hlen hle hT ha hcb hla hu hown hdr hxl hlle HJ
          go_wp2_with (at_builtin
                       refine wpList_app1' rfl (.tmp 29) (.tmp 31) rfl wr r (.slice Au ll cu) la (k : Int) 1 rfl HOw.out rfl hll hrl ?_
                       intro v6 w6 ho6 ht6 hm6
                       obtain ⟨A6, q6, hv6, _, _⟩ := ho6.form
                       have hne : ∀ g ∈ (Value.slice Au ll cu).ownBlock.toList, g ≠ r := fun g hg e => by
                         subst e
                         have := HY.out.1.outer a _ g HY.out.2.2.2.2.2.2.1 (by rw [HLL.out]; simpa using hg)
                         exact this rfl
                       have tt6 := ht6
                       have cx6 : w6.cell? ⟨r, a, none⟩ = some (.slice Au ll cu) := (tt6.cell (p := ⟨r, a, none⟩) (cell_lt cu0) (fun hg => hne r hg rfl)).trans cu0
                       have fx6 : w6.frozen? ⟨r, a, none⟩ = false := by
                         have hr1 : r < wr.heap.size := cell_lt cu0
                         have hblk := ht6.block r hr1 (fun hg => hne r hg rfl)
                         have := fu0
                         simp only [World.frozen?] at this ⊢
                         rw [hblk]
                         exact this
                       subst hv6
                       have HO6 := Lib.hid (And.intro ho6 (And.intro ht6 hm6))
                       clear ho6 ht6 hm6 tt6)
          go_roundw
          case rel =>
            obtain ⟨hO, hbel, hlen, hle, hT, hla, hu, hown⟩ := HY.out
            obtain ⟨o1, o2, o3⟩ := HO6.out
            rw [← HLL.out] at o2 o3
            have hput := OwnLL.put (at_ := a) hO (by rw [hO.len, hlen]) hu o2 o1 o3
            simp only [List.length_append, List.length_singleton] at hput o2
            refine ⟨j + 1, by omega, by go_num, Lib.hid ⟨ls'.set a (la ++ [(k : Int)]), _, hput, ?_, by rw [List.length_set]; exact hlen, ?_, ?_⟩⟩
            · rw [← hbel, addB, hla]
              rfl
            · have := LsLe.set hle a (k : Int)
              rw [hla] at this
              exact this
            · refine (hT.trans o2 (fun g hg => .inr ?_)).setCell (.inr (show w.heap.size ≤ r by rw [HR.out]; exact Nat.le_refl _)) _
              have := (hown.lt g (by simpa using hg)).1
              have := HR.out
              omega
          case measure => simp [intOf]; omega
        · obtain rfl : j = m := by omega
          have d3 : decide ((j : Int) < (j : Int)) = false := by simp
          have HNX : Hid (∃ ls xs, OwnLL wr r (.slice (some ⟨r, 0, none⟩) n n) ls xs ∧ belF Es (n - (k + 1)) (k + 1) ls = belowL Es ∧ ls.length = n ∧ LsLe ((k + 1) * 1000) ls ∧ Turn [] w wr) := by
            obtain ⟨ls', xs', a1, a2, a3, a4, a5⟩ := HJ.out
            rw [List.drop_of_length_le (by rw [HM.out]; exact Nat.le_refl _)] at a2
            exact Lib.hid ⟨ls', xs', a1, a2, a3, fun l hl => by have := a4 l hl; omega, a5⟩
          clear HJ HX HH2
          go_wp2_with fail
          go_roundw
          case rel => exact ⟨k + 1, by omega, by go_num, HNX⟩
          case measure => simp [intOf]; omega
    · obtain rfl : k = n := by omega
      have d1 : decide ((k : Int) < (k : Int)) = false := by simp
      go_wp2_with fail
      go_ret
      obtain ⟨ls, xs, hO, hbel, hlen, hle, hT⟩ := HK.out
      rw [Nat.sub_self] at hbel
      refine ⟨_, xs, rfl, ?_, hT⟩
      rw [← hbel, HR.out]
      exact hO
end Go.Proofs.YtbocejiclellfaaGreatDoor

/- climbed: what its function enter does; a measure for loops whose state lies in memory. -/
set_option linter.unusedSimpArgs false
set_option linter.unusedVariables false
set_option maxRecDepth 100000
namespace Go.Proofs.YtbocejiclellfaaGreatDoor
open Go.RowKit
attribute [local go_sem] fldE0 fldE1 fldE2 fldE3
theorem least_ex {R : Nat → Prop} (h : ∃ m, R m) : ∃ m, R m ∧ ∀ k, R k → m ≤ k := by
  obtain ⟨m, hm⟩ := h
  induction m using Nat.strongRecOn with
  | _ m ih =>
    by_cases hh : ∃ k, k < m ∧ R k
    · obtain ⟨k, hk, hr⟩ := hh
      exact ih k hk hr
    · exact ⟨m, hm, fun k hk => by
        by_cases h2 : m ≤ k
        · exact h2
        · exact absurd ⟨k, by omega, hk⟩ hh⟩
open Classical in
/-- The least number of which something holds. -/
noncomputable def least (R : Nat → Prop) : Nat := if h : ∃ m, R m then Classical.choose (least_ex h) else 0
theorem least_spec {R : Nat → Prop} (h : ∃ m, R m) : R (least R) := by
  unfold least
  rw [dif_pos h]
  exact (Classical.choose_spec (least_ex h)).1
theorem least_le {R : Nat → Prop} {m : Nat} (h : R m) : least R ≤ m := by
  unfold least
  rw [dif_pos ⟨m, h⟩]
  exact (Classical.choose_spec (least_ex ⟨m, h⟩)).2 m h

/-- The list p at block pb, the set l at block wb. -/
structure Pw (w : World) (r wb pb : Nat) (F : List Nat) (V : Value) (l p : List Int) : Prop where
  wd : Wd w wb F l
  blk : w.heap[pb]? = some (.cells #[V] 63 (0, 0))
  own : OwnI w r V p
  pF : pb ∉ F
  vF : ∀ g, V.ownBlock = some g → g ∉ F ∧ g ≠ pb
  fr : ∀ g ∈ F, r ≤ g
  pr : r ≤ pb
  wr : r ≤ w.heap.size
set_option maxHeartbeats 6400000 in
theorem climb1_any {w : World} {r wb pb : Nat} {F : List Nat} {V : Value} {l p : List Int} (i : Nat) (hi : i < 1048576) (h : Pw w r wb pb F V l p) (hp : p.length ≤ 1000000) :
    Calls Tryz.prog 75 #[.int .i64 (i : Int), .pointer (some ⟨wb, 0, none⟩), .pointer (some ⟨pb, 0, none⟩)] w fun e w' => e = .returned (.tuple #[]) ∧
      ∃ F' V', Pw w' r wb pb F' V' (putL l i) (if hasB l i then p else p ++ [(i : Int)]) ∧ Turn (pb :: V.ownBlock.toList ++ F) w w' ∧ Foot w.heap.size F F' ∧ Moved w V V' := by
  have HW := Lib.hid (wadd_any wb F l i hi w h.wd)
  have HH := Lib.hid h
  have hpl : p.length ≤ 10000000 := by omega
  obtain ⟨p2, hp2⟩ : ∃ q, (if hasB l (i : Int) then p else p ++ [(i : Int)]) = q := ⟨_, rfl⟩
  rw [hp2]
  have HP2 := Lib.hid hp2
  clear h hp hp2
  go_enter Tryz.func75, Tryz.ntmps75
  go_wp2_with fail
  refine HW.out.mono ?_
  rintro e w1 ⟨rfl, F1, hw1, t1, f1⟩
  have h := HH.out
  have pbl : pb < w.heap.size := (Array.getElem?_eq_some_iff.1 h.blk).1
  have blk1 := t1.heap h.blk h.pF
  have own1 : OwnI w1 r V p := h.own.turn t1 (fun g hg => (h.vF g hg).1)
  have hF1 : ∀ g ∈ F1, g < w.heap.size → g ∈ F := fun g hg hl => by
    rcases f1 g hg with h | h
    · exact h
    · omega
  have pF1 : pb ∉ F1 := fun hg => h.pF (hF1 _ hg pbl)
  have vF1 : ∀ g, V.ownBlock = some g → g ∉ F1 ∧ g ≠ pb := fun g hg => ⟨fun hh => (h.vF g hg).1 (hF1 _ hh (h.own.lt g hg).2), (h.vF g hg).2⟩
  have fr1 : ∀ g ∈ F1, r ≤ g := fun g hg => by
    rcases f1 g hg with h2 | h2
    · exact h.fr g h2
    · have := h.wr; omega
  have tt1 : Turn (pb :: V.ownBlock.toList ++ F) w w1 := t1.more (fun g hg => .inl (by simp [hg]))
  obtain ⟨hbv, hbe⟩ : ∃ q, hasB l i = q := ⟨_, rfl⟩
  rw [hbe]
  cases hbv with
  | true =>
    have HE : Hid (p = p2) := Lib.hid (by rw [← HP2.out, hbe]; rfl)
    have HX : Hid (Pw w1 r wb pb F1 V (putL l i) p ∧ Turn (pb :: V.ownBlock.toList ++ F) w w1 ∧ Foot w.heap.size F F1) := Lib.hid ⟨⟨hw1, blk1, own1, pF1, vF1, fr1, h.pr, Nat.le_trans h.wr t1.size⟩, tt1, f1⟩
    clear h blk1 own1 hF1 pF1 vF1 fr1 tt1 hw1 t1 f1 HW HH hbe
    go_wp2_with fail
    go_end0
    rw [← HE.out]
    exact ⟨rfl, F1, V, HX.out.1, HX.out.2.1, HX.out.2.2, Moved.refl _ _⟩
  | false =>
    have HE : Hid (p ++ [(i : Int)] = p2) := Lib.hid (by rw [← HP2.out, hbe]; rfl)
    have c2 : w1.cell? ⟨pb, 0, none⟩ = some V := cell_of_row w1 pb 0 _ _ _ blk1
    have hwr : r ≤ w1.heap.size := Nat.le_trans h.wr t1.size
    have HO := Lib.hid own1
    have HX := Lib.hid (And.intro hw1 (And.intro blk1 (And.intro pF1 (And.intro vF1 (And.intro fr1 (And.intro tt1 (And.intro f1 h.pr)))))))
    have HS := Lib.hid (And.intro t1.size (And.intro (hw1.lt.2) (Nat.lt_of_lt_of_le pbl t1.size)))
    obtain ⟨A1, q1, hv1, _, _⟩ := own1.form
    clear h blk1 own1 hF1 pF1 vF1 fr1 tt1 hw1 t1 f1 HW HH hv1 hbe
    go_wp2_with (at_builtin
                 refine wpList_app1' rfl (.tmp 6) (.tmp 8) rfl w1 r V p (i : Int) 1 rfl HO.out rfl hpl hwr ?_
                 intro v6 w6 ho6 ht6 hm6
                 obtain ⟨A6, q6, hv6, _, _⟩ := ho6.form
                 have hb6 := ht6.heap HX.out.2.1 (fun hg => (HX.out.2.2.2.1 pb (by simpa using hg)).2 rfl)
                 have x4 : w6.cell? ⟨pb, 0, none⟩ = some V := cell_of_row w6 pb 0 _ _ _ hb6
                 have x5 : w6.frozen? ⟨pb, 0, none⟩ = false := frozen_of_row w6 pb 0 _ _ hb6
                 have HO6 := Lib.hid (And.intro ho6 (And.intro ht6 (And.intro hm6 hb6)))
                 subst hv6
                 clear ho6 ht6 hm6 hb6)
    go_end0
    obtain ⟨hw1, blk1, pF1, vF1, fr1, tt1, f1, hpr⟩ := HX.out
    obtain ⟨ho6, ht6, hm6, hb6⟩ := HO6.out
    simp only [List.length_append, List.length_singleton] at ho6 hm6
    rw [← HE.out]
    have tS : Turn [pb] w6 (w6.setCell ⟨pb, 0, none⟩ (.slice A6 (p.length + 1) q6)) := (Turn.refl [pb] w6).setCell (.inl (by simp)) _
    have v6 : ∀ g, (Value.slice A6 (p.length + 1) q6).ownBlock = some g → g ∉ F1 ∧ g ≠ pb := fun g hg => by
      rcases hm6 with hm | ⟨g', hg', hl⟩
      · exact vF1 g (by rw [← hm]; exact hg)
      · rw [hg] at hg'
        injection hg' with e
        subst e
        exact ⟨fun hh => by have := HS.out.2.1 _ hh; omega, by have := HS.out.2.2; omega⟩
    refine ⟨rfl, F1, _, ⟨(hw1.turn ht6 (fun g hg => (vF1 g (by simpa using hg)).1)).turn tS (by simpa using pF1), heap_setCell_same w6 pb 0 _ _ _ hb6, ho6.turn tS (fun g hg hh => (v6 g hg).2 (by simpa using hh)), pF1, v6, fr1, hpr, Nat.le_trans hwr (Nat.le_trans ht6.size tS.size)⟩, ?_, f1, ?_⟩
    · refine (tt1.trans ht6 (fun g hg => .inl (by simp at hg; simp [hg]))).trans tS (fun g hg => .inl (by simp at hg; simp [hg]))
    · exact moved_trans (Moved.refl w V) hm6 HS.out.1
end Go.Proofs.YtbocejiclellfaaGreatDoor

/- climbed as plain steps. -/
set_option linter.unusedSimpArgs false
set_option linter.unusedVariables false
set_option maxRecDepth 100000
namespace Go.Proofs.YtbocejiclellfaaGreatDoor
open Go.RowKit

/-- What was seen, the way up from the number that is tried, those that are done, how many of each one's were tried. -/
structure Cs where
  l : List Int
  p : List Int
  d : List Int
  tr : List Int
def enterS (s : Cs) (i : Int) : Cs := { s with l := putL s.l i, p := if hasB s.l i then s.p else s.p ++ [i] }
def cstep (Es : List En) (s : Cs) : Option Cs :=
  match s.p.getLast? with
  | none => none
  | some x =>
    match (nxE Es x.toNat)[((s.tr[x.toNat]?).getD 0).toNat]? with
    | some a => some { enterS s (a : Int) with tr := s.tr.set x.toNat ((s.tr[x.toNat]?).getD 0 + 1) }
    | none => some { s with p := s.p.dropLast, d := s.d ++ [x] }
def crun (Es : List En) : Nat → Cs → Cs
  | 0, s => s
  | f + 1, s => match cstep Es s with
    | none => s
    | some s' => crun Es f s'
theorem crun_snoc (Es : List En) : ∀ (f : Nat) (s0 s' : Cs), cstep Es (crun Es f s0) = some s' → crun Es (f + 1) s0 = s'
  | 0, s0, s', h => by
    have h' : cstep Es s0 = some s' := h
    rw [crun, h']
    rfl
  | f + 1, s0, s', h => by
    cases hc : cstep Es s0 with
    | none =>
      rw [crun, hc] at h
      simp only at h
      rw [hc] at h
      cases h
    | some s1 =>
      rw [crun, hc] at h
      rw [crun, hc]
      exact crun_snoc Es f s1 s' h
/-- How many are left to be tried. -/
def remF (Es : List En) : Nat → List Int → Nat
  | _, [] => 0
  | k, t :: ts => ((nxE Es k).length - t.toNat) + remF Es (k + 1) ts
theorem remF_set (Es : List En) : ∀ (ts : List Int) (k j : Nat) (c : Int), ts[j]? = some c → 0 ≤ c → c.toNat < (nxE Es (k + j)).length → remF Es k (ts.set j (c + 1)) < remF Es k ts
  | [], k, j, c, h, _, _ => by simp at h
  | t :: ts, k, 0, c, h, h0, hl => by
    simp at h
    subst h
    simp only [List.set_cons_zero, remF, Nat.add_zero] at hl ⊢
    omega
  | t :: ts, k, j + 1, c, h, h0, hl => by
    have := remF_set Es ts (k + 1) j c (by simpa using h) h0 (by rw [show k + 1 + j = k + (j + 1) by omega]; exact hl)
    simp only [List.set_cons_succ, remF]
    omega
def mu (Es : List En) (s : Cs) : Nat := 2 * remF Es 0 s.tr + s.p.length
structure CsOk (Es : List En) (s : Cs) : Prop where
  len : s.tr.length = Es.length
  tr : ∀ (k : Nat) (c : Int), s.tr[k]? = some c → 0 ≤ c ∧ c ≤ ((nxE Es k).length : Int)
  nd : (s.p ++ s.d).Nodup
  lo : ∀ x ∈ s.p ++ s.d, 0 ≤ x ∧ x < (Es.length : Int)
  mem : ∀ x ∈ s.p ++ s.d, x ∈ s.l
theorem CsOk.setTr {Es : List En} {s : Cs} (h : CsOk Es s) (tr : List Int) (h1 : tr.length = Es.length) (h2 : ∀ (k : Nat) (c : Int), tr[k]? = some c → 0 ≤ c ∧ c ≤ ((nxE Es k).length : Int)) : CsOk Es ⟨s.l, s.p, s.d, tr⟩ := ⟨h1, h2, h.nd, h.lo, h.mem⟩
theorem CsOk.small {Es : List En} {s : Cs} (h : CsOk Es s) : s.p.length + s.d.length ≤ Es.length := by
  have := nodup_le Es.length (s.p ++ s.d) h.nd h.lo
  rwa [List.length_append] at this
theorem CsOk.enter {Es : List En} {s : Cs} (h : CsOk Es s) {i : Nat} (hi : i < Es.length) (hn : Es.length ≤ 1000) : CsOk Es (enterS s (i : Int)) := by
  have hok : okB (i : Int) = true := by simp [okB]; omega
  have hput : ∀ x, (x ∈ s.l ∨ x = (i : Int)) → x ∈ putL s.l (i : Int) := fun x hx => (mem_putL s.l (i : Int) x).2 (hx.imp id (fun h => ⟨h, hok⟩))
  unfold enterS
  obtain ⟨L2, hL2⟩ : ∃ q, putL s.l (i : Int) = q := ⟨_, rfl⟩
  rw [hL2] at hput ⊢
  cases hb : hasB s.l (i : Int) with
  | true =>
    simp only [if_true]
    refine ⟨h.len, h.tr, h.nd, h.lo, ?_⟩
    intro x hx
    exact hput x (.inl (h.mem x hx))
  | false =>
    have hni : (i : Int) ∉ s.p ++ s.d := fun hx => by
      have := (hasB_iff s.l (i : Int)).2 (h.mem _ hx)
      rw [hb] at this
      cases this
    simp only [Bool.false_eq_true, if_false]
    have hmem : ∀ x, x ∈ s.p ++ [(i : Int)] ++ s.d ↔ x = (i : Int) ∨ x ∈ s.p ++ s.d := fun x => by
      simp only [List.mem_append, List.mem_singleton]
      constructor
      · rintro ((h | h) | h)
        · exact .inr (.inl h)
        · exact .inl h
        · exact .inr (.inr h)
      · rintro (h | h | h)
        · exact .inl (.inr h)
        · exact .inl (.inl h)
        · exact .inr h
    refine ⟨h.len, h.tr, ?_, ?_, ?_⟩
    · have h1 : ((i : Int) :: (s.p ++ s.d)).Nodup := List.nodup_cons.2 ⟨hni, h.nd⟩
      refine (List.Perm.nodup_iff ?_).1 h1
      simp only [List.append_assoc, List.singleton_append]
      exact List.perm_middle.symm
    · intro x hx
      rcases (hmem x).1 hx with rfl | hx
      · omega
      · exact h.lo x hx
    · intro x hx
      rcases (hmem x).1 hx with rfl | hx
      · exact hput _ (.inr rfl)
      · exact hput _ (.inl (h.mem x hx))
theorem enterS_mu (Es : List En) (s : Cs) (i : Int) (tr : List Int) : mu Es { enterS s i with tr := tr } ≤ 2 * remF Es 0 tr + s.p.length + 1 := by
  unfold mu enterS
  simp only
  split <;> simp <;> omega
theorem last_at {p : List Int} {x : Int} (h : p.getLast? = some x) : ∃ q, p = q ++ [x] := by
  rcases List.eq_nil_or_concat p with rfl | ⟨q, y, rfl⟩
  · simp at h
  · simp at h
    exact ⟨q, by rw [h]; simp⟩
/-- The step that goes on to the next one above. -/
theorem cstep_go {Es : List En} {s : Cs} (hok : EsOk Es) (h : CsOk Es s) {q : List Int} {x : Nat} {c a : Nat} (hp : s.p = q ++ [(x : Int)]) (hc : s.tr[x]? = some (c : Int)) (ha : (nxE Es x)[c]? = some a) :
    cstep Es s = some { enterS s (a : Int) with tr := s.tr.set x ((c : Int) + 1) } ∧ CsOk Es { enterS s (a : Int) with tr := s.tr.set x ((c : Int) + 1) } ∧ mu Es { enterS s (a : Int) with tr := s.tr.set x ((c : Int) + 1) } < mu Es s := by
  have hcl := (List.getElem?_eq_some_iff.1 ha).1
  have hE := h.enter (hok.lt x a (List.mem_of_getElem? ha)) hok.n
  refine ⟨?_, hE.setTr _ (by rw [List.length_set]; exact h.len) ?_, ?_⟩
  · unfold cstep
    rw [hp, List.getLast?_append]
    simp only [List.getLast?_singleton, Option.some_or, Int.toNat_natCast, hc, Option.getD_some, ha]
  · intro k c' hk
    rw [List.getElem?_set] at hk
    by_cases e : x = k
    · subst e
      rw [if_pos rfl] at hk
      split at hk
      · injection hk with hk
        subst hk
        omega
      · cases hk
    · rw [if_neg e] at hk
      exact h.tr k c' hk
  · have h1 := enterS_mu Es s (a : Int) (s.tr.set x ((c : Int) + 1))
    have h2 := remF_set Es s.tr 0 x (c : Int) hc (by omega) (by rw [Nat.zero_add, Int.toNat_natCast]; exact hcl)
    unfold mu at h1 ⊢
    omega
/-- The step that is done with one. -/
theorem cstep_done {Es : List En} {s : Cs} (h : CsOk Es s) {q : List Int} {x : Nat} {c : Nat} (hp : s.p = q ++ [(x : Int)]) (hc : s.tr[x]? = some (c : Int)) (ha : (nxE Es x).length ≤ c) :
    cstep Es s = some { s with p := q, d := s.d ++ [(x : Int)] } ∧ CsOk Es { s with p := q, d := s.d ++ [(x : Int)] } ∧ mu Es { s with p := q, d := s.d ++ [(x : Int)] } < mu Es s := by
  have hmem : ∀ y, y ∈ q ++ (s.d ++ [(x : Int)]) ↔ y ∈ s.p ++ s.d := fun y => by
    rw [hp]
    simp only [List.mem_append, List.mem_singleton]
    constructor
    · rintro (h | h | h)
      · exact .inl (.inl h)
      · exact .inr h
      · exact .inl (.inr h)
    · rintro ((h | h) | h)
      · exact .inl h
      · exact .inr (.inr h)
      · exact .inr (.inl h)
  refine ⟨?_, ⟨h.len, h.tr, ?_, fun y hy => h.lo y ((hmem y).1 hy), fun y hy => h.mem y ((hmem y).1 hy)⟩, ?_⟩
  · unfold cstep
    rw [hp, List.getLast?_append]
    simp only [List.getLast?_singleton, Option.some_or, Int.toNat_natCast, hc, Option.getD_some, List.getElem?_eq_none ha]
    simp
  · have := h.nd
    rw [hp] at this
    refine (List.Perm.nodup_iff ?_).1 this
    simp only [List.append_assoc]
    exact List.Perm.append_left q List.perm_append_comm
  · unfold mu
    rw [hp]
    simp
end Go.Proofs.YtbocejiclellfaaGreatDoor
