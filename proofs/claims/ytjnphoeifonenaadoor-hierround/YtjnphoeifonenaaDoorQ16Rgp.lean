import Derived.Test.YtjnphoeifonenaaDoorQ09Orp

/- Rings of classes: plain. -/
set_option linter.unusedSimpArgs false
set_option linter.unusedVariables false
set_option maxRecDepth 100000
namespace Go.Proofs.YtjnphoeifonenaaDoor
open Go.RowKit

def rgT (n : Nat) : ByteArray := ⟨#[UInt8.ofNat (97 + n)]⟩
/-- Which one stands above. -/
def rgU (k m i : Nat) : ByteArray := if i < m then ⟨#[]⟩ else rgT (m + (i - m + 1) % k)
def ringC (k m : Nat) (face : Bool) (i : Nat) : K8 :=
  ⟨rgT i, if face then ⟨#[]⟩ else rgU k m i, face, if face && decide (m ≤ i) then [rgU k m i] else [], (i + 1 : Nat), 7⟩
def ringL (k m : Nat) (face : Bool) : List K8 := (List.range (m + k)).map (ringC k m face)
/-- Without the last link. -/
def ringZ (k m : Nat) (face : Bool) : List K8 := (ringL k m face).set (m + k - 1) ⟨rgT (m + k - 1), ⟨#[]⟩, face, [], (m + k : Nat), 7⟩
def ringOk (k m : Nat) (face : Bool) : Bool :=
  (filK (ringL k m face) (ringL k m face) 0).isNone && clAll (esL (ringL k m face)) 200 (m + k) &&
    decide (roundL (esL (ringL k m face)) (climbC (esL (ringL k m face)) 200 (m + k)).d.reverse [] (-1) = (m : Int)) &&
  ((filK (ringZ k m face) (ringZ k m face) 0).isNone && clAll (esL (ringZ k m face)) 200 (m + k) &&
    decide (roundL (esL (ringZ k m face)) (climbC (esL (ringZ k m face)) 200 (m + k)).d.reverse [] (-1) = -1) &&
    decide ((abvL (esL (ringZ k m face)) [(m : Int)]).length = k))
theorem ring_ok : ∀ (k : Fin 8) (m : Fin 4) (face : Bool), ringOk (k.val + 1) m.val face = true := by decide +kernel
end Go.Proofs.YtjnphoeifonenaaDoor

/- Classes of the law's own making, in memory. -/
set_option linter.unusedSimpArgs false
set_option linter.unusedVariables false
set_option maxRecDepth 100000
namespace Go.Proofs.YtjnphoeifonenaaDoor
open Go.RowKit

def RdTx (A : Nat → Prop) (w : World) (cs : List Value) (s : ByteArray) : Prop := cs = [.string s]
theorem goodTx : GoodR 1 RdTx where
  turn h _ _ := h
  mono h _ := h
  len h := by unfold RdTx at h; rw [h]; rfl
  one h := by unfold RdTx at h; rw [h]; intro u hu; simp at hu; rw [hu]; rfl
def rgC (c : K8) (V : Value) : List Value := [.string c.nm, .string c.sup, .bool c.face, V, .slice none 0 0, .slice none 0 0, .slice none 0 0, .pointer none, .int .i64 c.p, .int .i64 c.q]
def RdC8 (A : Nat → Prop) (w : World) (cs : List Value) (c : K8) : Prop := ∃ V, cs = rgC c V ∧ RdV 1 RdTx A w V c.fcs
theorem goodC8 : GoodR 10 RdC8 where
  turn := by
    rintro A w w' F cs m ⟨V, e, h⟩ t hF
    exact ⟨V, e, h.turn goodTx t hF⟩
  mono := by
    rintro A B w cs m ⟨V, e, h⟩ hB
    exact ⟨V, e, h.mono goodTx hB⟩
  len := by
    rintro A w cs m ⟨V, rfl, h⟩
    rfl
  one := by
    rintro A w cs m ⟨V, rfl, h⟩ u hu
    simp [rgC] at hu
    rcases hu with rfl | rfl | rfl | rfl | rfl | rfl | rfl | rfl
    all_goals first | rfl | exact rdv_one h
theorem class_info : (Tryd.prog.info? 51).map (fun i => (i.zero, i.size, i.bytes)) = some (some (.agg #[.string ⟨#[]⟩, .string ⟨#[]⟩, .bool false, .slice none 0 0, .slice none 0 0, .slice none 0 0, .slice none 0 0, .pointer none, .int .i64 0, .int .i64 0]), 10, 160) := by kernel_rfl
/-- What reads as a class of the law's own reads as the table asks. -/
theorem rdk_of {A : Nat → Prop} {w : World} {cs : List Value} {c : K8} (h : RdC8 A w cs c) : RdK w.heap.size w cs c := by
  obtain ⟨V, rfl, hV⟩ := h
  obtain ⟨P, cp, rfl, hc, hh⟩ := hV
  refine ⟨P, cp, none, 0, 0, none, 0, 0, none, 0, 0, none, rfl, fun k s hs => ?_⟩
  rcases hh with h0 | ⟨b, rfl, hA, hb, hat⟩
  · rw [h0] at hs; simp at hs
  · obtain ⟨cs, hcs, hrd⟩ := hat k s hs
    unfold RdTx at hrd
    subst hrd
    have := hcs 0 _ rfl
    rw [show k * 1 + 0 = 0 + k by omega] at this
    exact ⟨b, 0, rfl, hb, hb, this⟩
theorem rdks_of {A : Nat → Prop} {w : World} {V : Value} {l : List K8} (h : RdV 10 RdC8 A w V l) : ∃ P c, V = .slice P l.length c ∧ l.length ≤ c ∧ RdKs w.heap.size w P l := by
  obtain ⟨P, c, e, hc, hh⟩ := h
  refine ⟨P, c, e, hc, fun j x hx => ?_⟩
  rcases hh with h0 | ⟨b, rfl, hA, hb, hat⟩
  · rw [h0] at hx; simp at hx
  · obtain ⟨cs, hcs, hrd⟩ := hat j x hx
    exact ⟨b, 0, cs, rfl, hb, hb, fun i v hv => by rw [Nat.zero_add]; exact hcs i v hv, rdk_of hrd⟩
/-- One of the row's classes put in place of another. -/
theorem rdks_set {A : Nat → Prop} {w : World} {V : Value} {l : List K8} {c' : K8} {m : Nat} (h : OwnL 51 10 RdC8 A w V l) (hm : m < l.length) (cs' : List Value) (hl' : cs'.length = 10) (hk : RdK w.heap.size w cs' c') (hf : c'.fcs = []) :
    ∃ g c, V = .slice (some ⟨g, 0, none⟩) l.length c ∧ g < w.heap.size ∧ (∀ i, i < 10 → (w.cell? ⟨g, m * 10 + i, none⟩).isSome = true) ∧ (∀ i, w.frozen? ⟨g, i, none⟩ = false) ∧
      ∀ W, W = w.setCells g (m * 10) cs' → RdKs W.heap.size W (some ⟨g, 0, none⟩) (l.set m c') ∧ Turn [g] w W := by
  obtain ⟨css, h1, h2, h3, h4⟩ := h
  have hlens := OwnL.lens goodC8 h1 h4
  have h2' := h2
  rcases h2.2 with ⟨rfl, hn⟩ | ⟨g, cap, cur, e, hb, hg, hnc, _, _, ht⟩
  · omega
  · have e' : V = .slice (some ⟨g, 0, none⟩) l.length cap := e
    subst e'
    have hgl := (Array.getElem?_eq_some_iff.1 hg).1
    have hcell : ∀ (j : Nat) (x : K8), l[j]? = some x → ∃ cs, css[j]? = some cs ∧ (∀ (i : Nat) (v : Value), cs[i]? = some v → w.cell? ⟨g, j * 10 + i, none⟩ = some v) ∧ RdC8 (fun q => A q ∧ (Value.slice (some ⟨g, 0, none⟩) l.length cap).ownBlock ≠ some q) w cs x := fun j x hx => by
      have hjl : j < l.length := (List.getElem?_eq_some_iff.1 hx).1
      have hjc : j < css.length := by omega
      refine ⟨css[j], List.getElem?_eq_getElem hjc, fun i v hv => ?_, h4 j _ x (List.getElem?_eq_getElem hjc) hx⟩
      have hi : i < 10 := by
        have := (List.getElem?_eq_some_iff.1 hv).1
        rw [hlens css[j] (List.getElem_mem hjc)] at this
        exact this
      rw [World.ownsRow.cellAt (cap := cap) h2' _ (by omega)]
      exact flat_at hlens (List.getElem?_eq_getElem hjc) i v hv
    have hsome : ∀ i, i < 10 → (w.cell? ⟨g, m * 10 + i, none⟩).isSome = true := fun i hi => by
      obtain ⟨x, hx⟩ := at_lt hm
      obtain ⟨cs, hcs, hc, hr⟩ := hcell m x hx
      have := goodC8.len hr
      rw [hc i _ (List.getElem?_eq_getElem (by omega))]
      rfl
    refine ⟨g, cap, rfl, hgl, hsome, fun i => frozen_of_row w g i _ _ hg, fun W hW => ?_⟩
    have tW : Turn [g] w W := by
      have key : ∀ (vs : List Value) (o : Nat) (w1 : World), Turn [g] w1 (w1.setCells g o vs) := fun vs => by
        induction vs with
        | nil => intro o w1; exact Turn.refl _ _
        | cons v vs ih =>
          intro o w1
          exact ((Turn.refl [g] w1).setCell (p := ⟨g, o, none⟩) (.inl (by simp)) v).trans (ih (o + 1) _) (fun y hy => .inl hy)
      rw [hW]
      exact key cs' (m * 10) w
    refine ⟨fun j x hx => ?_, tW⟩
    by_cases e : j = m
    · subst e
      rw [List.getElem?_set_self hm] at hx
      injection hx with hx
      subst hx
      refine ⟨g, 0, cs', rfl, Nat.lt_of_lt_of_le hgl tW.size, Nat.lt_of_lt_of_le hgl tW.size, fun i v hv => ?_, ?_⟩
      · have hi : i < cs'.length := (List.getElem?_eq_some_iff.1 hv).1
        rw [hW, Nat.zero_add, World.cell?_setCells_in g cs' (j * 10) w (fun i hi => hsome i (by omega)) i hi]
        rw [List.getElem?_eq_getElem hi] at hv
        exact hv
      · obtain ⟨A3, c3, A4, n4, c4, A5, n5, c5, A6, n6, c6, I, e, _⟩ := hk
        exact ⟨A3, c3, A4, n4, c4, A5, n5, c5, A6, n6, c6, I, e, fun k s hs => by rw [hf] at hs; simp at hs⟩
    · rw [List.getElem?_set_ne (by omega)] at hx
      obtain ⟨cs, hcs, hc, hr⟩ := hcell j x hx
      have hlen := goodC8.len hr
      refine ⟨g, 0, cs, rfl, Nat.lt_of_lt_of_le hgl tW.size, Nat.lt_of_lt_of_le hgl tW.size, fun i v hv => ?_, ?_⟩
      · have hi : i < 10 := by have := (List.getElem?_eq_some_iff.1 hv).1; omega
        rw [hW, Nat.zero_add, World.cell?_setCells_out g cs' (m * 10) w _ (fun _ _ => by simp only; omega)]
        exact hc i v hv
      · exact rdk_of (goodC8.turn hr tW (fun q hq hh => by
          simp at hq
          subst hq
          exact hh.2 rfl))
end Go.Proofs.YtjnphoeifonenaaDoor
