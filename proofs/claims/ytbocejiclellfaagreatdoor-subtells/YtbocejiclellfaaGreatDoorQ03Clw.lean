import Derived.Test.YtbocejiclellfaaGreatDoorQ02Tbl
import Derived.WalkSmall
import Derived.Lib.BufferWrite
import Derived.Lib.UnsafeStr
import Derived.Laws.MakeOwn
import Derived.BigQuiet

/- climbed. -/
set_option linter.unusedSimpArgs false
set_option linter.unusedVariables false
set_option maxRecDepth 100000
namespace Go.Proofs.YtbocejiclellfaaGreatDoor
open Go.RowKit
attribute [local go_sem] fldE0 fldE1 fldE2 fldE3
structure Cm (w : World) (r wb pb : Nat) (F : List Nat) (V Vd Vt : Value) (s : Cs) : Prop where
  pw : Pw w r wb pb F V s.l s.p
  dn : OwnI w r Vd s.d
  tr : OwnI w r Vt s.tr
  a1 : ∀ g, Vd.ownBlock = some g → g ∉ F ∧ g ≠ pb ∧ V.ownBlock ≠ some g
  a2 : ∀ g, Vt.ownBlock = some g → g ∉ F ∧ g ≠ pb ∧ V.ownBlock ≠ some g ∧ Vd.ownBlock ≠ some g
theorem Pw.turn' {w w' : World} {r wb pb : Nat} {F : List Nat} {V : Value} {l p : List Int} {G : List Nat} (h : Pw w r wb pb F V l p) (t : Turn G w w') (hF : ∀ g ∈ G, g ∉ F) (hp : pb ∉ G) (hV : ∀ g, V.ownBlock = some g → g ∉ G) : Pw w' r wb pb F V l p :=
  ⟨h.wd.turn t hF, t.heap h.blk hp, h.own.turn t hV, h.pF, h.vF, h.fr, h.pr, Nat.le_trans h.wr t.size⟩
theorem Cm.keep {w w' : World} {r wb pb : Nat} {F : List Nat} {V Vd Vt : Value} {s : Cs} (h : Cm w r wb pb F V Vd Vt s) (t : Turn [] w w') : Cm w' r wb pb F V Vd Vt s :=
  ⟨h.pw.turn' t (by simp) (by simp) (by simp), h.dn.turn' t, h.tr.turn' t, h.a1, h.a2⟩
theorem Cm.enter {w w' : World} {r wb pb : Nat} {F F' : List Nat} {V V' Vd Vt : Value} {s : Cs} {i : Int} (h : Cm w r wb pb F V Vd Vt s) (h' : Pw w' r wb pb F' V' (putL s.l i) (if hasB s.l i then s.p else s.p ++ [i])) (t : Turn (pb :: V.ownBlock.toList ++ F) w w') (f : Foot w.heap.size F F') (m : Moved w V V') :
    Cm w' r wb pb F' V' Vd Vt (enterS s i) := by
  have hd : ∀ g, Vd.ownBlock = some g → g ∉ pb :: V.ownBlock.toList ++ F := fun g hg hm => by
    obtain ⟨x1, x2, x3⟩ := h.a1 g hg
    simp at hm
    rcases hm with hm | hm | hm
    · exact x2 hm
    · exact x3 hm
    · exact x1 hm
  have ht : ∀ g, Vt.ownBlock = some g → g ∉ pb :: V.ownBlock.toList ++ F := fun g hg hm => by
    obtain ⟨x1, x2, x3, _⟩ := h.a2 g hg
    simp at hm
    rcases hm with hm | hm | hm
    · exact x2 hm
    · exact x3 hm
    · exact x1 hm
  have hF' : ∀ g ∈ F', g < w.heap.size → g ∈ F := fun g hg hl => by
    rcases f g hg with h | h
    · exact h
    · omega
  have hV' : ∀ g, V'.ownBlock = some g → g < w.heap.size → V.ownBlock = some g := fun g hg hl => by
    rcases m with m | ⟨g', e, hle⟩
    · rw [← m]; exact hg
    · rw [hg] at e
      injection e with e
      omega
  refine ⟨h', h.dn.turn t hd, h.tr.turn t ht, fun g hg => ?_, fun g hg => ?_⟩
  · obtain ⟨x1, x2, x3⟩ := h.a1 g hg
    have hl := (h.dn.lt g hg).2
    exact ⟨fun hh => x1 (hF' g hh hl), x2, fun hh => x3 (hV' g hh hl)⟩
  · obtain ⟨x1, x2, x3, x4⟩ := h.a2 g hg
    have hl := (h.tr.lt g hg).2
    exact ⟨fun hh => x1 (hF' g hh hl), x2, fun hh => x3 (hV' g hh hl), x4⟩
theorem OwnI.putAt {w : World} {r g n c j : Nat} {l : List Int} {y : Int} (h : OwnI w r (.slice (some ⟨g, 0, none⟩) n c) l) (hn : n = l.length) : OwnI (w.setCell ⟨g, j, none⟩ (.int .i64 y)) r (.slice (some ⟨g, 0, none⟩) n c) (l.set j y) := by
  subst hn
  have := (World.ownsRow.stored h j (.int .i64 y)).1
  unfold OwnI
  rw [List.length_set, List.map_set]
  exact this
theorem Cm.tried {w : World} {r wb pb g n c x : Nat} {F : List Nat} {V Vd : Value} {s : Cs} {y : Int} (h : Cm w r wb pb F V Vd (.slice (some ⟨g, 0, none⟩) n c) s) (hn : n = s.tr.length) :
    Cm (w.setCell ⟨g, x, none⟩ (.int .i64 y)) r wb pb F V Vd (.slice (some ⟨g, 0, none⟩) n c) ⟨s.l, s.p, s.d, s.tr.set x y⟩ ∧ Turn [g] w (w.setCell ⟨g, x, none⟩ (.int .i64 y)) := by
  have tS : Turn [g] w (w.setCell ⟨g, x, none⟩ (.int .i64 y)) := (Turn.refl [g] w).setCell (.inl (by simp)) _
  obtain ⟨x1, x2, x3, x4⟩ := h.a2 g rfl
  exact ⟨⟨h.pw.turn' tS (by simpa using x1) (by simpa using fun e => x2 e.symm) (fun q hq hh => by simp at hh; subst hh; exact x3 hq), h.dn.turn tS (fun q hq hh => by simp at hh; subst hh; exact x4 hq), h.tr.putAt hn, h.a1, h.a2⟩, tS⟩
theorem Cm.pop {w : World} {r wb pb g c : Nat} {F : List Nat} {Vd Vt : Value} {s : Cs} {q : List Int} {x : Int} (h : Cm w r wb pb F (.slice (some ⟨g, 0, none⟩) (q.length + 1) c) Vd Vt s) (hp : s.p = q ++ [x]) :
    Cm (w.setCell ⟨pb, 0, none⟩ (.slice (some ⟨g, 0, none⟩) q.length c)) r wb pb F (.slice (some ⟨g, 0, none⟩) q.length c) Vd Vt ⟨s.l, q, s.d, s.tr⟩ := by
  have tS : Turn [pb] w (w.setCell ⟨pb, 0, none⟩ (.slice (some ⟨g, 0, none⟩) q.length c)) := (Turn.refl [pb] w).setCell (.inl (by simp)) _
  have ho := h.pw.own
  rw [hp] at ho
  have ho2 : OwnI w r (.slice (some ⟨g, 0, none⟩) q.length c) q := by
    unfold OwnI at ho ⊢
    rw [List.length_append, List.map_append] at ho
    exact ownsRow_pop (by simp) ho
  exact ⟨⟨h.pw.wd.turn tS (by simpa using h.pw.pF), heap_setCell_same w pb 0 _ _ _ h.pw.blk, ho2.turn tS (fun y hy hh => (h.pw.vF y hy).2 (by simpa using hh)), h.pw.pF, h.pw.vF, h.pw.fr, h.pw.pr, Nat.le_trans h.pw.wr tS.size⟩,
    h.dn.turn tS (fun y hy hh => (h.a1 y hy).2.1 (by simpa using hh)), h.tr.turn tS (fun y hy hh => (h.a2 y hy).2.1 (by simpa using hh)), h.a1, h.a2⟩
theorem Cm.put {w w' : World} {r wb pb : Nat} {F : List Nat} {V Vd Vd' Vt : Value} {s : Cs} {x : Int} (h : Cm w r wb pb F V Vd Vt s) (ho : OwnI w' r Vd' (s.d ++ [x])) (t : Turn Vd.ownBlock.toList w w') (m : Vd'.ownBlock = Vd.ownBlock ∨ ∃ g, Vd'.ownBlock = some g ∧ w.heap.size ≤ g) :
    Cm w' r wb pb F V Vd' Vt ⟨s.l, s.p, s.d ++ [x], s.tr⟩ := by
  have hv : ∀ g ∈ Vd.ownBlock.toList, g ∉ F ∧ g ≠ pb ∧ V.ownBlock ≠ some g := fun g hg => h.a1 g (by simpa using hg)
  have pbl : pb < w.heap.size := (Array.getElem?_eq_some_iff.1 h.pw.blk).1
  refine ⟨h.pw.turn' t (fun g hg => (hv g hg).1) (fun hg => (hv _ hg).2.1 rfl) (fun g hg hh => (hv g hh).2.2 hg), ho, h.tr.turn t (fun g hg hh => (h.a2 g hg).2.2.2 (by simpa using hh)), fun g hg => ?_, fun g hg => ?_⟩
  · rcases m with m | ⟨g', e, hle⟩
    · exact h.a1 g (by rw [← m]; exact hg)
    · rw [hg] at e
      injection e with e
      subst e
      exact ⟨fun hh => by have := h.pw.wd.lt.2 g hh; omega, by omega, fun hh => by have := (h.pw.own.lt g hh).2; omega⟩
  · obtain ⟨x1, x2, x3, x4⟩ := h.a2 g hg
    refine ⟨x1, x2, x3, ?_⟩
    rcases m with m | ⟨g', e, hle⟩
    · rw [m]; exact x4
    · rw [e]
      intro e2
      injection e2 with e2
      have := (h.tr.lt g hg).2
      omega
theorem OwnI.zeros (w : World) (r n : Nat) (hr : r ≤ w.heap.size) (hn : n ≤ 1000000) : OwnI (w.alloc (.cells (madeCells #[.int .i64 0] (n * 1)) 3)) r (.slice (some ⟨w.heap.size, 0, none⟩) n n) (List.replicate n 0) := by
  refine ⟨by simp, .inr ⟨w.heap.size, n, madeCells #[.int .i64 0] (n * 1), by simp, hr, heap_alloc_new w _, by simp, by simp only [maxLen]; omega, by simp [size_madeCells], ?_⟩⟩
  have h : (madeCells #[.int .i64 0] (n * 1)).toList = List.replicate (n * 1) (.int .i64 0) := by
    apply List.ext_getElem
    · simp [size_madeCells]
    · intro k h1 h2
      simp [madeCells, Nat.mod_one]
  rw [h, List.take_replicate]
  simp
theorem make_ints (n : Nat) (hn : n ≤ 1000000) (W : World) : (Instr.makeSlice 63 (.int .i64 (n : Int)) (.int .i64 (n : Int))).run Tryz.prog W = .ok (.slice (some ⟨W.heap.size, 0, none⟩) n n) (W.alloc (.cells (madeCells #[.int .i64 0] (n * 1)) 3)) := by
  obtain ⟨i0, hi0, hz0, hz1, hz2⟩ := info_parts int_info
  have := run_make (P := Tryz.prog) W 63 3 i0 _ Tryz.underlying63 hi0 hz0 .i64 .i64 (n : Int) (n : Int) (by omega) (by omega) (by rw [hz2]; omega) (by omega)
  rw [hz1] at this
  rw [Nat.mul_one]
  simp at this
  exact this
theorem OwnI.slot {w : World} {r : Nat} {V : Value} {l : List Int} (h : OwnI w r V l) (hl : 0 < l.length) : ∃ g c, V = .slice (some ⟨g, 0, none⟩) l.length c ∧ l.length ≤ c ∧ g < w.heap.size ∧ r ≤ g ∧ (∀ (j : Nat) y, l[j]? = some y → w.cell? ⟨g, j, none⟩ = some (.int .i64 y)) ∧ ∀ j, w.frozen? ⟨g, j, none⟩ = false := by
  rcases h.2 with ⟨_, h0⟩ | ⟨g, cap, cur, e, hb, hg, hnc, _, _, _⟩
  · omega
  · have e' : V = .slice (some ⟨g, 0, none⟩) l.length cap := e
    subst e'
    refine ⟨g, cap, rfl, hnc, (Array.getElem?_eq_some_iff.1 hg).1, hb, fun j y hy => ?_, fun j => frozen_of_row w g j _ _ hg⟩
    obtain ⟨A, c, e2, hi, _⟩ := OwnI.form h
    injection e2 with e2 _ _
    obtain ⟨b, off, e3, _, hc⟩ := hi j y hy
    rw [← e2] at e3
    injection e3 with e3
    injection e3 with e4 e5
    subst e4 e5
    rwa [Nat.zero_add] at hc
theorem enterS_tr (s : Cs) (i : Int) (tr : List Int) : enterS ⟨s.l, s.p, s.d, tr⟩ i = { enterS s i with tr := tr } := by
  obtain ⟨l, p, d, t⟩ := s
  unfold enterS
  rfl
def cs0 (n : Nat) : Cs := ⟨[], [], [], List.replicate n 0⟩
/-- Behind the first k numbers. -/
def climbTo (Es : List En) : Nat → Cs → Prop
  | 0, s => s = cs0 Es.length
  | k + 1, s => ∃ s0 f, climbTo Es k s0 ∧ crun Es f (enterS s0 (k : Int)) = s ∧ s.p = []

/-- How it stands inside: behind some steps from s1. -/
def Ri (Es : List En) (w : World) (r : Nat) (Vt : Value) (s1 : Cs) (v5 : Value) (wr : World) (m : Nat) : Prop :=
  ∃ F V s f, Cm wr r r (r + 1) F V v5 Vt s ∧ crun Es f s1 = s ∧ CsOk Es s ∧ Turn [] w wr ∧ mu Es s = m
set_option maxHeartbeats 25600000 in
theorem climbed_any {A : Nat → Prop} {t : Nat} {M V : Value} {Es : List En} {w : World} (h : Tl w A t M V Es) (hok : EsOk Es) :
    Calls Tryz.prog 58 #[.pointer (some ⟨t, 0, none⟩)] w fun e w' => ∃ U s, e = .returned U ∧ OwnI w' w.heap.size U s.d ∧ climbTo Es Es.length s ∧ CsOk Es s ∧ Turn [] w w' := by
  have hmf : ∀ (fn : Fn) (first cap : Array Value) (w : World), (Instr.makeFunc fn first cap).run Tryz.prog w = .ok (.func fn first cap) w := fun _ _ _ _ => rfl
  have hen := enters_of Tryz.func75 (by kernel_rfl) rfl
  obtain ⟨r, hr⟩ : ∃ r, w.heap.size = r := ⟨_, rfl⟩
  obtain ⟨n, hn⟩ : ∃ n, Es.length = n := ⟨_, rfl⟩
  have hn1 : n ≤ 1000 := by rw [← hn]; exact hok.n
  have hmk := fun W : World => make_ints n (by omega) W
  have HE : Hid (∀ W (i : Int), Turn [] w W → Calls Tryz.prog 50 #[.pointer (some ⟨t, 0, none⟩), .int .i64 i] W fun e w' => ∃ U, e = .returned (.agg #[.string (enAt Es i).nm, .bool (enAt Es i).face, .int .i64 (enAt Es i).sup, U]) ∧ RdV 1 RdN (fun g => A g ∧ g < r) w' U (enAt Es i).rt ∧ Turn [] W w') := Lib.hid fun W i k => entry_any8 ((Tl.below h hr).turn' k) i
  have HL : Hid (∀ W, Turn [] w W → Calls Tryz.prog 45 #[.pointer (some ⟨t, 0, none⟩)] W fun e w' => e = .returned (.int .i64 (n : Int)) ∧ W = w') := Lib.hid fun W k => by rw [← hn]; exact len_any8 (h.turn' k)
  obtain ⟨W1, hW1⟩ : ∃ W, (w.alloc (.cells #[.slice none 0 0] 110)).alloc (.cells #[.slice none 0 0] 63) = W := ⟨_, rfl⟩
  have t1 : Turn [] w W1 := by rw [← hW1]; exact ((Turn.refl [] w).alloc _).alloc _
  have s1 : W1.heap.size = r + 2 := by rw [← hW1, ← hr]; simp
  have b0 : W1.heap[r]? = some (.cells #[.slice none 0 0] 110 (0, 0)) := by rw [← hW1, ← hr]; exact ((Turn.refl [] _).alloc _).heap (heap_alloc_new w _) (by simp)
  have b1 : W1.heap[r + 1]? = some (.cells #[.slice none 0 0] 63 (0, 0)) := by
    rw [← hW1, ← hr]
    have := heap_alloc_new (w.alloc (.cells #[.slice none 0 0] 110)) (.cells #[.slice none 0 0] 63)
    rwa [World.size_alloc] at this
  obtain ⟨W2, hW2⟩ : ∃ W, W1.alloc (.cells (madeCells #[.int .i64 0] n) 3) = W := ⟨_, rfl⟩
  have t2 : Turn [] W1 W2 := by rw [← hW2]; exact (Turn.refl [] W1).alloc _
  have hz : OwnI W2 r (.slice (some ⟨r + 2, 0, none⟩) n n) (List.replicate n 0) := by
    have := OwnI.zeros W1 r n (by omega) (by omega)
    rw [Nat.mul_one, s1, hW2] at this
    exact this
  have hcm : Cm W2 r r (r + 1) [r] (.slice none 0 0) (.slice none 0 0) (.slice (some ⟨r + 2, 0, none⟩) n n) (cs0 n) := by
    have hs2 := t2.size
    refine ⟨⟨.inl ⟨t2.heap b0 (by simp), rfl, rfl⟩, t2.heap b1 (by simp), OwnI.nil _ _, by simp, (fun g hg => by cases hg), by simp, by omega, by omega⟩, OwnI.nil _ _, hz, (fun g hg => by cases hg), fun g hg => ?_⟩
    have e : r + 2 = g := by injection hg
    subst e
    exact ⟨by simp, by omega, (fun h => by cases h), (fun h => by cases h)⟩
  have HCM := Lib.hid hcm
  have HT2 := Lib.hid (t1.trans' t2)
  have HW1 := Lib.hid hW1
  have HW2 := Lib.hid hW2
  have HR := Lib.hid hr
  have HT1 := Lib.hid t1
  have HS1 := Lib.hid s1
  have HOK := Lib.hid hok
  have HN := Lib.hid hn
  have HL1 := Lib.hid (HL.out W1 t1)
  have HL2 := Lib.hid (HL.out W2 (t1.trans' t2))
  clear h hok hn hr hW1 t1 s1 b0 b1 hW2 t2 hz hcm HL
  go_enter Tryz.func58, Tryz.ntmps58
  go_wp2_with fail
  rw [HR.out, HW1.out]
  refine HL1.out.mono ?_
  rintro e w1 ⟨rfl, rfl⟩
  go_wp2_with fail
  rw [HS1.out, HW2.out]
  refine HL2.out.mono ?_
  rintro e w1 ⟨rfl, rfl⟩
  go_wp2_with fail
  go_loopw [5, 17] (fun v5 v17 wr => ∃ k : Nat, k ≤ n ∧ v17 = .int .i64 (k : Int) ∧ Hid (∃ F V s, Cm wr r r (r + 1) F V v5 (.slice (some ⟨r + 2, 0, none⟩) n n) s ∧ climbTo Es k s ∧ s.p = [] ∧ CsOk Es s ∧ Turn [] w wr)) (fun _ v17 _ => n - (intOf v17).toNat)
  case atStart =>
    refine ⟨0, Nat.zero_le _, rfl, Lib.hid ⟨_, _, cs0 n, HCM.out, by rw [← HN.out]; rfl, rfl, ⟨by simp [cs0, HN.out], fun k c hk => ?_, by simp [cs0], by simp [cs0], by simp [cs0]⟩, HT2.out⟩⟩
    have := List.eq_of_mem_replicate (List.mem_of_getElem? hk)
    omega
  case round =>
    obtain ⟨k, hk, rfl, HK⟩ := hrel
    by_cases hlt : k < n
    · have d1 : decide ((k : Int) < (n : Int)) = true := by simp; omega
      have d2 : (k : Int) < (n : Int) := by omega
      obtain ⟨F0, V0, s0, hC, hto, hp0, hso, hT⟩ := HK.out
      have HC := Lib.hid (climb1_any k (by omega) hC.pw (by rw [hp0]; simp))
      have HX := Lib.hid (And.intro hC (And.intro hto (And.intro hp0 (And.intro hso hT))))
      clear hC hto hp0 hso hT HK
      obtain ⟨Wr, hWr⟩ : ∃ q, q = wr := ⟨_, rfl⟩
      subst hWr
      go_wp2_with fail
      refine HC.out.mono ?_
      rintro e w3 ⟨rfl, F3, V3, hP3, t3, f3, m3⟩
      have HS3 : Hid (Ri Es w r (.slice (some ⟨r + 2, 0, none⟩) n n) (enterS s0 (k : Int)) u5 w3 (mu Es (enterS s0 (k : Int)))) := by
        obtain ⟨hC, hto, hp0, hso, hT⟩ := HX.out
        refine Lib.hid ⟨F3, V3, _, 0, hC.enter hP3 t3 f3 m3, rfl, hso.enter (by rw [HN.out]; omega) HOK.out.n, ?_, rfl⟩
        have hrr := HR.out
        refine hT.trans t3 (fun g hg => .inr ?_)
        simp at hg
        rcases hg with rfl | hg | hg
        · omega
        · have := (hC.pw.own.lt g hg).1; omega
        · have := hC.pw.fr g hg; omega
      clear hP3 t3 f3 m3 HC
      go_wp2_with fail
      go_loopw [5] (fun v5 wr => ∃ m, Hid (Ri Es w r (.slice (some ⟨r + 2, 0, none⟩) n n) (enterS s0 (k : Int)) v5 wr m)) (fun v5 wr => least (fun m => Ri Es w r (.slice (some ⟨r + 2, 0, none⟩) n n) (enterS s0 (k : Int)) v5 wr m))
      case atStart => exact ⟨_, HS3⟩
      case round =>
        obtain ⟨m0, HM0⟩ := hrel
        have hsp := least_spec (R := fun m => Ri Es w r (.slice (some ⟨r + 2, 0, none⟩) n n) (enterS s0 (k : Int)) u5 wr m) ⟨m0, HM0.out⟩
        obtain ⟨m, hm⟩ : ∃ m, least (fun m => Ri Es w r (.slice (some ⟨r + 2, 0, none⟩) n n) (enterS s0 (k : Int)) u5 wr m) = m := ⟨_, rfl⟩
        rw [hm] at hsp
        have HMM := Lib.hid hm
        clear hm HM0
        obtain ⟨F, V, s, f, hC, hrun, hso, hT, hmu⟩ := hsp
        have hsm := hso.small
        rw [HN.out] at hsm
        obtain ⟨A5, c5, hv5, _, _⟩ := hC.dn.form
        obtain ⟨Ap, cp, hVp, hpi, hpc⟩ := hC.pw.own.form
        rcases List.eq_nil_or_concat s.p with hp | ⟨q, x, hp⟩
        · rw [hp] at hVp
          have cpb : wr.cell? ⟨r + 1, 0, none⟩ = some (.slice Ap 0 cp) := by rw [cell_of_row wr (r + 1) 0 _ _ _ hC.pw.blk, hVp]; rfl
          have HNX : Hid (∃ F V s, Cm wr r r (r + 1) F V u5 (.slice (some ⟨r + 2, 0, none⟩) n n) s ∧ climbTo Es (k + 1) s ∧ s.p = [] ∧ CsOk Es s ∧ Turn [] w wr) :=
            Lib.hid ⟨F, V, s, hC, ⟨s0, f, HX.out.2.1, hrun, hp⟩, hp, hso, hT⟩
          clear hC hrun hso hT hmu hsm hv5 hpi hp HX HMM hVp hpc
          go_wp2_with fail
          go_roundw
          case rel => exact ⟨k + 1, by omega, by go_num, HNX⟩
          case measure => simp [intOf]; omega
        · rw [List.concat_eq_append] at hp
          obtain ⟨gp, cq, hVq, hcq, hgp, hrgp, hcellp, _⟩ := hC.pw.own.slot (by rw [hp]; simp)
          have hxm : x ∈ s.p ++ s.d := by rw [hp]; simp
          obtain ⟨x0, x1⟩ := hso.lo x hxm
          rw [HN.out] at x1
          obtain ⟨xn, rfl⟩ := Int.eq_ofNat_of_zero_le x0
          have hlp : s.p.length = q.length + 1 := by rw [hp]; simp
          rw [hlp] at hVq hcq
          obtain ⟨N, hNp⟩ : ∃ N, q.length + 1 = N := ⟨_, rfl⟩
          obtain ⟨Q, hQ⟩ : ∃ Q, q.length = Q := ⟨_, rfl⟩
          have cpb : wr.cell? ⟨r + 1, 0, none⟩ = some (.slice (some ⟨gp, 0, none⟩) N cq) := by rw [cell_of_row wr (r + 1) 0 _ _ _ hC.pw.blk, hVq, hNp]; rfl
          have cpx : wr.cell? ⟨gp, Q, none⟩ = some (.int .i64 (xn : Int)) := hcellp Q _ (by rw [hp, ← hQ]; simp)
          have hlt2 := hso.len
          rw [HN.out] at hlt2
          obtain ⟨ci, hci⟩ := at_lt (show xn < s.tr.length by omega)
          obtain ⟨ci0, ci1⟩ := hso.tr xn ci hci
          obtain ⟨c, rfl⟩ := Int.eq_ofNat_of_zero_le ci0
          obtain ⟨gt, ct, hVt, _, hgt, _, hcellt, hfrt⟩ := hC.tr.slot (by omega)
          have egt : gt = r + 2 := by injection hVt with e _ _; injection e with e; injection e with e _; exact e.symm
          subst egt
          have hcq2 : N ≤ cq := by omega
          have n1 : (N : Int) - 1 = (Q : Int) := by omega
          have n2 : (0 : Int) < (N : Int) := by omega
          have n3 : decide ((0 : Int) < (N : Int)) = true := by simp; omega
          have n4 : (0 : Int) ≤ (Q : Int) := by omega
          have n5 : (Q : Int) < (N : Int) := by omega
          have n6 : Q < N := by omega
          have n7 : IntKind.i64.wrap (Q : Int) = (Q : Int) := wrap_small (Q : Int) (by omega) (by omega)
          have n8 : IntKind.i64.wrap ((N : Int) - 1) = (Q : Int) := by rw [n1]; exact n7
          have HCe := Lib.hid (HE.out wr (xn : Int) hT)
          obtain ⟨y, hy⟩ : ∃ y, enAt Es (xn : Int) = y := ⟨_, rfl⟩
          have hrt : nxE Es xn = y.rt := by unfold nxE; rw [hy]
          rw [hy] at HCe
          obtain ⟨nm, face, sup, rt⟩ := y
          simp only at HCe hrt
          have HZ := Lib.hid (And.intro hC (And.intro hrun (And.intro hso (And.intro hT hmu))))
          have HY := Lib.hid (And.intro hp (And.intro hci (And.intro hVq (And.intro hQ (And.intro hNp hrt)))))
          have HSM := Lib.hid hsm
          have HCT := Lib.hid (And.intro (fun j y hj => hcellt j y hj) (And.intro hfrt hgt))
          have hci3 := hcellt xn _ hci
          have hfr3 := hfrt xn
          clear hC hrun hso hT hmu hsm hv5 hpi hp hVp hpc hVq hcellp hxm x0 hlp hNp hQ hlt2 hci ci0 ci1 hVt hcellt hfrt hy hrt
          go_wp2_with fail
          refine HCe.out.mono ?_
          rintro e w4 ⟨U4, rfl, hU4, t4⟩
          obtain ⟨P4, c4, rfl, hc4, hh4⟩ := hU4
          obtain ⟨L, hL⟩ : ∃ L, rt.length = L := ⟨_, rfl⟩
          have k4 : w4.cell? ⟨r + 2, xn, none⟩ = some (.int .i64 (c : Int)) := (t4.cell (p := ⟨r + 2, xn, none⟩) HCT.out.2.2 (by simp)).trans hci3
          have kf4 : w4.frozen? ⟨r + 2, xn, none⟩ = false := by
            have := HCT.out.2.1 xn
            simp only [World.frozen?] at this ⊢
            rw [t4.block (r + 2) HCT.out.2.2 (by simp)]
            exact this
          have HC4 := Lib.hid (HZ.out.1.keep t4)
          have HH4 := Lib.hid (And.intro hh4 hL)
          have HT4 := Lib.hid t4
          rw [hL] at hc4 ⊢
          have hxn : xn < n := by omega
          clear hh4 hL t4 HCe cpb cpx hci3 hfr3
          by_cases hcl : c < L
          · have e1 : decide ((c : Int) < (L : Int)) = true := by simp; omega
            have e2 : (c : Int) < (L : Int) := by omega
            obtain ⟨a, ha⟩ := at_lt (show c < rt.length by have := HH4.out.2; omega)
            obtain ⟨b, rfl, hb, hbl, hcb⟩ : ∃ b, P4 = some ⟨b, 0, none⟩ ∧ b < r ∧ b < w4.heap.size ∧ w4.cell? ⟨b, c, none⟩ = some (.int .i64 (a : Int)) := by
              rcases HH4.out.1 with h0 | ⟨b, e, hA, hb, hat⟩
              · rw [h0] at ha; simp at ha
              · obtain ⟨cs, hcs, hrd⟩ := hat c a ha
                unfold RdN at hrd
                subst hrd
                have h1 := hcs 0 _ rfl
                rw [show c * 1 + 0 = c by omega] at h1
                exact ⟨b, e, hA.2, hb, h1⟩
            obtain ⟨hC5, t5⟩ := Cm.tried (x := xn) (y := (c : Int) + 1) HC4.out (by have := HZ.out.2.2.1.len; rw [HN.out] at this; exact this.symm)
            have han : a < n := by rw [← HN.out]; exact HOK.out.lt xn a (by rw [HY.out.2.2.2.2.2]; exact List.mem_of_getElem? ha)
            obtain ⟨W5, hW5⟩ : ∃ W, w4.setCell ⟨r + 2, xn, none⟩ (.int .i64 ((c : Int) + 1)) = W := ⟨_, rfl⟩
            rw [hW5] at hC5 t5
            have k5 : W5.cell? ⟨r + 2, xn, none⟩ = some (.int .i64 ((c : Int) + 1)) := by
              rw [← hW5]
              exact World.cell?_setCell_same' _ _ _ (by rw [k4]; rfl)
            have b5 : W5.cell? ⟨b, c, none⟩ = some (.int .i64 (a : Int)) := (t5.cell (p := ⟨b, c, none⟩) hbl (by simp; omega)).trans hcb
            have hbr : b ≠ r + 2 := by omega
            have hL1 : L ≤ 1000 := by rw [← HH4.out.2, ← HY.out.2.2.2.2.2]; exact HOK.out.few xn
            have w1 : IntKind.i64.wrap ((c : Int) + 1) = (c : Int) + 1 := wrap_small _ (by omega) (by omega)
            have w2 : IntKind.i64.wrap (c : Int) = (c : Int) := wrap_small _ (by omega) (by omega)
            have HCa := Lib.hid (climb1_any a (by omega) hC5.pw (by have := HSM.out; show s.p.length ≤ 1000000; omega))
            have HC5 := Lib.hid (And.intro hC5 t5)
            have HW5 := Lib.hid hW5
            have HA := Lib.hid (And.intro ha han)
            clear hC5 t5 hW5 ha han HH4
            go_wp2_with fail
            rw [HW5.out]
            refine HCa.out.mono ?_
            rintro e w6 ⟨rfl, F6, V6, hP6, t6, f6, m6⟩
            have HN6 : Hid (∃ m', m' < m ∧ Ri Es w r (.slice (some ⟨r + 2, 0, none⟩) n n) (enterS s0 (k : Int)) u5 w6 m') := by
              obtain ⟨hC, hrun, hso, hT, hmu⟩ := HZ.out
              obtain ⟨hC5, t5⟩ := HC5.out
              obtain ⟨g1, g2, g3⟩ := cstep_go HOK.out hso HY.out.1 HY.out.2.1 (by rw [HY.out.2.2.2.2.2]; exact HA.out.1)
              have hC6 := hC5.enter hP6 t6 f6 m6
              rw [enterS_tr] at hC6
              refine Lib.hid ⟨_, by rw [← hmu]; exact g3, F6, V6, _, f + 1, hC6, crun_snoc Es f _ _ (by rw [hrun]; exact g1), g2, ?_, rfl⟩
              have hrr := HR.out
              refine ((hT.trans' HT4.out).trans t5 (fun g hg => .inr (by simp at hg; omega))).trans t6 (fun g hg => .inr ?_)
              simp at hg
              rcases hg with rfl | hg | hg
              · omega
              · have := (hC5.pw.own.lt g hg).1; omega
              · have := hC5.pw.fr g hg; omega
            clear hP6 t6 f6 m6 HCa HC5 HZ HX HY HA HC4 HCT k4 k5 b5
            go_wp2_with fail
            go_roundw
            case rel => obtain ⟨m', _, h⟩ := HN6.out; exact ⟨m', Lib.hid h⟩
            case measure =>
              obtain ⟨m', hlt', h⟩ := HN6.out
              rw [HMM.out]
              exact Nat.lt_of_le_of_lt (least_le h) hlt'
          · have e1 : decide ((c : Int) < (L : Int)) = false := by simp; omega
            have e2 : ¬ (c : Int) < (L : Int) := by omega
            have hVq := HY.out.2.2.1
            subst hVq
            have hpop := Cm.pop HC4.out HY.out.1
            rw [HY.out.2.2.2.1] at hpop
            have p4 : w4.cell? ⟨r + 1, 0, none⟩ = some (.slice (some ⟨gp, 0, none⟩) N cq) := by rw [cell_of_row w4 (r + 1) 0 _ _ _ HC4.out.pw.blk, HY.out.2.2.2.2.1]; rfl
            have pf4 : w4.frozen? ⟨r + 1, 0, none⟩ = false := frozen_of_row w4 (r + 1) 0 _ _ HC4.out.pw.blk
            have n9 : (Q : Int) ≤ (cq : Int) := by omega
            have n10 : Q ≤ cq := by omega
            have hdl : s.d.length ≤ 10000000 := by have := HSM.out; omega
            have t5 : Turn [r + 1] w4 (w4.setCell ⟨r + 1, 0, none⟩ (.slice (some ⟨gp, 0, none⟩) Q cq)) := (Turn.refl [r + 1] w4).setCell (.inl (by simp)) _
            have hr5 : r ≤ (w4.setCell ⟨r + 1, 0, none⟩ (.slice (some ⟨gp, 0, none⟩) Q cq)).heap.size := hpop.pw.wr
            have HP := Lib.hid hpop
            have HT5 := Lib.hid t5
            have HR5 := Lib.hid hr5
            clear hpop t5 hr5
            go_wp2_with (at_builtin
                         refine wpList_app1' rfl (.tmp 64) (.tmp 66) rfl (w4.setCell ⟨r + 1, 0, none⟩ (.slice (some ⟨gp, 0, none⟩) Q cq)) r u5 s.d (xn : Int) 1 rfl HP.out.dn (by simp [Act.eval, World.setCell]) hdl HR5.out ?_
                         intro v6 w6 ho6 ht6 hm6
                         have HO6 := Lib.hid (And.intro ho6 (And.intro ht6 hm6))
                         clear ho6 ht6 hm6)
            have HN6 : Hid (∃ m', m' < m ∧ Ri Es w r (.slice (some ⟨r + 2, 0, none⟩) n n) (enterS s0 (k : Int)) v6 w6 m') := by
              obtain ⟨hC, hrun, hso, hT, hmu⟩ := HZ.out
              obtain ⟨ho6, ht6, hm6⟩ := HO6.out
              obtain ⟨g1, g2, g3⟩ := cstep_done hso HY.out.1 HY.out.2.1 (by rw [HY.out.2.2.2.2.2, HH4.out.2]; omega)
              have hC6 := Cm.put HP.out ho6 ht6 hm6
              refine Lib.hid ⟨_, by rw [← hmu]; exact g3, F, _, _, f + 1, hC6, crun_snoc Es f _ _ (by rw [hrun]; exact g1), g2, ?_, rfl⟩
              have hrr := HR.out
              refine ((hT.trans' HT4.out).trans HT5.out (fun g hg => .inr (by simp at hg; omega))).trans ht6 (fun g hg => .inr ?_)
              have := (HP.out.dn.lt g (by simpa using hg)).1
              omega
            clear HP HT5 HR5 HO6 HZ HX HY HC4 HCT k4 p4 pf4 HH4
            go_roundw
            case rel => obtain ⟨m', _, h⟩ := HN6.out; exact ⟨m', Lib.hid h⟩
            case measure =>
              obtain ⟨m', hlt', h⟩ := HN6.out
              rw [HMM.out]
              exact Nat.lt_of_le_of_lt (least_le h) hlt'
    · obtain rfl : k = n := by omega
      have d1 : decide ((k : Int) < (k : Int)) = false := by simp
      obtain ⟨F, V, s, hC, hto, hp, hso, hT⟩ := HK.out
      obtain ⟨A5, c5, hv5, _, _⟩ := hC.dn.form
      subst hv5
      have HX := Lib.hid (And.intro hC.dn (And.intro hto (And.intro hso hT)))
      clear hC hto hp hso hT HK
      go_wp2_with fail
      go_ret
      rw [HN.out, HR.out]
      exact ⟨_, s, rfl, HX.out.1, HX.out.2.1, HX.out.2.2.1, HX.out.2.2.2⟩
end Go.Proofs.YtbocejiclellfaaGreatDoor

/- round: what it reads and makes, beside the walk. -/
set_option linter.unusedSimpArgs false
set_option linter.unusedVariables false
set_option maxRecDepth 100000
namespace Go.Proofs.YtbocejiclellfaaGreatDoor
open Go.RowKit
attribute [local go_sem] fldE0 fldE1 fldE2 fldE3
/-- All of a list of lists are numbers below n. -/
def LsLt (n : Nat) (ls : List (List Int)) : Prop := ∀ l ∈ ls, ∀ x ∈ l, 0 ≤ x ∧ x < (n : Int)
theorem LsLt.set {n : Nat} {ls : List (List Int)} (h : LsLt n ls) (a i : Nat) (hi : i < n) : LsLt n (ls.set a ((ls[a]?.getD []) ++ [(i : Int)])) := fun l hl x hx => by
  rcases List.mem_or_eq_of_mem_set hl with hl | rfl
  · exact h l hl x hx
  · rcases List.mem_append.1 hx with hx | hx
    · cases hq : ls[a]? with
      | none => rw [hq] at hx; simp at hx
      | some q =>
        rw [hq] at hx
        exact h q (List.mem_of_getElem? hq) x hx
    · simp at hx
      omega
theorem addB_facts {n i : Nat} (hi : i < n) : ∀ (us : List Nat) (m : Nat) (ls : List (List Int)), LsLe m ls → LsLt n ls → LsLe (m + us.length) (addB i us ls) ∧ LsLt n (addB i us ls)
  | [], m, ls, h1, h2 => ⟨by simpa [addB] using h1, by simpa [addB] using h2⟩
  | a :: us, m, ls, h1, h2 => by
    have := addB_facts hi us (m + 1) _ (h1.set a (i : Int)) (h2.set a i hi)
    rw [addB]
    refine ⟨?_, this.2⟩
    rw [List.length_cons, show m + (us.length + 1) = m + 1 + us.length by omega]
    exact this.1
theorem LsLe.mono {m m' : Nat} {ls : List (List Int)} (h : LsLe m ls) (hm : m ≤ m') : LsLe m' ls := fun l hl => Nat.le_trans (h l hl) hm
theorem belF_facts {Es : List En} (hok : EsOk Es) : ∀ (f k m : Nat) (ls : List (List Int)), k + f = Es.length → LsLe m ls → LsLt Es.length ls → LsLe (m + f * 1000) (belF Es f k ls) ∧ LsLt Es.length (belF Es f k ls)
  | 0, k, m, ls, _, h1, h2 => ⟨by simpa [belF] using h1, by simpa [belF] using h2⟩
  | f + 1, k, m, ls, hk, h1, h2 => by
    have h3 := addB_facts (i := k) (n := Es.length) (by omega) (nxE Es k) m ls h1 h2
    have h4 := belF_facts hok f (k + 1) (m + (nxE Es k).length) _ (by omega) h3.1 h3.2
    have h5 := hok.few k
    rw [belF]
    exact ⟨h4.1.mono (by omega), h4.2⟩
theorem below_facts {Es : List En} (hok : EsOk Es) : LsLe 1000000 (belowL Es) ∧ LsLt Es.length (belowL Es) := by
  have h := belF_facts hok Es.length 0 0 (List.replicate Es.length []) (by omega) (fun l hl => by rw [List.eq_of_mem_replicate hl]; simp) (fun l hl x hx => by rw [List.eq_of_mem_replicate hl] at hx; simp at hx)
  have := hok.n
  exact ⟨h.1.mono (by omega), h.2⟩
theorem belowL_len (Es : List En) : (belowL Es).length = Es.length := by
  unfold belowL
  rw [belF_len, List.length_replicate]
/-- Those right below one. -/
def nxB (Es : List En) (i : Nat) : List Nat := ((belowL Es)[i]?.getD []).map Int.toNat
theorem nxB_few {Es : List En} (hok : EsOk Es) (i : Nat) : (nxB Es i).length ≤ 1000000 := by
  unfold nxB
  rw [List.length_map]
  cases h : (belowL Es)[i]? with
  | none => simp
  | some l => exact (below_facts hok).1 l (List.mem_of_getElem? h)
theorem nxB_lt {Es : List En} (hok : EsOk Es) (i : Nat) : ∀ a ∈ nxB Es i, (0 : Int) ≤ (a : Int) ∧ (a : Int) < (Es.length : Int) := by
  intro a ha
  unfold nxB at ha
  obtain ⟨x, hx, rfl⟩ := List.mem_map.1 ha
  cases h : (belowL Es)[i]? with
  | none => rw [h] at hx; simp at hx
  | some l =>
    rw [h] at hx
    have := (below_facts hok).2 l (List.mem_of_getElem? h) x hx
    omega

/-- The least of some. -/
def minL : List Int → Int
  | [] => 0
  | [x] => x
  | x :: xs => min x (minL xs)
theorem minL_is : ∀ (l : List Int) (x : Int), x ∈ l → (∀ y ∈ l, x ≤ y) → x = minL l
  | [], x, h, _ => by simp at h
  | [a], x, h, _ => by simpa [minL] using h
  | a :: b :: l, x, h, hle => by
    have hab : x ≤ a := hle a (by simp)
    rw [minL]
    · rcases List.mem_cons.1 h with rfl | h
      · have : ∀ (l : List Int), l ≠ [] → (∀ y ∈ l, x ≤ y) → x ≤ minL l := by
          intro l
          induction l with
          | nil => intro h _; exact absurd rfl h
          | cons c l ih =>
            intro _ hl
            cases l with
            | nil => simpa [minL] using hl
            | cons d l =>
              rw [minL]
              · have h1 := ih (by simp) (fun y hy => hl y (by simp at hy; simp [hy]))
                have h2 := hl c (by simp)
                omega
              · simp
        have h1 := this (b :: l) (by simp) (fun y hy => hle y (by simp at hy; simp [hy]))
        omega
      · have h1 := minL_is (b :: l) x h (fun y hy => hle y (by simp at hy; simp [hy]))
        omega
    · simp
/-- Does a group make a round? -/
def roundG (Es : List En) : List Int → Bool
  | [] => false
  | [y] => decide (y.toNat ∈ nxE Es y.toNat)
  | _ => true
/-- What round answers, from what climbed put down (the last one first), with those taken, and the least so far. -/
def roundL (Es : List En) : List Int → List Int → Int → Int
  | [], _, first => first
  | x :: xs, l, first =>
    let g := reachL Es.length (nxB Es) [x] l
    roundL Es xs g.1 (if roundG Es g.2 = true ∧ (first < 0 ∨ minL g.2 < first) then minL g.2 else first)

/-- What round's functions read: the lists of those below at bb, a wide set at bb + 1. -/
structure StR (r bb : Nat) (Es : List En) (V : Value) (xs : List Value) (w : World) (F : List Nat) (l : List Int) : Prop where
  wd : Wd w (bb + 1) F l
  px : w.cell? ⟨bb, 0, none⟩ = some V
  xl : bb < w.heap.size
  ll : OwnLL w r V (belowL Es) xs
  vB : ∀ g, V.ownBlock = some g → g < bb
  uB : ∀ (k : Nat) (u : Value) (g : Nat), xs[k]? = some u → u.ownBlock = some g → g < bb
  fB : ∀ g ∈ F, bb < g
  wB : bb + 1 ≤ w.heap.size
theorem StR.turn {r bb : Nat} {Es : List En} {V : Value} {xs : List Value} {w w' : World} {F G : List Nat} {l : List Int} (h : StR r bb Es V xs w F l) (k : Turn G w w') (hG : ∀ g ∈ G, g ∉ F ∧ bb + 1 ≤ g) : StR r bb Es V xs w' F l :=
  ⟨h.wd.turn k (fun g hg => (hG g hg).1), (k.cell (p := ⟨bb, 0, none⟩) h.xl (fun hg => by have h1 : bb + 1 ≤ bb := (hG _ hg).2; omega)).trans h.px, Nat.lt_of_lt_of_le h.xl k.size,
    h.ll.turn k (fun g hg hh => by have := (hG g hh).2; have := h.vB g hg; omega) (fun q u g hu hg hh => by have := (hG g hh).2; have := h.uB q u g hu hg; omega), h.vB, h.uB, h.fB, Nat.le_trans h.wB k.size⟩
theorem entR {r bb : Nat} {Es : List En} {V : Value} {xs : List Value} (hn : Es.length ≤ 1000) : Ent (fun i => 0 ≤ i ∧ i < (Es.length : Int)) (bb + 1) Es.length 60 [.pointer (some ⟨bb + 1, 0, none⟩)] [] (StR r bb Es V xs) where
  turn h k hG := h.turn k hG
  lt h := h.wd.lt.2
  enters := enters_of Tryz.func60 (by kernel_rfl) rfl
  call {w F l} i hi h := by
    obtain ⟨j, rfl⟩ := Int.eq_ofNat_of_zero_le hi.1
    refine (wadd_any (bb + 1) F l j (by omega) w h.wd).mono ?_
    rintro e w' ⟨rfl, F', hw', t', f'⟩
    refine ⟨?_, F', ?_, t', f'⟩
    · unfold mayB
      rw [decide_eq_true hi]
      rfl
    · rw [stepL_put hi]
      have t2 := t'
      exact ⟨hw', (t'.cell (p := ⟨bb, 0, none⟩) h.xl (fun hg => by have h1 : bb < bb := h.fB _ hg; omega)).trans h.px, Nat.lt_of_lt_of_le h.xl t'.size,
        h.ll.turn t' (fun g hg hh => by have := h.fB g hh; have := h.vB g hg; omega) (fun q u g hu hg hh => by have := h.fB g hh; have := h.uB q u g hu hg; omega), h.vB, h.uB,
        fun g hg => by
          rcases f' g hg with h1 | h1
          · exact h.fB g h1
          · have := h.wB; omega, Nat.le_trans h.wB t'.size⟩
theorem OwnI.rdv {w : World} {r bb : Nat} {u : Value} {l : List Int} (h : OwnI w r u l) (h0 : ∀ x ∈ l, 0 ≤ x) (hb : ∀ g, u.ownBlock = some g → g < bb) : RdV 1 RdN (fun g => g < bb) w u (l.map Int.toNat) := by
  rcases List.eq_nil_or_concat l with rfl | ⟨q, x, hq⟩
  · obtain ⟨A, c, rfl, _, hc⟩ := OwnI.form h
    exact ⟨A, c, rfl, hc, .inl rfl⟩
  · obtain ⟨g, c, rfl, hc, hg, _, hcell, _⟩ := OwnI.slot h (by rw [hq]; simp)
    refine ⟨some ⟨g, 0, none⟩, c, by simp, by simpa using hc, .inr ⟨g, rfl, hb g rfl, hg, fun i x hx => ?_⟩⟩
    rw [List.getElem?_map] at hx
    cases hy : l[i]? with
    | none => rw [hy] at hx; cases hx
    | some y =>
      rw [hy] at hx
      injection hx with hx
      subst hx
      have hy0 := h0 y (List.mem_of_getElem? hy)
      refine ⟨[.int .i64 y], fun k z hz => ?_, ?_⟩
      · cases k with
        | zero =>
          simp at hz
          subst hz
          rw [show i * 1 + 0 = i by omega]
          exact hcell i y hy
        | succ k => simp at hz
      · unfold RdN
        rw [Int.toNat_of_nonneg hy0]

set_option maxHeartbeats 3200000 in
theorem round1_any {r bb : Nat} {Es : List En} {V : Value} {xs : List Value} {w : World} {F : List Nat} {l : List Int} (hok : EsOk Es) (i : Nat) (h : StR r bb Es V xs w F l) (hi : i < Es.length) :
    Calls Tryz.prog 57 #[.int .i64 (i : Int), .pointer (some ⟨bb, 0, none⟩)] w fun e w' => ∃ U, e = .returned U ∧ RdV 1 RdN (fun g => g < bb) w' U (nxB Es i) ∧ Turn [] w w' := by
  have c1 := h.px
  obtain ⟨lb, hlb⟩ := at_lt (show i < (belowL Es).length by rw [belowL_len]; exact hi)
  obtain ⟨u, hu, ho⟩ := h.ll.at hlb
  have hR : RdV 1 RdN (fun g => g < bb) w u (nxB Es i) := by
    unfold nxB
    rw [hlb]
    exact ho.rdv (fun x hx => ((below_facts hok).2 lb (List.mem_of_getElem? hlb) x hx).1) (fun g hg => h.uB i u g hu hg)
  obtain ⟨g, c, hV, hcell⟩ : ∃ g c, V = .slice (some ⟨g, 0, none⟩) xs.length c ∧ w.cell? ⟨g, i, none⟩ = some u := by
    have hxl : 0 < xs.length := by have := (List.getElem?_eq_some_iff.1 hu).1; omega
    rcases h.ll.row.2 with ⟨_, h0⟩ | ⟨g, cap, cur, e, hb, hg, hnc, hq1, hq2, ht⟩
    · omega
    · have e' : V = .slice (some ⟨g, 0, none⟩) xs.length cap := e
      subst e'
      refine ⟨g, cap, rfl, ?_⟩
      have := World.ownsRow.cellAt (cap := cap) h.ll.row i (by have := (List.getElem?_eq_some_iff.1 hu).1; omega)
      rw [this]
      exact hu
  obtain ⟨N, hN⟩ : ∃ N, xs.length = N := ⟨_, rfl⟩
  have hiN : i < N := by rw [← hN]; exact (List.getElem?_eq_some_iff.1 hu).1
  have d1 : (i : Int) < (N : Int) := by omega
  have d2 : decide ((i : Int) < (N : Int)) = true := by simp; omega
  rw [hN] at hV
  subst hV
  obtain ⟨PU, cU, hUe, hUc, _⟩ := id hR
  obtain ⟨m, hm⟩ : ∃ m, (nxB Es i).length = m := ⟨_, rfl⟩
  rw [hm] at hUe
  have HR := Lib.hid hR
  subst hUe
  clear hok h hlb hu ho hR hN hUc hm hi
  go_enter Tryz.func57, Tryz.ntmps57
  go_wp2_with fail
  go_ret
  exact ⟨_, rfl, HR.out, Turn.refl _ _⟩
end Go.Proofs.YtbocejiclellfaaGreatDoor

/- round, whole. -/
set_option linter.unusedSimpArgs false
set_option linter.unusedVariables false
set_option maxRecDepth 100000
namespace Go.Proofs.YtbocejiclellfaaGreatDoor
open Go.RowKit
attribute [local go_sem] fldE0 fldE1 fldE2 fldE3
/-- How it stands: k of those that climbed put down are left. -/
def Rw (Es : List En) (r bb : Nat) (V D : Value) (xs : List Value) (d : List Int) (w wr : World) (k : Nat) (first ans : Int) : Prop :=
  ∃ F l, StR r bb Es V xs wr F l ∧ OwnI wr (bb + 2) D d ∧ (∀ g, D.ownBlock = some g → g ∉ F) ∧ Turn [] w wr ∧ roundL Es (d.take k).reverse l first = ans
theorem take_rev {d : List Int} {k : Nat} {x : Int} (h : d[k]? = some x) : (d.take (k + 1)).reverse = x :: (d.take k).reverse := by
  rw [take_snoc h]
  simp
theorem ints_one (W : World) (T : TypeId) (x : Int) : Ints (W.alloc (.cells #[.int .i64 x] T)) (some ⟨W.heap.size, 0, none⟩) [x] := fun k y hy => by
  cases k with
  | zero =>
    simp at hy
    subst hy
    exact ⟨W.heap.size, 0, rfl, by simp, cell_of_row _ _ 0 _ _ _ (heap_alloc_new W _)⟩
  | succ k => simp at hy

theorem goL_inv {n : Nat} (hn : n ≤ 1000000) (nx : Nat → List Nat) : ∀ (f k : Nat) {l L : List Int}, InvL n l L → InvL n (goL n nx f k l L).1 (goL n nx f k l L).2
  | 0, k, l, L, h => h
  | f + 1, k, l, L, h => by
    rw [goL]
    cases hk : L[k]? with
    | none => exact h
    | some i => exact goL_inv hn nx f (k + 1) (meetL_inv hn _ h)
theorem reachL_inv {n : Nat} (hn : n ≤ 1000000) (nx : Nat → List Nat) (is l : List Int) : InvL n (reachL n nx is l).1 (reachL n nx is l).2 :=
  goL_inv hn nx _ _ (meetL_inv hn is ⟨by simp, by simp, by simp⟩)
theorem Rw.keep {Es : List En} {r bb : Nat} {V D : Value} {xs : List Value} {d : List Int} {w wr w' : World} {k : Nat} {first ans : Int} (h : Rw Es r bb V D xs d w wr k first ans) (t : Turn [] wr w') : Rw Es r bb V D xs d w w' k first ans := by
  obtain ⟨F, l, h1, h2, h3, h4, h5⟩ := h
  exact ⟨F, l, h1.turn t (by simp), h2.turn' t, h3, h4.trans' t, h5⟩


set_option maxHeartbeats 12800000 in
theorem round_any {A : Nat → Prop} {t : Nat} {M V0 : Value} {Es : List En} {w : World} (h : Tl w A t M V0 Es) (hok : EsOk Es) :
    Calls Tryz.prog 37 #[.pointer (some ⟨t, 0, none⟩)] w fun e w' => (∃ s, climbTo Es Es.length s ∧ e = .returned (.int .i64 (roundL Es s.d.reverse [] (-1)))) ∧ Turn [] w w' := by
  have hmf : ∀ (fn : Fn) (first cap : Array Value) (w : World), (Instr.makeFunc fn first cap).run Tryz.prog w = .ok (.func fn first cap) w := fun _ _ _ _ => rfl
  have HB := Lib.hid (below_any h hok)
  have HH := Lib.hid h
  have HOK := Lib.hid hok
  obtain ⟨r, hr⟩ : ∃ r, w.heap.size = r := ⟨_, rfl⟩
  rw [hr] at HB
  have HR := Lib.hid hr
  clear h hok hr
  go_enter Tryz.func37, Tryz.ntmps37
  go_wp2_with fail
  refine HB.out.mono ?_
  rintro e w1 ⟨U, xs, rfl, hU, t1⟩
  obtain ⟨AU, cU, rfl, _⟩ := OwnLL.form hU
  obtain ⟨n1, hn1⟩ : ∃ n1, (belowL Es).length = n1 := ⟨_, rfl⟩
  rw [hn1] at hU ⊢
  have hnB : n1 ≤ 1000 := by rw [← hn1, belowL_len]; exact HOK.out.n
  obtain ⟨bb, hbb⟩ : ∃ bb, w1.heap.size = bb := ⟨_, rfl⟩
  obtain ⟨W2, hW2⟩ : ∃ W, (w1.alloc (.cells #[.slice AU n1 cU] 93)).alloc (.cells #[.slice none 0 0] 110) = W := ⟨_, rfl⟩
  have t2 : Turn [] w1 W2 := by rw [← hW2]; exact ((Turn.refl [] w1).alloc _).alloc _
  have s2 : W2.heap.size = bb + 2 := by rw [← hW2, ← hbb]; simp
  have b0 : W2.heap[bb]? = some (.cells #[.slice AU n1 cU] 93 (0, 0)) := by rw [← hW2, ← hbb]; exact ((Turn.refl [] _).alloc _).heap (heap_alloc_new w1 _) (by simp)
  have b1 : W2.heap[bb + 1]? = some (.cells #[.slice none 0 0] 110 (0, 0)) := by
    rw [← hW2, ← hbb]
    have := heap_alloc_new (w1.alloc (.cells #[.slice AU n1 cU] 93)) (.cells #[.slice none 0 0] 110)
    rwa [World.size_alloc] at this
  have hvB : ∀ g, (Value.slice AU n1 cU).ownBlock = some g → g < bb := fun g hg => by
    rw [← hbb]
    obtain ⟨cs, ty, fz, hx⟩ := ownsRow_cells hU.row hg
    exact (Array.getElem?_eq_some_iff.1 hx).1
  have hst : StR r bb Es (.slice AU n1 cU) xs W2 [bb + 1] [] :=
    ⟨.inl ⟨b1, rfl, rfl⟩, cell_of_row W2 bb 0 _ _ _ b0, by omega, hU.turn' t2, hvB, fun k u g hu hg => by have := (hU.lt hu hg).2; omega, by simp, by omega⟩
  have HC := Lib.hid (climbed_any ((HH.out.turn' t1).turn' t2) HOK.out)
  rw [s2] at HC
  have HST := Lib.hid hst
  have HT2 := Lib.hid (t1.trans' t2)
  have HW2 := Lib.hid hW2
  have HBB := Lib.hid hbb
  obtain ⟨V, hV⟩ : ∃ V, Value.slice AU n1 cU = V := ⟨_, rfl⟩
  rw [hV] at HST
  have hr1 : r ≤ w1.heap.size := by have := t1.size; have := HR.out; omega
  have HRB : Hid (r ≤ bb) := Lib.hid (by omega)
  have HV := Lib.hid hV
  clear hV hU t1 t2 hn1 HB b0 b1 hvB hst hW2 s2 hbb hr1
  go_wp2_with fail
  rw [HBB.out, HW2.out]
  refine HC.out.mono ?_
  rintro e w3 ⟨D, s, rfl, hD, hto, hso, t3⟩
  obtain ⟨AD, cD, rfl, hDi, hDc⟩ := hD.form
  obtain ⟨m, hm⟩ : ∃ m, s.d.length = m := ⟨_, rfl⟩
  obtain ⟨Dv, hDv⟩ : ∃ Dv, Value.slice AD s.d.length cD = Dv := ⟨_, rfl⟩
  have hm1 : m ≤ 1000 := by have := hso.small; have := HOK.out.n; omega
  obtain ⟨ans, hans⟩ : ∃ ans, roundL Es s.d.reverse [] (-1) = ans := ⟨_, rfl⟩
  have HS0 : Hid (Rw Es r bb V Dv xs s.d w w3 m (-1) ans) := Lib.hid ⟨_, _, HST.out.turn t3 (by simp), by rw [← hDv]; exact hD, fun g hg => by
    rw [← hDv] at hg
    have := (hD.lt g hg).1
    simp
    omega, HT2.out.trans' t3, by rw [← hans, ← hm, List.take_length]⟩
  have HA := Lib.hid (And.intro hto hans)
  have HSO := Lib.hid hso
  have HM := Lib.hid hm
  have HDv : Hid (Dv = .slice AD m cD) := Lib.hid (by rw [← hDv, hm])
  rw [hm] at hDc ⊢
  clear hD hto hso t3 hDi hDv hm hans HC HST HT2 HW2
  go_wp2_with fail
  go_loopw [6, 8] (fun v6 v8 wr => ∃ (k : Nat) (first : Int), k ≤ m ∧ v8 = .int .i64 ((k : Int) - 1) ∧ v6 = .int .i64 first ∧ Hid (Rw Es r bb V Dv xs s.d w wr k first ans)) (fun _ v8 _ => (intOf v8 + 1).toNat)
  case atStart => exact ⟨m, -1, Nat.le_refl _, by go_num, rfl, HS0⟩
  case round =>
    obtain ⟨k, first, hk, rfl, rfl, HK⟩ := hrel
    cases k with
    | zero =>
      have d1 : decide ((0 : Int) ≤ ((0 : Nat) : Int) - 1) = false := by simp
      have d2 : ¬ (0 : Int) ≤ ((0 : Nat) : Int) - 1 := by omega
      have HE : Hid (first = ans ∧ Turn [] w wr) := Lib.hid (by
        obtain ⟨F, l, h1, h2, h3, h4, h5⟩ := HK.out
        exact ⟨h5, h4⟩)
      clear HK HS0
      go_wp2_with fail
      go_ret
      refine ⟨⟨s, HA.out.1, ?_⟩, HE.out.2⟩
      rw [HA.out.2, HE.out.1]
      rfl
    | succ k =>
      have ek : ((k + 1 : Nat) : Int) - 1 = (k : Int) := by omega
      rw [ek]
      obtain ⟨F, l, hst, hD, hDF, hT, hfin⟩ := HK.out
      obtain ⟨x, hx⟩ := at_lt (show k < s.d.length by have := HM.out; omega)
      have hxr := HSO.out.lo x (by simp [List.mem_of_getElem? hx])
      rw [take_rev hx, roundL] at hfin
      have hDe := hD
      rw [HDv.out] at hDe
      obtain ⟨g0, c0, hDs, _, hg0, _, hcell, _⟩ := hDe.slot (by have := HM.out; omega)
      injection hDs with e1 e2 e3
      subst e1
      have cx := hcell k x hx
      have d1 : decide ((0 : Int) ≤ (k : Int)) = true := by simp
      have d2 : (0 : Int) ≤ (k : Int) := by omega
      have d3 : (k : Int) < (m : Int) := by omega
      obtain ⟨W3, hW3⟩ : ∃ W, wr.alloc (.cells #[.int .i64 x] 3) = W := ⟨_, rfl⟩
      obtain ⟨q, hq⟩ : ∃ q, wr.heap.size = q := ⟨_, rfl⟩
      have t3 : Turn [] wr W3 := by rw [← hW3]; exact (Turn.refl [] wr).alloc _
      have s3 : W3.heap.size = q + 1 := by rw [← hW3, ← hq]; simp
      have hi3 : Ints W3 (some ⟨q, 0, none⟩) [x] := by rw [← hW3, ← hq]; exact ints_one wr _ x
      have hFl := hst.wd.lt.2
      have hn6 : Es.length ≤ 1000000 := by have := HOK.out.n; omega
      have HC := Lib.hid (reach_any (entR HOK.out.n) (nxB Es) (fun g => g < bb) hn6 (nxB_few HOK.out) (fun i _ a ha => nxB_lt HOK.out i a ha)
        (enters_of Tryz.func57 (by kernel_rfl) rfl) (fun W F l i hs hi => round1_any HOK.out i hs hi) (fun W F l hs g hg ha => by have := hs.fB g hg; omega)
        (some ⟨q, 0, none⟩) 1 1 [x] W3 F l (hst.turn t3 (by simp)) (by have := hst.wB; have := t3.size; omega) (fun g hg => by have := hst.xl; have := t3.size; omega) hi3 rfl (by omega)
        (fun i hi => by simp at hi; subst hi; exact hxr) (fun b off e _ => by
          injection e with e
          injection e with e1 e2
          subst e1
          exact ⟨fun hh => by have := hFl _ hh; omega, by omega⟩))
      have hinv := reachL_inv hn6 (nxB Es) [x] l
      obtain ⟨G, hG⟩ : ∃ G, reachL Es.length (nxB Es) [x] l = G := ⟨_, rfl⟩
      rw [hG] at HC hinv hfin
      obtain ⟨l', g⟩ := G
      simp only at HC hinv hfin
      have hgl := nodup_le Es.length g hinv.nd hinv.lo
      have HX := Lib.hid (And.intro hst (And.intro hD (And.intro hDF (And.intro hT (And.intro t3 s3)))))
      have HFIN := Lib.hid hfin
      have HINV := Lib.hid hinv
      have HW3 := Lib.hid hW3
      have HQ := Lib.hid hq
      clear hst hD hDF hT hfin hx hxr hDe hcell e2 e3 t3 s3 hi3 hFl hinv hG hW3 hq HK HS0
      go_wp2_with fail
      rw [HQ.out, HW3.out]
      refine HC.out.mono ?_
      rintro e w4 ⟨F4, V4, rfl, hO4, hV4, hst4, t4, f4⟩
      have hT4 : Turn [] w w4 := by
        obtain ⟨hst, hD, hDF, hT, t3, s3⟩ := HX.out
        have hqq := HQ.out
        refine (hT.trans' t3).trans t4 (fun g hg => .inr ?_)
        have := hst.fB g hg
        have := HRB.out
        have := HR.out
        omega
      have HN4 : Hid (∀ first' : Int, roundL Es (s.d.take k).reverse l' first' = ans → Rw Es r bb V Dv xs s.d w w4 k first' ans) := by
        obtain ⟨hst, hD, hDF, hT, t3, s3⟩ := HX.out
        have hqq := HQ.out
        refine Lib.hid fun first' hf => ⟨F4, l', hst4, (hD.turn' t3).turn t4 hDF, fun g hg hh => ?_, hT4, hf⟩
        rcases f4 g hh with h1 | h1
        · exact hDF g hg h1
        · have := (hD.lt g hg).2
          omega
      obtain ⟨Ag, cg, rfl, hgi, hgc⟩ := hO4.form
      have HGI := Lib.hid hgi
      have HTl := Lib.hid (HH.out.turn' hT4)
      obtain ⟨N, hN⟩ : ∃ N, g.length = N := ⟨_, rfl⟩
      have hN1 : N ≤ 1000 := by have := HOK.out.n; omega
      have HMin : 0 < N → Hid (Calls Tryz.prog 62 #[.slice Ag N cg] w4 fun e w' => (∃ x : Int, e = .returned (.int .i64 x) ∧ x ∈ g ∧ ∀ y ∈ g, x ≤ y) ∧ w4 = w') := fun h0 => Lib.hid (min_any Ag N cg g w4 hgi hN.symm h0 (by omega))
      clear hst4 t4 f4 hO4 hV4 hT4 hgi HX HC
      rw [hN] at hgc hgl ⊢
      rcases g with _ | ⟨y, gt⟩
      · obtain rfl : N = 0 := by simpa using hN.symm
        have HN : Hid (Rw Es r bb V Dv xs s.d w w4 k first ans) := Lib.hid (HN4.out first (by rw [← HFIN.out, if_neg (by simp [roundG])]))
        clear hN HMin HN4 HFIN HGI HTl HINV
        go_wp2_with fail
        go_roundw
        case rel => exact ⟨k, first, by omega, by go_num, rfl, HN⟩
        case measure => simp [intOf] <;> omega
      · rcases gt with _ | ⟨y2, gt⟩
        · obtain rfl : N = 1 := by simpa using hN.symm
          obtain ⟨y0, y1⟩ := HINV.out.lo y (by simp)
          obtain ⟨yn, rfl⟩ := Int.eq_ofNat_of_zero_le y0
          obtain ⟨bg, og, rfl, hbg, hcg⟩ := HGI.out 0 _ rfl
          rw [Nat.add_zero] at hcg
          have HS := Lib.hid (aboveItself_any HTl.out (fun i => by have := HOK.out.few i; omega) yn)
          have HM1 := HMin (by omega)
          cases hb : decide (yn ∈ nxE Es yn) with
          | false =>
            have HN : Hid (Rw Es r bb V Dv xs s.d w w4 k first ans) := Lib.hid (HN4.out first (by rw [← HFIN.out, if_neg (by simp [roundG, hb])]))
            rw [hb] at HS
            clear hN HMin HM1 HN4 HFIN HGI HTl HINV y0 hb hbg
            go_wp2_with fail
            refine HS.out.mono ?_
            rintro e w5 ⟨rfl, t5⟩
            have HN5 := Lib.hid (HN.out.keep t5)
            clear t5 HN
            go_wp2_with fail
            go_roundw
            case rel => exact ⟨k, first, by omega, by go_num, rfl, HN5⟩
            case measure => simp [intOf] <;> omega
          | true =>
            rw [hb] at HS
            have HBAD : Hid (roundG Es [(yn : Int)] = true) := Lib.hid (by simpa [roundG] using hb)
            obtain ⟨g, hge⟩ : ∃ g, g = [(yn : Int)] := ⟨_, rfl⟩
            rw [← hge] at HFIN HBAD HM1 HGI
            have HGE := Lib.hid hge
            clear hN HMin HM1 HTl HINV y0 hb hbg hge
            go_wp2_with fail
            refine HS.out.mono ?_
            rintro e w5 ⟨rfl, t5⟩
            have HM5 := Lib.hid (min_any (some ⟨bg, og, none⟩) 1 cg g w5 (HGI.out.below t5) (by rw [HGE.out]; rfl) (by omega) (by omega))
            have HN5 : Hid (∀ first' : Int, roundL Es (s.d.take k).reverse l' first' = ans → Rw Es r bb V Dv xs s.d w w5 k first' ans) := Lib.hid fun f' hf => (HN4.out f' hf).keep t5
            clear HN4 t5 HGI HGE
            have HN4 := HN5
            clear HN5
            go_wp2_with fail
            refine HM5.out.mono ?_
            rintro e w6 ⟨⟨z, rfl, hz, hzl⟩, rfl⟩
            have hzm := minL_is g z hz hzl
            by_cases hf : first < 0
            · have e4 : decide (first < 0) = true := by simpa using hf
              have HN : Hid (Rw Es r bb V Dv xs s.d w _ k z ans) := Lib.hid (HN4.out z (by rw [← HFIN.out, HBAD.out, hzm, if_pos ⟨rfl, .inl hf⟩]))
              clear hz hzl hzm HN4 HFIN
              go_wp2_with fail
              go_roundw
              case rel => exact ⟨k, z, by omega, by go_num, rfl, HN⟩
              case measure => simp [intOf] <;> omega
            · have e4 : decide (first < 0) = false := by simpa using hf
              by_cases hzf : z < first
              · have e5 : decide (z < first) = true := by simpa using hzf
                have HN : Hid (Rw Es r bb V Dv xs s.d w _ k z ans) := Lib.hid (HN4.out z (by rw [← HFIN.out, HBAD.out, hzm, if_pos ⟨rfl, .inr (by rw [← hzm]; exact hzf)⟩]))
                clear hz hzl hzm HN4 HFIN
                go_wp2_with fail
                go_roundw
                case rel => exact ⟨k, z, by omega, by go_num, rfl, HN⟩
                case measure => simp [intOf] <;> omega
              · have e5 : decide (z < first) = false := by simpa using hzf
                have HN : Hid (Rw Es r bb V Dv xs s.d w _ k first ans) := Lib.hid (HN4.out first (by rw [← HFIN.out, if_neg (by rw [← hzm]; omega)]))
                clear hz hzl hzm HN4 HFIN
                go_wp2_with fail
                go_roundw
                case rel => exact ⟨k, first, by omega, by go_num, rfl, HN⟩
                case measure => simp [intOf] <;> omega
        · have hN2 : 2 ≤ N := by rw [← hN]; simp
          have HM4 := HMin (by omega)
          have HBAD : Hid (roundG Es (y :: y2 :: gt) = true) := Lib.hid rfl
          obtain ⟨g, hge⟩ : ∃ g, g = y :: y2 :: gt := ⟨_, rfl⟩
          rw [← hge] at HFIN HBAD HM4
          clear hge hN HMin HTl HINV HGI
          have n1 : ((N : Int) == 0) = false := by simp; omega
          have n2 : ((N : Int) == 1) = false := by simp; omega
          have n3 : ¬ (N : Int) = 0 := by omega
          have n4 : ¬ (N : Int) = 1 := by omega
          have n5 : ¬ N = 0 := by omega
          have n6 : ¬ N = 1 := by omega
          go_wp2_with fail
          refine HM4.out.mono ?_
          rintro e w6 ⟨⟨z, rfl, hz, hzl⟩, rfl⟩
          have hzm := minL_is g z hz hzl
          by_cases hf : first < 0
          · have e4 : decide (first < 0) = true := by simpa using hf
            have HN : Hid (Rw Es r bb V Dv xs s.d w _ k z ans) := Lib.hid (HN4.out z (by rw [← HFIN.out, HBAD.out, hzm, if_pos ⟨rfl, .inl hf⟩]))
            clear hz hzl hzm HN4 HFIN
            go_wp2_with fail
            go_roundw
            case rel => exact ⟨k, z, by omega, by go_num, rfl, HN⟩
            case measure => simp [intOf] <;> omega
          · have e4 : decide (first < 0) = false := by simpa using hf
            by_cases hzf : z < first
            · have e5 : decide (z < first) = true := by simpa using hzf
              have HN : Hid (Rw Es r bb V Dv xs s.d w _ k z ans) := Lib.hid (HN4.out z (by rw [← HFIN.out, HBAD.out, hzm, if_pos ⟨rfl, .inr (by rw [← hzm]; exact hzf)⟩]))
              clear hz hzl hzm HN4 HFIN
              go_wp2_with fail
              go_roundw
              case rel => exact ⟨k, z, by omega, by go_num, rfl, HN⟩
              case measure => simp [intOf] <;> omega
            · have e5 : decide (z < first) = false := by simpa using hzf
              have HN : Hid (Rw Es r bb V Dv xs s.d w _ k first ans) := Lib.hid (HN4.out first (by rw [← HFIN.out, if_neg (by rw [← hzm]; omega)]))
              clear hz hzl hzm HN4 HFIN
              go_wp2_with fail
              go_roundw
              case rel => exact ⟨k, first, by omega, by go_num, rfl, HN⟩
              case measure => simp [intOf] <;> omega
end Go.Proofs.YtbocejiclellfaaGreatDoor

/- strings.Clone. -/
set_option linter.unusedSimpArgs false
set_option linter.unusedVariables false
namespace Go.Proofs.YtbocejiclellfaaGreatDoor
open Go.RowKit

theorem byte_info : (Tryz.prog.info? 5).map (fun i => (i.zero, i.size, i.bytes)) = some (some (.int .u8 0), 1, 1) := by kernel_rfl

set_option maxHeartbeats 4000000 in
set_option maxRecDepth 100000 in
theorem sliteClone_any (s : ByteArray) (w : World) (hlim : s.size ≤ 281474976710656) :
    Calls Tryz.prog 74 #[.string s] w fun e w' => e = .returned (.string s) ∧ Turn [] w w' := by
  by_cases h0 : s.size = 0
  · have hs : s = ⟨#[]⟩ := by
      apply ByteArray.ext
      exact Array.eq_empty_of_size_eq_zero h0
    subst hs
    go_enter Tryz.func74, Tryz.ntmps74
    go_wp2_with fail
    go_ret
    exact ⟨rfl, Turn.refl _ _⟩
  · obtain ⟨i0, hi, hz0, hz1, hz2⟩ := info_parts byte_info
    have hinfo : (Tryz.prog.info? 5).map (·.size) = some 1 := by rw [hi]; simp [hz1]
    have hco : Tryz.prog.cellsOf 5 = 1 := by simp [Program.cellsOf, hi, hz1]
    obtain ⟨M, hM⟩ : ∃ M, M = madeCells (Value.int .u8 0).cells (((s.size : Nat) : Int).toNat * i0.size) := ⟨_, rfl⟩
    have hMs : M.size = s.size := by rw [hM, size_madeCells, hz1]; simp
    have hmk : ∀ W : World, (Instr.makeSlice 129 (.int .i64 (s.size : Int)) (.int .i64 (s.size : Int))).run Tryz.prog W = .ok (.slice (some ⟨W.heap.size, 0, none⟩) s.size s.size) (W.alloc (.cells M 5)) := fun W => by
      have h := run_make (P := Tryz.prog) W 129 5 i0 (.int .u8 0) Tryz.underlying129 hi hz0 .i64 .i64 (s.size : Int) (s.size : Int) (by omega) (by omega) (by rw [hz2]; omega) (by omega)
      rw [← hM] at h
      simpa using h
    clear hM
    have hcp := Lib.run_copy_row_string (P := Tryz.prog) (w.alloc (.cells M 5)) 129 9 3 5 w.heap.size 0 s.size s.size s M 5 Tryz.underlying129 hinfo (heap_alloc_new w _) (Nat.le_refl _) (by omega)
    obtain ⟨Y, hY⟩ : ∃ Y, Y = (M.toList.take 0 ++ Lib.byteCells s.data.toList ++ M.toList.drop (0 + s.size)).toArray := ⟨_, rfl⟩
    rw [← hY] at hcp
    have hYl : Y.toList = Lib.byteCells s.data.toList := by
      rw [hY, List.toList_toArray, List.take_zero, List.nil_append, List.drop_of_length_le (by rw [Array.length_toList]; omega), List.append_nil]
    have hYs : Y.size = s.size := by rw [← Array.length_toList, hYl, Lib.byteCells_length, ← Lib.size_eq]
    have hgY : ((w.alloc (.cells M 5)).setRow w.heap.size Y).heap[w.heap.size]? = some (.cells Y 5 (0, 0)) := setRow_heap _ _ M _ 5 (0, 0) (heap_alloc_new w _)
    have hne : s.data.toList ≠ [] := fun e => h0 (by rw [Lib.size_eq, e]; rfl)
    have hUS := Lib.run_unsafeString_row (P := Tryz.prog) ((w.alloc (.cells M 5)).setRow w.heap.size Y) 130 3 9 5 Tryz.underlying130 hco w.heap.size Y.size (by unfold World.shape?; rw [hgY]) s.data.toList hne (by rw [← Lib.size_eq]; omega) (by rw [← Lib.size_eq]; omega)
      (fun j x hx => Lib.cells_of_row hgY Y.size j _ (by rw [List.take_of_length_le (by rw [Array.length_toList]; exact Nat.le_refl _), hYl]; simp [Lib.byteCells, hx]))
    rw [← Lib.size_eq] at hUS
    clear hY
    go_enter Tryz.func74, Tryz.ntmps74
    go_wp2_with fail
    go_ret
    have hb1 : Below w.heap.size w (w.alloc (.cells M 5)) := (Below.refl _ w).alloc (Nat.le_refl _) _
    have hb2 : Below w.heap.size (w.alloc (.cells M 5)) ((w.alloc (.cells M 5)).setRow w.heap.size Y) := ⟨rfl, rfl, rfl, by simp, fun k hk => setRow_other _ _ _ _ (by omega)⟩
    exact ⟨rfl, Turn.below (Lib.below_freeze (hb1.trans hb2) (p := ⟨w.heap.size, 0, none⟩) (Nat.le_refl _) _)⟩

theorem sClone_any (s : ByteArray) (w : World) (hlim : s.size ≤ 281474976710656) :
    Calls Tryz.prog 54 #[.string s] w fun e w' => e = .returned (.string s) ∧ Turn [] w w' := by
  go_enter Tryz.func54, Tryz.ntmps54
  go_wp2_with fail
  refine (sliteClone_any s w hlim).mono ?_
  rintro e w1 ⟨rfl, ht⟩
  have HT := Lib.hid ht
  clear ht
  go_wp2_with fail
  go_ret
  exact ⟨rfl, HT.out⟩
end Go.Proofs.YtbocejiclellfaaGreatDoor

/- Maps from texts to numbers, known by a function: what a look-up gives, what a store makes of it. -/
set_option linter.unusedSimpArgs false
set_option linter.unusedVariables false
namespace Go.Proofs.YtbocejiclellfaaGreatDoor
open Go.RowKit Go.Maps

theorem law9 : Keyed Tryz.prog 9 := string_keyed Tryz.underlying9
def sK (s : ByteArray) : Lit := .string s.data.toList
theorem key9 {s : ByteArray} (h : s.size ≤ maxLen) : keyOf Tryz.prog 9 (.string s) = some (sK s) := Go.WideMaps.keyOf_string_mk Tryz.underlying9 h
theorem sK_inj {a b : ByteArray} (h : sK a = sK b) : a = b := by
  unfold sK at h
  injection h with h
  exact ByteArray.ext (by simpa using h)
theorem zero3 (w : World) : (zeroValue 3).run Tryz.prog w = .ok (.int .i64 0) w := by kernel_rfl

/-- Block m is a map of s entries that holds what f says. -/
def MapS (w : World) (m s : Nat) (f : ByteArray → Option Nat) : Prop :=
  ∃ D : DataW Unit, w.ownsMap Tryz.prog 9 (plainElem Tryz.prog 3) m s D ∧ Maps.size D = s ∧ (∀ i : ByteArray, Maps.has D (sK i) = (f i).isSome) ∧
    ∀ (i : ByteArray) (y : Nat), f i = some y → D.atKey (sK i) (.lit (.int .i64 0)) = .lit (.int .i64 y)

def updS (f : ByteArray → Option Nat) (x : ByteArray) (y : Nat) : ByteArray → Option Nat := fun i => if i = x then some y else f i

theorem MapS.lt {w : World} {m s : Nat} {f : ByteArray → Option Nat} (h : MapS w m s f) : m < w.heap.size := by
  obtain ⟨D, h, _⟩ := h
  exact h.lt
theorem MapS.turn {F : List Nat} {w w' : World} {m s : Nat} {f : ByteArray → Option Nat} (h : MapS w m s f) (t : Turn F w w') (hn : m ∉ F) : MapS w' m s f := by
  obtain ⟨D, ⟨es, clock, hb, r⟩, h2⟩ := h
  exact ⟨D, ⟨es, clock, t.heap hb hn, r⟩, h2⟩
theorem MapS.congr {w : World} {m s : Nat} {f g : ByteArray → Option Nat} (h : MapS w m s f) (e : ∀ i, f i = g i) : MapS w m s g := by
  rw [← funext e]; exact h
theorem MapS.made (w : World) : MapS (w.alloc (.map #[] 0)) w.heap.size 0 (fun _ => none) :=
  ⟨.map [], World.ownsMap_made _ _ _ _, rfl, fun i => rfl, fun i y h => by cases h⟩

theorem wf_small {i : Nat} (h : i ≤ 100000) : (Lit.int .i64 (i : Int)).wf = true := WalkArith.wf_i64 (by omega)

theorem MapS.at {w : World} {m s : Nat} {D : DataW Unit} {f : ByteArray → Option Nat} (h1 : ∀ i : ByteArray, Maps.has D (sK i) = (f i).isSome) (h2 : ∀ (i : ByteArray) (y : Nat), f i = some y → D.atKey (sK i) (.lit (.int .i64 0)) = .lit (.int .i64 y))
    {i : ByteArray} {c : Int} (h : D.atKey (sK i) (.lit (.int .i64 0)) = .lit (.int .i64 c)) : c = (((f i).getD 0 : Nat) : Int) := by
  cases e : f i with
  | none =>
    have h3 := h1 i
    rw [e] at h3
    rw [Maps.atKey_of_not_has h3] at h
    injection h with h; injection h with _ h
    simp [← h]
  | some y =>
    rw [h2 i y e] at h
    injection h with h; injection h with _ h
    simp [← h]

theorem run_lookS_ok {w : World} {m s : Nat} {f : ByteArray → Option Nat} (h : MapS w m s f) (i : ByteArray) (hi : i.size ≤ maxLen) :
    (Instr.lookup 78 (.map (some m)) (.string i) true).run Tryz.prog w = .ok (.tuple #[.int .i64 (((f i).getD 0 : Nat) : Int), .bool (f i).isSome]) w := by
  obtain ⟨D, hown, hs, h1, h2⟩ := h
  obtain ⟨v0, ps, hrun, hv⟩ := hown.look_ok law9 Tryz.underlying78 (zero3 w) (plainElem_int Tryz.underlying3 (by decide)) (key9 hi)
  obtain ⟨c, rfl, hc, hwc⟩ := plainElem_int_inv Tryz.underlying3 hv
  have hat : D.atKey (sK i) (.lit (.int .i64 0)) = .lit (.int .i64 c) := congrArg Prod.fst hc
  rw [hrun, h1 i, MapS.at (w := w) (m := m) (s := s) h1 h2 hat]
theorem run_lookS {w : World} {m s : Nat} {f : ByteArray → Option Nat} (h : MapS w m s f) (i : ByteArray) (hi : i.size ≤ maxLen) :
    (Instr.lookup 78 (.map (some m)) (.string i) false).run Tryz.prog w = .ok (.int .i64 (((f i).getD 0 : Nat) : Int)) w := by
  obtain ⟨D, hown, hs, h1, h2⟩ := h
  obtain ⟨c, hrun, hat, hwc⟩ := hown.lookup_int law9 Tryz.underlying78 Tryz.underlying3 (zero3 w) (key9 hi)
  rw [hrun, MapS.at (w := w) (m := m) (s := s) h1 h2 hat]
theorem run_makeMap_hint (w : World) (k : Nat) : (Instr.makeMap 78 (some (.int .i64 (k : Int)))).run Tryz.prog w = .ok (.map (some w.heap.size)) (w.alloc (.map #[] 0)) := by
  simp [Instr.makeMap, run_underlying Tryz.underlying78, asInt, asIntOf, Result.andThen]

section
variable {ops : Array Oper} {rest : List Oper} {o : Oper} {a : Act} {Q : Exit → Act → World → Prop}

theorem wpList_lookS (w : World) (hg : o.guard = none) (mo x : Operand) (hop : o.op = Op.lookup 78 mo x false) (m s : Nat) (f : ByteArray → Option Nat) (hm : a.eval mo = .map (some m)) (h : MapS w m s f)
    (i : ByteArray) (hx : a.eval x = .string i) (hi : i.size ≤ maxLen) (hK : wpList Tryz.prog ops Q rest (a.put o.dst (.int .i64 (((f i).getD 0 : Nat) : Int))) w) : wpList Tryz.prog ops Q (o :: rest) a w := by
  obtain ⟨D, hown, hs, h1, h2⟩ := h
  refine wpList_lookup_own_int w hg mo x 78 hop 9 3 .i64 law9 Tryz.underlying78 Tryz.underlying3 (zero3 _) m s D hm hown _ _ hx (key9 hi) fun c hat _ => ?_
  rw [MapS.at (w := w) (m := m) (s := s) h1 h2 hat]
  exact hK

theorem wpList_lookS_ok (w : World) (hg : o.guard = none) (mo x : Operand) (hop : o.op = Op.lookup 78 mo x true) (m s : Nat) (f : ByteArray → Option Nat) (hm : a.eval mo = .map (some m)) (h : MapS w m s f)
    (i : ByteArray) (hx : a.eval x = .string i) (hi : i.size ≤ maxLen) (hK : wpList Tryz.prog ops Q rest (a.put o.dst (.tuple #[.int .i64 (((f i).getD 0 : Nat) : Int), .bool (f i).isSome])) w) : wpList Tryz.prog ops Q (o :: rest) a w := by
  obtain ⟨D, hown, hs, h1, h2⟩ := h
  refine wpList_lookup_own_ok_int w hg mo x 78 hop 9 3 .i64 law9 Tryz.underlying78 Tryz.underlying3 (zero3 _) m s D hm hown _ _ hx (key9 hi) fun c hat _ => ?_
  rw [MapS.at (w := w) (m := m) (s := s) h1 h2 hat, h1 i]
  exact hK

theorem wpList_lenS (w : World) (hg : o.guard = none) (mo : Operand) (hop : o.op = Op.call { callee := Callee.builtin Builtin.len, args := #[mo], argTypes := #[78] }) (m s : Nat) (f : ByteArray → Option Nat) (hm : a.eval mo = .map (some m)) (h : MapS w m s f)
    (hK : wpList Tryz.prog ops Q rest (a.put o.dst (.int .i64 (s : Int))) w) : wpList Tryz.prog ops Q (o :: rest) a w := by
  obtain ⟨D, hown, hs, h1, h2⟩ := h
  refine wpList_len_own w hg mo 78 hop 9 3 Tryz.underlying78 _ m s D hm hown ?_
  rw [hs]
  exact hK

theorem run_lenS (w : World) (m s : Nat) (f : ByteArray → Option Nat) (h : MapS w m s f) (ty : TypeId) : (Builtin.len_ #[78] ty #[.map (some m)]).run Tryz.prog w = .ok (.int .i64 (s : Int)) w := by
  obtain ⟨D, hown, hs, h1, h2⟩ := h
  rw [hown.len Tryz.underlying78, hs]

theorem ownsMap_resize {w : World} {m n : Nat} {D : DataW Unit} (h : w.ownsMap Tryz.prog 9 (plainElem Tryz.prog 3) m n D) : w.ownsMap Tryz.prog 9 (plainElem Tryz.prog 3) m (Maps.size D) D := by
  obtain ⟨es, clock, hb, F, hs, rfl⟩ := h
  exact ⟨es, clock, hb, F, Nat.le_of_eq (by simp [Maps.size, length_sorted]), rfl⟩

theorem wpList_storeS (w : World) (hg : o.guard = none) (mo x v : Operand) (hop : o.op = Op.mapUpdate 78 mo x v) (m s : Nat) (f : ByteArray → Option Nat) (hm : a.eval mo = .map (some m)) (h : MapS w m s f) (hs : s ≤ 1000000)
    (i : ByteArray) (y : Nat) (hx : a.eval x = .string i) (hv : a.eval v = .int .i64 (y : Int)) (hi : i.size ≤ maxLen) (hy : y ≤ 100000)
    (hK : ∀ w', MapS w' m (if (f i).isSome then s else s + 1) (updS f i y) → Turn [m] w w' → wpList Tryz.prog ops Q rest (a.put o.dst undef) w') : wpList Tryz.prog ops Q (o :: rest) a w := by
  obtain ⟨D, hown, hsz, h1, h2⟩ := h
  refine wpList_mapUpdate_own w hg mo x v 78 hop 9 3 law9 Tryz.underlying78 _ m s D hm hown (by unfold maxLen; omega) _ _ _ hx hv (key9 hi) _ [] (plainElem_int Tryz.underlying3 (wf_small hy)) fun w' hown' hgrow => ?_
  refine hK w' ⟨D.put (sK i) (.lit (.int .i64 (y : Int))), ?_, ?_, ?_, ?_⟩ ((Turn.refl _ _).grown hgrow (fun k hk => .inl (by cases hk; simp)))
  · have := ownsMap_resize hown'
    rw [Maps.size_put (hown.tidy law9), hsz, h1 i] at this
    exact this
  · rw [Maps.size_put (hown.tidy law9), hsz, h1 i]
  · intro j
    unfold updS
    by_cases e : j = i
    · subst e
      rw [Maps.has_put_same hown.isMap (law9.key (key9 hi))]
      simp
    · rw [Maps.has_put_other (fun e2 => e (sK_inj e2)), h1 j]
      simp [e]
  · intro j z hz
    unfold updS at hz
    by_cases e : j = i
    · subst e
      rw [if_pos rfl] at hz
      injection hz with hz
      subst hz
      exact Maps.atKey_put_same hown.isMap (law9.key (key9 hi)) _ _
    · rw [if_neg e] at hz
      rw [Maps.atKey_put_other (fun e2 => e (sK_inj e2))]
      exact h2 j z hz
end
end Go.Proofs.YtbocejiclellfaaGreatDoor

/- The classes that came in; firsts. -/
set_option linter.unusedSimpArgs false
set_option linter.unusedVariables false
set_option maxRecDepth 100000
namespace Go.Proofs.YtbocejiclellfaaGreatDoor
open Go.RowKit

/-- What a table asks of a class. -/
structure K8 where
  nm : ByteArray
  sup : ByteArray
  face : Bool
  fcs : List ByteArray
  p : Int
  q : Int
/-- The slice at A reads as the texts, below B. -/
def StsT (B : Nat) (w : World) (A : Option Addr) (l : List ByteArray) : Prop := ∀ (k : Nat) (s : ByteArray), l[k]? = some s → ∃ b off, A = some ⟨b, off, none⟩ ∧ b < B ∧ b < w.heap.size ∧ w.cell? ⟨b, off + k, none⟩ = some (.string s)
theorem StsT.turn {B : Nat} {w w' : World} {F : List Nat} {A : Option Addr} {l : List ByteArray} (h : StsT B w A l) (t : Turn F w w') (hF : ∀ g ∈ F, B ≤ g) : StsT B w' A l := fun k s hs => by
  obtain ⟨b, off, e, hb, hl, hc⟩ := h k s hs
  exact ⟨b, off, e, hb, Nat.lt_of_lt_of_le hl t.size, (t.cell (p := ⟨b, off + k, none⟩) hl (fun hg => by have h1 : B ≤ b := hF _ hg; omega)).trans hc⟩
/-- Ten cells read as the class. -/
def RdK (B : Nat) (w : World) (cs : List Value) (c : K8) : Prop := ∃ A3 c3 A4 n4 c4 A5 n5 c5 A6 n6 c6 I, cs = [.string c.nm, .string c.sup, .bool c.face, .slice A3 c.fcs.length c3, .slice A4 n4 c4, .slice A5 n5 c5, .slice A6 n6 c6, .pointer I, .int .i64 c.p, .int .i64 c.q] ∧ StsT B w A3 c.fcs
def RdKs (B : Nat) (w : World) (A : Option Addr) (l : List K8) : Prop := ∀ (j : Nat) (c : K8), l[j]? = some c → ∃ b off cs, A = some ⟨b, off, none⟩ ∧ b < B ∧ b < w.heap.size ∧ (∀ (i : Nat) (v : Value), cs[i]? = some v → w.cell? ⟨b, off + j * 10 + i, none⟩ = some v) ∧ RdK B w cs c
theorem RdKs.turn {B : Nat} {w w' : World} {F : List Nat} {A : Option Addr} {l : List K8} (h : RdKs B w A l) (t : Turn F w w') (hF : ∀ g ∈ F, B ≤ g) : RdKs B w' A l := fun j c hc => by
  obtain ⟨b, off, cs, e, hb, hl, hcell, A3, c3, A4, n4, c4, A5, n5, c5, A6, n6, c6, I, e2, hs⟩ := h j c hc
  exact ⟨b, off, cs, e, hb, Nat.lt_of_lt_of_le hl t.size, fun i v hv => (t.cell (p := ⟨b, off + j * 10 + i, none⟩) hl (fun hg => by have h1 : B ≤ b := hF _ hg; omega)).trans (hcell i v hv),
    A3, c3, A4, n4, c4, A5, n5, c5, A6, n6, c6, I, e2, hs.turn t hF⟩
/-- The first of the first k that has a name. -/
def fstF (l : List K8) (k : Nat) (s : ByteArray) : Option Nat := (l.take k).findIdx? (fun c => decide (c.nm = s))
theorem fstF_zero (l : List K8) : fstF l 0 = fun _ => none := by
  funext s
  simp [fstF]
theorem fstF_succ {l : List K8} {k : Nat} {c : K8} (h : l[k]? = some c) : fstF l (k + 1) = if (fstF l k c.nm).isSome then fstF l k else updS (fstF l k) c.nm k := by
  have hk : k < l.length := (List.getElem?_eq_some_iff.1 h).1
  funext s
  unfold fstF updS
  rw [take_snoc h, List.findIdx?_append]
  have hl : (l.take k).length = k := by rw [List.length_take]; omega
  by_cases hs : (List.findIdx? (fun d : K8 => decide (d.nm = c.nm)) (l.take k)).isSome = true
  · rw [if_pos hs]
    by_cases e : c.nm = s
    · subst e
      obtain ⟨i, hi⟩ := Option.isSome_iff_exists.1 hs
      rw [hi]
      rfl
    · simp [e]
  · rw [if_neg hs]
    by_cases e : c.nm = s
    · subst e
      have hn : List.findIdx? (fun d : K8 => decide (d.nm = c.nm)) (l.take k) = none := by simpa using hs
      rw [hn]
      simp [hl]
    · simp [e, Ne.symm e]

theorem max9 {s : ByteArray} (h : s.size ≤ 281474976710656) : s.size ≤ maxLen := by unfold maxLen; omega
set_option maxHeartbeats 6400000 in
theorem firsts_any (A : Option Addr) (c B : Nat) (l : List K8) (w : World) (hr : RdKs B w A l) (hB : B ≤ w.heap.size) (hl : l.length ≤ 1000) (hs : ∀ k ∈ l, k.nm.size ≤ 281474976710656) :
    Calls Tryz.prog 34 #[.slice A l.length c] w fun e w' => ∃ m s, e = .returned (.map (some m)) ∧ w.heap.size ≤ m ∧ MapS w' m s (fstF l l.length) ∧ s ≤ l.length ∧ Turn [] w w' := by
  have hmk := run_makeMap_hint
  obtain ⟨n, hn⟩ : ∃ n, l.length = n := ⟨_, rfl⟩
  obtain ⟨r, hrr⟩ : ∃ r, w.heap.size = r := ⟨_, rfl⟩
  have HR := Lib.hid hr
  have HB := Lib.hid hB
  have HN := Lib.hid hn
  have HS := Lib.hid hs
  have HRR := Lib.hid hrr
  rw [hn] at hl ⊢
  have t1 : Turn [] w (w.alloc (.map #[] 0)) := (Turn.refl [] w).alloc _
  have HM0 : Hid (∃ s, MapS (w.alloc (.map #[] 0)) r s (fstF l 0) ∧ s ≤ 0 ∧ Turn [] w (w.alloc (.map #[] 0))) := Lib.hid ⟨0, by rw [fstF_zero, ← hrr]; exact MapS.made w, Nat.le_refl _, t1⟩
  clear hr hB hn hs hrr t1
  go_enter Tryz.func34, Tryz.ntmps34
  go_wp2_with fail
  rw [HRR.out]
  go_loopw [13] (fun v13 wr => ∃ k : Nat, k ≤ n ∧ v13 = .int .i64 (k : Int) ∧ Hid (∃ s, MapS wr r s (fstF l k) ∧ s ≤ k ∧ Turn [] w wr)) (fun v13 _ => n - (intOf v13).toNat)
  case atStart => exact ⟨0, Nat.zero_le _, rfl, HM0⟩
  case round =>
    obtain ⟨k, hk, rfl, HK⟩ := hrel
    by_cases hlt : k < n
    · obtain ⟨s, hM, hsk, hT⟩ := HK.out
      obtain ⟨x, hx⟩ := at_lt (show k < l.length by have := HN.out; omega)
      obtain ⟨b, off, cs, rfl, hb, hbl, hcell, A3, c3, A4, n4, c4, A5, n5, c5, A6, n6, c6, I, rfl, hst⟩ := (HR.out.turn hT (by simp)) k x hx
      have hxs := HS.out x (List.mem_of_getElem? hx)
      have e0 : wr.cell? ⟨b, off + k * 10, none⟩ = some (.string x.nm) := hcell 0 _ rfl
      have e1 := hcell 1 _ rfl
      have e2 := hcell 2 _ rfl
      have e3 := hcell 3 _ rfl
      have e4 := hcell 4 _ rfl
      have e5 := hcell 5 _ rfl
      have e6 := hcell 6 _ rfl
      have e7 := hcell 7 _ rfl
      have e8 := hcell 8 _ rfl
      have e9 := hcell 9 _ rfl
      have d1 : decide ((k : Int) < (n : Int)) = true := by simp; omega
      have d2 : (k : Int) < (n : Int) := by omega
      have tA : Turn [] wr (wr.alloc (.cells #[.string x.nm, .string x.sup, .bool x.face, .slice A3 x.fcs.length c3, .slice A4 n4 c4, .slice A5 n5 c5, .slice A6 n6 c6, .pointer I, .int .i64 x.p, .int .i64 x.q] 53)) := (Turn.refl [] wr).alloc _
      have hlook := run_lookS_ok (hM.turn tA (by simp)) x.nm (max9 hxs)
      obtain ⟨y, hy⟩ : ∃ y, (fstF l k x.nm).getD 0 = y := ⟨_, rfl⟩
      rw [hy] at hlook
      have hsuc := fstF_succ hx
      have HC := Lib.hid (fun W => sClone_any x.nm W hxs)
      have HX := Lib.hid (And.intro hM (And.intro hsk (And.intro hT (And.intro tA hsuc))))
      have HXS := Lib.hid (max9 hxs)
      have hsk2 : s ≤ 1000000 := by omega
      have HO : Hid ((fstF l k x.nm).isSome = (fstF l k x.nm).isSome) := Lib.hid rfl
      cases ho : (fstF l k x.nm).isSome with
      | true =>
        rw [ho] at hlook
        have HN1 : Hid (∃ s, MapS (wr.alloc (.cells #[.string x.nm, .string x.sup, .bool x.face, .slice A3 x.fcs.length c3, .slice A4 n4 c4, .slice A5 n5 c5, .slice A6 n6 c6, .pointer I, .int .i64 x.p, .int .i64 x.q] 53)) r s (fstF l (k + 1)) ∧ s ≤ k + 1 ∧ Turn [] w (wr.alloc (.cells #[.string x.nm, .string x.sup, .bool x.face, .slice A3 x.fcs.length c3, .slice A4 n4 c4, .slice A5 n5 c5, .slice A6 n6 c6, .pointer I, .int .i64 x.p, .int .i64 x.q] 53))) :=
          Lib.hid ⟨s, by rw [hsuc, if_pos ho]; exact hM.turn tA (by simp), by omega, hT.trans' tA⟩
        clear hM hT hx hcell hst hxs tA hy hsuc HC HX ho HK HO hsk
        go_wp2_with fail
        go_roundw
        case rel => exact ⟨k + 1, by omega, by go_num, HN1⟩
        case measure => simp [intOf]; omega
      | false =>
        rw [ho] at hlook
        have HO2 := Lib.hid ho
        clear hM hT hx hcell hst hxs tA hy hsuc ho HK HO hsk
        go_wp2_with fail
        refine (HC.out _).mono ?_
        rintro e w3 ⟨rfl, t3⟩
        have HM3 := Lib.hid (HX.out.1.turn (HX.out.2.2.2.1.trans' t3) (by simp))
        have HT3 := Lib.hid (HX.out.2.2.1.trans' (HX.out.2.2.2.1.trans' t3))
        have hk1 : k ≤ 100000 := by omega
        clear t3 HC
        go_wp2_with (at_mapUpdate
                     refine wpList_storeS _ rfl (.tmp 27) (.tmp 30) (.tmp 31) rfl r s (fstF l k) rfl HM3.out hsk2 x.nm k rfl rfl HXS.out hk1 ?_
                     intro w4 hm4 ht4
                     have HM4 := Lib.hid (And.intro hm4 ht4)
                     clear hm4 ht4)
        have HN1 : Hid (∃ s, MapS w4 r s (fstF l (k + 1)) ∧ s ≤ k + 1 ∧ Turn [] w w4) := by
          obtain ⟨hM, hsk, hT, tA, hsuc⟩ := HX.out
          obtain ⟨hm4, ht4⟩ := HM4.out
          rw [HO2.out] at hm4
          simp only [Bool.false_eq_true, if_false] at hm4
          refine Lib.hid ⟨s + 1, by rw [hsuc, HO2.out]; simpa using hm4, by omega, HT3.out.trans ht4 (fun g hg => .inr ?_)⟩
          simp at hg
          have := HRR.out
          omega
        clear HM4 HX HM3 HT3
        go_roundw
        case rel => exact ⟨k + 1, by omega, by go_num, HN1⟩
        case measure => simp [intOf]; omega
    · obtain rfl : k = n := by omega
      have d1 : decide ((k : Int) < (k : Int)) = false := by simp
      go_wp2_with fail
      go_ret
      obtain ⟨s, hM, hsk, hT⟩ := HK.out
      refine ⟨r, s, rfl, by have := HRR.out; omega, hM, hsk, hT⟩
end Go.Proofs.YtbocejiclellfaaGreatDoor

/- fill$1: a name's number, if it is that of a class, or of an interface. -/
set_option linter.unusedSimpArgs false
set_option linter.unusedVariables false
set_option maxRecDepth 100000
namespace Go.Proofs.YtbocejiclellfaaGreatDoor
open Go.RowKit

/-- What find answers. -/
def fndR (l : List K8) (s : ByteArray) (f : Bool) : Int × Bool :=
  match fstF l l.length s with
  | none => (0, false)
  | some i => ((i : Int), decide (((l[i]?).map (·.face)).getD false = f))
/-- What find reads: the table's map, the classes. -/
structure Fd (B : Nat) (l : List K8) (tb lb t m s : Nat) (V : Value) (A : Option Addr) (c : Nat) (w : World) : Prop where
  tc : w.cell? ⟨tb, 0, none⟩ = some (.pointer (some ⟨t, 0, none⟩))
  lc : w.cell? ⟨lb, 0, none⟩ = some (.slice A l.length c)
  bk : w.cell? ⟨t, 0, none⟩ = some (.map (some m))
  mp : MapS w m s (fstF l l.length)
  ks : RdKs B w A l
theorem fstF_lt {l : List K8} {s : ByteArray} {i : Nat} (h : fstF l l.length s = some i) : i < l.length ∧ ∃ c, l[i]? = some c ∧ c.nm = s := by
  unfold fstF at h
  rw [List.take_length] at h
  obtain ⟨h1, h2, _⟩ := List.findIdx?_eq_some_iff_getElem.1 h
  exact ⟨h1, _, List.getElem?_eq_getElem h1, by simpa using h2⟩

set_option maxHeartbeats 6400000 in
theorem find_any8 {B : Nat} {l : List K8} {tb lb t m s : Nat} {V : Value} {A : Option Addr} {c : Nat} {w : World} (h : Fd B l tb lb t m s V A c w) (x : ByteArray) (f : Bool) (hx : x.size ≤ 281474976710656) :
    Calls Tryz.prog 55 #[.string x, .bool f, .pointer (some ⟨tb, 0, none⟩), .pointer (some ⟨lb, 0, none⟩)] w fun e w' => e = .returned (.tuple #[.int .i64 (fndR l x f).1, .bool (fndR l x f).2]) ∧ Turn [] w w' := by
  have hlook := run_lookS_ok h.mp x (max9 hx)
  have c1 := h.tc
  have c2 := h.lc
  have c3 := h.bk
  cases hf : fstF l l.length x with
  | none =>
    have e1 : fndR l x f = (0, false) := by unfold fndR; rw [hf]
    rw [e1]
    rw [hf] at hlook
    simp only [Option.getD_none, Option.isSome_none] at hlook
    have hlook2 : (Instr.lookup 78 (.map (some m)) (.string x) true).run Tryz.prog w = .ok (.tuple #[.int .i64 0, .bool false]) w := hlook
    clear h hf e1 hlook
    go_enter Tryz.func55, Tryz.ntmps55
    go_wp2_with fail
    go_quiet (fail)
    go_wp2_with fail
    go_ret2
    exact ⟨rfl, (Turn.refl [] _).drewN _⟩
  | some i =>
    obtain ⟨hi, k, hk, hkn⟩ := fstF_lt hf
    obtain ⟨b, off, cs, rfl, hb, hbl, hcell, A3, c3', A4, n4, c4, A5, n5, c5, A6, n6, c6, I, rfl, hst⟩ := h.ks i k hk
    have e2 : w.cell? ⟨b, off + i * 10 + 2, none⟩ = some (.bool k.face) := hcell 2 _ rfl
    have e1 : fndR l x f = ((i : Int), decide (k.face = f)) := by unfold fndR; rw [hf]; simp [hk]
    rw [e1]
    rw [hf] at hlook
    simp only [Option.getD_some, Option.isSome_some] at hlook
    obtain ⟨n, hn⟩ : ∃ n, l.length = n := ⟨_, rfl⟩
    rw [hn] at c2 hi
    have d1 : (i : Int) < (n : Int) := by omega
    have d2 : decide ((i : Int) < (n : Int)) = true := by simp; omega
    obtain ⟨kf, hkf⟩ : ∃ kf, k.face = kf := ⟨_, rfl⟩
    rw [hkf] at e2 ⊢
    clear h hf e1 hk hkn hcell hst hn hkf
    go_enter Tryz.func55, Tryz.ntmps55
    cases kf <;> cases f
    all_goals
      go_wp2_with fail
      go_quiet (fail)
      go_wp2_with fail
      go_ret2
      exact ⟨rfl, (Turn.refl [] _).drewN _⟩
end Go.Proofs.YtbocejiclellfaaGreatDoor
