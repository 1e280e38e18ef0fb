/- entryOf. -/
import Derived.Test.YtbocejiclellfaaGreatDoorQ03Clw
import Derived.Deep.DeepCutAuto
import Derived.Deep.RegionHeld3
import Derived.Deep.RegionLaw
import Derived.Laws.ResultCell

set_option linter.unusedSimpArgs false
set_option linter.unusedVariables false
set_option maxRecDepth 100000
namespace Go.Proofs.YtbocejiclellfaaGreatDoor
open Go.RowKit

/-- The faces' numbers behind some: none if one isn't there, or comes twice. -/
def facR (l : List K8) : List ByteArray → List Int → List Int → Option (List Int)
  | [], _, rt => some rt
  | s :: ss, st, rt =>
    if (fndR l s true).2 = true ∧ hasB st (fndR l s true).1 = false then facR l ss (putL st (fndR l s true).1) (rt ++ [(fndR l s true).1]) else none
/-- A class's entry: what it is above, and all right above. -/
def entR8 (l : List K8) (c : K8) : Option (Int × List Int) :=
  if c.sup = ⟨#[]⟩ then (facR l c.fcs [] []).map fun rt => (-1, rt)
  else if (fndR l c.sup false).2 = true then (facR l c.fcs [] [(fndR l c.sup false).1]).map fun rt => ((fndR l c.sup false).1, rt)
  else none
def enC (nm : ByteArray) (f : Bool) (s : Int) (V : Value) : Array Value := #[.string nm, .bool f, .int .i64 s, V]
theorem size_entry : (Tryz.prog.info? 100).map (·.size) = some 4 := by kernel_rfl
theorem sizeOf_entry (w : World) : (sizeOf 100).run Tryz.prog w = .ok 4 w := by kernel_rfl
theorem isAgg_entry (w : World) : (isAgg 100).run Tryz.prog w = .ok true w := by kernel_rfl
theorem load_entry {w : World} {g : Nat} {nm : ByteArray} {f : Bool} {s : Int} {V : Value} (h : w.heap[g]? = some (.cells (enC nm f s V) 100 (0, 0))) :
    (loadVar 100 ⟨g, 0, none⟩).run Tryz.prog w = .ok (.agg (enC nm f s V)) w := by
  have hl := run_loadCells_list (P := Tryz.prog) w ⟨g, 0, none⟩ [.string nm, .bool f, .int .i64 s, V] (fun j v hv => by
    rw [Addr.add_lit, cell_of_row w g _ _ _ _ h, Nat.zero_add]
    simpa [enC] using hv)
  simp only [List.length_cons, List.length_nil, Nat.zero_add, Nat.reduceAdd] at hl
  simp [loadVar, isAgg_entry, sizeOf_entry, hl, Result.andThen, enC]
theorem ret_entry {w : World} {g : Nat} {nm : ByteArray} {f b : Bool} {s : Int} {V : Value} {tmps : Array Value} (h : w.heap[g]? = some (.cells (enC nm f s V) 100 (0, 0))) (h4 : tmps.getD 4 undef = .pointer (some ⟨g, 0, none⟩)) (h5 : tmps.getD 5 undef = .bool b) :
    (results Tryz.f56 tmps).run Tryz.prog w = .ok (.tuple #[.agg (enC nm f s V), .bool b]) w := by
  rw [results_cell_tmp (p := 4) (u := 5) (ty := 100) rfl, h4, h5]
  simp [asAddr, load_entry h, Result.andThen]
theorem fndR_lt {l : List K8} {x : ByteArray} {f : Bool} (h : (fndR l x f).2 = true) : ∃ j : Nat, (fndR l x f).1 = (j : Int) ∧ j < l.length := by
  unfold fndR at h ⊢
  cases hf : fstF l l.length x with
  | none => rw [hf] at h; cases h
  | some j => exact ⟨j, rfl, (fstF_lt hf).1⟩
/-- How it stands in the loop: k faces are done. -/
def Er (l : List K8) (c : K8) (r gb q : Nat) (s : Int) (W0 wr : World) (k : Nat) : Prop :=
  ∃ F st rt V, wr.heap[gb]? = some (.cells (enC c.nm c.face s V) 100 (0, 0)) ∧ OwnI wr (r + 2) V rt ∧ (∀ g, V.ownBlock = some g → g ∉ F ∧ g ≠ gb) ∧ gb ∉ F ∧ Wd wr q F st ∧ (∀ g ∈ F, r + 2 ≤ g) ∧
    entR8 l c = (facR l (c.fcs.drop k) st rt).map (fun rt => (s, rt)) ∧ rt.length ≤ 1 + k ∧ Turn [] W0 wr
/-- What entryOf answers. -/
def EofR (l : List K8) (c : K8) (r : Nat) (e : Ending) (w' : World) : Prop :=
  match entR8 l c with
  | some (s, rt) => ∃ V, e = .returned (.tuple #[.agg (enC c.nm c.face s V), .bool true]) ∧ OwnI w' r V rt
  | none => e = .returned (.tuple #[.agg (enC ⟨#[]⟩ false 0 (.slice none 0 0)), .bool false])


set_option maxHeartbeats 12800000 in
theorem entryOf_any (l : List K8) (tb lb : Nat) (c : K8) (A3 : Option Addr) (c3 : Nat) (A4 : Option Addr) (n4 c4 : Nat) (A5 : Option Addr) (n5 c5 : Nat) (A6 : Option Addr) (n6 c6 : Nat) (I : Option Addr) (B : Nat) (w : World)
    (hF : ∀ (W : World) (x : ByteArray) (f : Bool), Turn [] w W → x.size ≤ 281474976710656 → Calls Tryz.prog 55 #[.string x, .bool f, .pointer (some ⟨tb, 0, none⟩), .pointer (some ⟨lb, 0, none⟩)] W fun e w' => e = .returned (.tuple #[.int .i64 (fndR l x f).1, .bool (fndR l x f).2]) ∧ Turn [] W w')
    (hst : StsT B w A3 c.fcs) (hl : l.length ≤ 1000) (hn : c.nm.size ≤ 281474976710656) (hsu : c.sup.size ≤ 281474976710656) (hfc : ∀ s ∈ c.fcs, s.size ≤ 281474976710656) (hfl : c.fcs.length ≤ 1000) :
    Calls Tryz.prog 56 #[.agg #[.string c.nm, .string c.sup, .bool c.face, .slice A3 c.fcs.length c3, .slice A4 n4 c4, .slice A5 n5 c5, .slice A6 n6 c6, .pointer I, .int .i64 c.p, .int .i64 c.q], .func (.func 55) #[] #[.pointer (some ⟨tb, 0, none⟩), .pointer (some ⟨lb, 0, none⟩)]] w fun e w' =>
      EofR l c w.heap.size e w' ∧ Turn [] w w' := by
  have hen := enters_of Tryz.func55 (by kernel_rfl) rfl
  obtain ⟨cl, hcl⟩ : ∃ cl : Array Value, #[.string c.nm, .string c.sup, .bool c.face, .slice A3 c.fcs.length c3, .slice A4 n4 c4, .slice A5 n5 c5, .slice A6 n6 c6, .pointer I, .int .i64 c.p, .int .i64 c.q] = cl := ⟨_, rfl⟩
  obtain ⟨r, hr⟩ : ∃ r, w.heap.size = r := ⟨_, rfl⟩
  obtain ⟨W0, hW0⟩ : ∃ W, (w.alloc (.cells cl 53)).alloc (.cells #[.string ⟨#[]⟩, .bool false, .int .i64 0, .slice none 0 0] 100) = W := ⟨_, rfl⟩
  have t0 : Turn [] w W0 := by rw [← hW0]; exact ((Turn.refl [] w).alloc _).alloc _
  have s0 : W0.heap.size = r + 2 := by rw [← hW0, ← hr]; simp
  have b0 : W0.heap[r]? = some (.cells cl 53 (0, 0)) := by rw [← hW0, ← hr]; exact ((Turn.refl [] _).alloc _).heap (heap_alloc_new w _) (by simp)
  have b1 : W0.heap[r + 1]? = some (.cells #[.string ⟨#[]⟩, .bool false, .int .i64 0, .slice none 0 0] 100 (0, 0)) := by
    rw [← hW0, ← hr]
    have := heap_alloc_new (w.alloc (.cells cl 53)) (.cells #[.string ⟨#[]⟩, .bool false, .int .i64 0, .slice none 0 0] 100)
    rwa [World.size_alloc] at this
  have hcells : ∀ W', Turn [] W0 W' → ∀ (i : Nat) (v : Value), cl[i]? = some v → W'.cell? ⟨r, i, none⟩ = some v := fun W' ht i v hv => (cell_of_row W' _ i _ _ _ (ht.heap b0 (by simp))).trans hv
  have HF := Lib.hid hF
  have HST := Lib.hid hst
  have HW0 := Lib.hid hW0
  have HT0 := Lib.hid t0
  have HS0 := Lib.hid s0
  have HB := Lib.hid (And.intro b0 b1)
  have HC := Lib.hid hcells
  have HR := Lib.hid hr
  have HCL := Lib.hid hcl
  have HFC := Lib.hid hfc
  have HCN := Lib.hid (fun W => sClone_any c.nm W hn)
  have x0 : W0.cell? ⟨r, 0, none⟩ = some (.string c.nm) := hcells W0 (Turn.refl _ _) 0 _ (by rw [← hcl]; rfl)
  have x2 : W0.cell? ⟨r, 2, none⟩ = some (.bool c.face) := hcells W0 (Turn.refl _ _) 2 _ (by rw [← hcl]; rfl)
  rw [hcl]
  clear hF hst hW0 t0 s0 b0 b1 hcells hr hcl hfc
  go_enter Tryz.func56, Tryz.ntmps56
  go_upto_region 1 with fail
  rw [HR.out, HW0.out]
  go_cut [6] (fun v6 w' => ∃ gb, v6 = .pointer (some ⟨gb, 0, none⟩) ∧ Hid (w'.heap[gb]? = some (.cells (enC c.nm c.face (-1) (.slice none 0 0)) 100 (0, 0)) ∧ r + 2 ≤ gb ∧ Turn [] W0 w'))
  case first =>
    go_region_held3 (fun w' => w'.cell? ⟨r, 0, none⟩ = some (.string c.nm) ∧ w'.cell? ⟨r, 2, none⟩ = some (.bool c.face))
      (first | exact ⟨y0, y2⟩ | exact ⟨x0, x2⟩ | exact ⟨y0', y2'⟩ | go_keep)
      (first
        | (go_at_call 54; (with_reducible refine (HCN.out _).mono ?_); rintro e1 w1 ⟨rfl, t1⟩
           have tt1 : Turn [] W0 w1 := (Turn.refl [] W0).drew.trans' t1
           have y0 : w1.cell? ⟨r, 0, none⟩ = some (.string c.nm) := HC.out w1 tt1 0 _ (by rw [← HCL.out]; rfl)
           have y2 : w1.cell? ⟨r, 2, none⟩ = some (.bool c.face) := HC.out w1 tt1 2 _ (by rw [← HCL.out]; rfl)
           have HT1 := Lib.hid (And.intro t1 tt1)
           clear t1 tt1)
        | (go_at_call 54; (with_reducible refine (HCN.out _).mono ?_); rintro e1 w1 ⟨rfl, t1⟩
           have zb := t1.heap (heap_alloc_new W0.drew _) (by simp)
           have tt1 : Turn [] W0 w1 := ((Turn.refl [] W0).drew.alloc _).trans' t1
           have y0 : w1.cell? ⟨r, 0, none⟩ = some (.string c.nm) := HC.out w1 tt1 0 _ (by rw [← HCL.out]; rfl)
           have y2 : w1.cell? ⟨r, 2, none⟩ = some (.bool c.face) := HC.out w1 tt1 2 _ (by rw [← HCL.out]; rfl)
           have z0 : w1.cell? ⟨W0.heap.size, 0, none⟩ = some (.string ⟨#[]⟩) := cell_of_row w1 _ 0 _ _ _ zb
           have z1 : w1.cell? ⟨W0.heap.size, 1, none⟩ = some (.bool false) := cell_of_row w1 _ 1 _ _ _ zb
           have z2 : w1.cell? ⟨W0.heap.size, 2, none⟩ = some (.int .i64 0) := cell_of_row w1 _ 2 _ _ _ zb
           have z3 : w1.cell? ⟨W0.heap.size, 3, none⟩ = some (.slice none 0 0) := cell_of_row w1 _ 3 _ _ _ zb
           have f0 : w1.frozen? ⟨W0.heap.size, 0, none⟩ = false := frozen_of_row w1 _ 0 _ _ zb
           have f1 : w1.frozen? ⟨W0.heap.size, 1, none⟩ = false := frozen_of_row w1 _ 1 _ _ zb
           have f2 : w1.frozen? ⟨W0.heap.size, 2, none⟩ = false := frozen_of_row w1 _ 2 _ _ zb
           have f3 : w1.frozen? ⟨W0.heap.size, 3, none⟩ = false := frozen_of_row w1 _ 3 _ _ zb
           have tS : Turn [W0.heap.size] w1 ((((w1.setCell ⟨W0.heap.size, 0, none⟩ (.string c.nm)).setCell ⟨W0.heap.size, 1, none⟩ (.bool c.face)).setCell ⟨W0.heap.size, 2, none⟩ (.int .i64 (-1))).setCell ⟨W0.heap.size, 3, none⟩ (.slice none 0 0)) :=
             ((((Turn.refl [W0.heap.size] w1).setCell (.inl (by simp)) _).setCell (.inl (by simp)) _).setCell (.inl (by simp)) _).setCell (.inl (by simp)) _
           have hrl : r < w1.heap.size := cell_lt y0
           have y0' := (tS.cell (p := ⟨r, 0, none⟩) hrl (by have := HS0.out; simp; omega)).trans y0
           have y2' := (tS.cell (p := ⟨r, 2, none⟩) hrl (by have := HS0.out; simp; omega)).trans y2
           have HT1 := Lib.hid (And.intro t1 (And.intro tt1 (And.intro zb tS)))
           clear t1 tt1 zb tS hrl)
        | fail)
    all_goals (go_wp2_with fail)
    all_goals go_meet
    · exact ⟨_, rfl, Lib.hid ⟨heap_alloc_new w1 _, by have := HT1.out.2.size; have := HS0.out; omega, HT1.out.2.alloc _⟩⟩
    · refine ⟨_, rfl, Lib.hid ⟨?_, by have := HS0.out; omega, HT1.out.2.1.trans HT1.out.2.2.2 (fun g hg => .inr (by simp at hg; omega))⟩⟩
      have h1 := Go.heap_setCell_same w1 _ 0 _ _ (.string c.nm) HT1.out.2.2.1
      have h2 := Go.heap_setCell_same _ _ 1 _ _ (.bool c.face) h1
      have h3 := Go.heap_setCell_same _ _ 2 _ _ (.int .i64 (-1)) h2
      exact Go.heap_setCell_same _ _ 3 _ _ (.slice none 0 0) h3
  case rest =>
    obtain ⟨gb, rfl, HG⟩ := hcut
    have x1 : wc.cell? ⟨r, 1, none⟩ = some (.string c.sup) := HC.out wc HG.out.2.2 1 _ (by rw [← HCL.out]; rfl)
    clear x0 x2
    obtain ⟨em, hem⟩ : ∃ em, c.sup.toList.isEmpty = em := ⟨_, rfl⟩
    have HEM : Hid ((c.sup = ⟨#[]⟩) = (em = true)) := Lib.hid (by
      rw [← hem, ByteArray.toList_eq]
      apply propext
      constructor
      · intro h; rw [h]; rfl
      · intro h
        apply ByteArray.ext
        simpa using h)
    go_upto_if 22 with fail
    clear hem
    go_cut [] (fun w' => ∃ (s : Int) (rt : List Int) (V : Value), Hid (w'.heap[gb]? = some (.cells (enC c.nm c.face s V) 100 (0, 0)) ∧ OwnI w' (r + 2) V rt ∧ V.ownBlock ≠ some gb ∧ entR8 l c = (facR l c.fcs [] rt).map (fun rt => (s, rt)) ∧ rt.length ≤ 1 ∧ Turn [] W0 w'))
    case first =>
      cases em with
      | true =>
        go_wp2_with fail
        go_meet
        refine ⟨-1, [], _, Lib.hid ⟨HG.out.1, OwnI.nil _ _, by simp [Value.ownBlock], ?_, by simp, HG.out.2.2⟩⟩
        unfold entR8
        rw [if_pos (by rw [HEM.out]; trivial)]
      | false =>
        have HFc := Lib.hid (HF.out wc c.sup false (HT0.out.trans' HG.out.2.2) hsu)
        go_wp2_with fail
        refine HFc.out.mono ?_
        rintro e w3 ⟨rfl, t3⟩
        have g3 := t3.heap HG.out.1 (by simp)
        have tt3 : Turn [] W0 w3 := HG.out.2.2.trans' t3
        obtain ⟨i, hi⟩ : ∃ i, (fndR l c.sup false).1 = i := ⟨_, rfl⟩
        obtain ⟨ok, hok⟩ : ∃ ok, (fndR l c.sup false).2 = ok := ⟨_, rfl⟩
        have HI := Lib.hid (And.intro hi hok)
        have HT3 := Lib.hid (And.intro tt3 g3)
        have HEE : Hid (¬ c.sup = ⟨#[]⟩) := Lib.hid (by rw [HEM.out]; simp)
        rw [hi, hok]
        have k2 : w3.cell? ⟨gb, 2, none⟩ = some (.int .i64 (-1)) := cell_of_row w3 gb 2 _ _ _ g3
        have k2f : w3.frozen? ⟨gb, 2, none⟩ = false := frozen_of_row w3 gb 2 _ _ g3
        have b3 := tt3.heap HB.out.2 (by simp)
        have m0 : w3.cell? ⟨r + 1, 0, none⟩ = some (.string ⟨#[]⟩) := cell_of_row w3 _ 0 _ _ _ b3
        have m1 : w3.cell? ⟨r + 1, 1, none⟩ = some (.bool false) := cell_of_row w3 _ 1 _ _ _ b3
        have m2 : w3.cell? ⟨r + 1, 2, none⟩ = some (.int .i64 0) := cell_of_row w3 _ 2 _ _ _ b3
        have m3 : w3.cell? ⟨r + 1, 3, none⟩ = some (.slice none 0 0) := cell_of_row w3 _ 3 _ _ _ b3
        have f0 : w3.frozen? ⟨r + 1, 0, none⟩ = false := frozen_of_row w3 _ 0 _ _ b3
        have f1 : w3.frozen? ⟨r + 1, 1, none⟩ = false := frozen_of_row w3 _ 1 _ _ b3
        have f2 : w3.frozen? ⟨r + 1, 2, none⟩ = false := frozen_of_row w3 _ 2 _ _ b3
        have f3 : w3.frozen? ⟨r + 1, 3, none⟩ = false := frozen_of_row w3 _ 3 _ _ b3
        have h4 := Go.heap_setCell_same w3 gb 2 _ _ (.int .i64 i) g3
        obtain ⟨W4, hW4⟩ : ∃ W, w3.setCell ⟨gb, 2, none⟩ (.int .i64 i) = W := ⟨_, rfl⟩
        have t4 : Turn [gb] w3 W4 := by rw [← hW4]; exact (Turn.refl [gb] w3).setCell (.inl (by simp)) _
        rw [hW4] at h4
        have q3 : W4.cell? ⟨gb, 3, none⟩ = some (.slice none 0 0) := cell_of_row W4 gb 3 _ _ _ h4
        have HW4 := Lib.hid (And.intro hW4 (And.intro t4 h4))
        have s4 : r + 2 ≤ W4.heap.size := by have := t4.size; have := tt3.size; have := HS0.out; omega
        clear hi hok t3 g3 tt3 hW4 h4 b3 HFc t4
        cases ok with
        | false =>
          have tS : Turn [r + 1] w3 ((((w3.setCell ⟨r + 1, 0, none⟩ (.string ⟨#[]⟩)).setCell ⟨r + 1, 1, none⟩ (.bool false)).setCell ⟨r + 1, 2, none⟩ (.int .i64 0)).setCell ⟨r + 1, 3, none⟩ (.slice none 0 0)) :=
            ((((Turn.refl [r + 1] w3).setCell (.inl (by simp)) _).setCell (.inl (by simp)) _).setCell (.inl (by simp)) _).setCell (.inl (by simp)) _
          have HTS := Lib.hid tS
          clear tS
          go_wp2_with fail
          have hb3 := HT3.out.1.heap HB.out.2 (by simp)
          have h1 := Go.heap_setCell_same w3 (r + 1) 0 _ _ (.string ⟨#[]⟩) hb3
          have h2 := Go.heap_setCell_same _ (r + 1) 1 _ _ (.bool false) h1
          have h3 := Go.heap_setCell_same _ (r + 1) 2 _ _ (.int .i64 0) h2
          have h4 := Go.heap_setCell_same _ (r + 1) 3 _ _ (.slice none 0 0) h3
          refine bodyPost_ret (ret_entry (b := false) (nm := ⟨#[]⟩) (f := false) (s := 0) (V := .slice none 0 0) h4 rfl rfl) rfl ⟨?_, ?_⟩
          · unfold EofR entR8
            rw [if_neg HEE.out, if_neg (by rw [HI.out.2]; simp)]
          · refine (HT0.out.trans' HT3.out.1).trans HTS.out (fun g hg => .inr ?_)
            simp at hg
            have := HR.out
            omega
        | true =>
          go_upto_region 7 with fail
          rw [HW4.out.1]
          go_wp2_with (at_builtin
                       refine wpList_app1' rfl (.tmp 36) (.tmp 38) rfl W4 (r + 2) (.slice none 0 0) [] i 1 rfl (OwnI.nil _ _) rfl (by simp) s4 ?_
                       intro v6 w6 ho6 ht6 hm6
                       obtain ⟨A6, q6, hv6, _, _⟩ := ho6.form
                       subst hv6
                       have g6 := (show Turn [] W4 w6 from ht6).heap HW4.out.2.2 (by simp)
                       have n3 : w6.cell? ⟨gb, 3, none⟩ = some (.slice none 0 0) := cell_of_row w6 gb 3 _ _ _ g6
                       have n3f : w6.frozen? ⟨gb, 3, none⟩ = false := frozen_of_row w6 gb 3 _ _ g6
                       have HO6 := Lib.hid (And.intro ho6 (And.intro ht6 (And.intro hm6 g6)))
                       clear ho6 ht6 hm6 g6)
          go_meet
          obtain ⟨ho6, ht6, hm6, g6⟩ := HO6.out
          obtain ⟨hW4, t4, h4⟩ := HW4.out
          have t6 : Turn [] W4 w6 := ht6
          have h7 := Go.heap_setCell_same w6 gb 3 _ _ (.slice A6 ([] ++ [i]).length q6) g6
          have t7 : Turn [gb] w6 (w6.setCell ⟨gb, 3, none⟩ (.slice A6 ([] ++ [i]).length q6)) := (Turn.refl [gb] w6).setCell (.inl (by simp)) _
          have hgl : gb < w3.heap.size := (Array.getElem?_eq_some_iff.1 HT3.out.2).1
          have hne : ∀ g, (Value.slice A6 ([] ++ [i]).length q6).ownBlock = some g → g ≠ gb := fun g hg e => by
            subst e
            rcases hm6 with h | ⟨g', h1, h2⟩
            · rw [h] at hg; cases hg
            · rw [hg] at h1
              injection h1 with h1
              have := t4.size
              omega
          refine ⟨i, [i], _, Lib.hid ⟨h7, ho6.turn t7 (fun g hg hh => hne g hg (by simpa using hh)), fun h => hne _ h rfl, ?_, by simp, ?_⟩⟩
          · unfold entR8
            rw [if_neg HEE.out, if_pos HI.out.2, HI.out.1]
          · refine ((HT3.out.1.trans t4 (fun g hg => .inr ?_)).trans' t6).trans t7 (fun g hg => .inr ?_)
            · simp at hg; have := HG.out.2.1; have := HS0.out; omega
            · simp at hg; have := HG.out.2.1; have := HS0.out; omega
    case rest =>
      obtain ⟨s, rt0, V0, HS⟩ := hcut
      obtain ⟨q, hq⟩ : ∃ q, wc.heap.size = q := ⟨_, rfl⟩
      obtain ⟨W9, hW9⟩ : ∃ W, wc.alloc (.cells #[.slice none 0 0] 110) = W := ⟨_, rfl⟩
      have t9 : Turn [] wc W9 := by rw [← hW9]; exact (Turn.refl [] wc).alloc _
      have tt9 : Turn [] W0 W9 := HS.out.2.2.2.2.2.trans' t9
      have x3 : W9.cell? ⟨r, 3, none⟩ = some (.slice A3 c.fcs.length c3) := HC.out W9 tt9 3 _ (by rw [← HCL.out]; rfl)
      have HE9 : Hid (Er l c r gb q s W0 W9 0) := by
        obtain ⟨a1, a2, a3, a4, a5, a6⟩ := HS.out
        have hgw : gb < wc.heap.size := (Array.getElem?_eq_some_iff.1 a1).1
        refine Lib.hid ⟨[q], [], rt0, V0, t9.heap a1 (by simp), a2.turn' t9, fun g hg => ⟨by have := (a2.lt g hg).2; simp; omega, fun e => a3 (by rw [hg, e])⟩, by simp; omega, by rw [← hW9, ← hq]; exact Wd.new wc, ?_, by simpa using a4, by omega, tt9⟩
        simp
        have := a6.size
        have := HS0.out
        omega
      obtain ⟨n, hnn⟩ : ∃ n, c.fcs.length = n := ⟨_, rfl⟩
      have HNN := Lib.hid hnn
      rw [hnn] at x3 hfl
      have HQ := Lib.hid hq
      have HW9 := Lib.hid hW9
      have HGB : Hid (r + 2 ≤ gb) := Lib.hid HG.out.2.1
      clear HS hq hW9 t9 tt9 hnn x1 HG
      go_upto_region 9 with fail
      rw [HQ.out, HW9.out]
      go_wp2_with fail
      go_loopw [44] (fun v44 wr => ∃ k : Nat, k ≤ n ∧ v44 = .int .i64 (k : Int) ∧ Hid (Er l c r gb q s W0 wr k)) (fun v44 _ => n - (intOf v44).toNat)
      case atStart => exact ⟨0, Nat.zero_le _, rfl, HE9⟩
      case round =>
        obtain ⟨k, hk, rfl, HK⟩ := hrel
        obtain ⟨F, st, rt, V, e1, e2, e3, e4, e5, e6, e7, e8, e9⟩ := HK.out
        by_cases hlt : k < n
        · obtain ⟨x, hx⟩ := at_lt (show k < c.fcs.length by have := HNN.out; omega)
          obtain ⟨b, off, rfl, hb, hbl, hxc⟩ := (HST.out.turn (HT0.out.trans' e9) (by simp)) k x hx
          have d1 : decide ((k : Int) < (n : Int)) = true := by simp; omega
          have d2 : (k : Int) < (n : Int) := by omega
          have hdr : c.fcs.drop k = x :: c.fcs.drop (k + 1) := by
            obtain ⟨hh, he⟩ := List.getElem?_eq_some_iff.1 hx
            rw [List.drop_eq_getElem_cons hh, he]
          rw [hdr, facR] at e7
          have HFx := Lib.hid (HF.out wr x true (HT0.out.trans' e9) (HFC.out x (List.mem_of_getElem? hx)))
          obtain ⟨i, hi⟩ : ∃ i, (fndR l x true).1 = i := ⟨_, rfl⟩
          obtain ⟨ok, hok⟩ : ∃ ok, (fndR l x true).2 = ok := ⟨_, rfl⟩
          have hij : ok = true → ∃ j : Nat, i = (j : Int) ∧ j < l.length := fun h => by rw [← hi]; exact fndR_lt (hok.trans h)
          rw [hi, hok] at HFx
          rw [hi, hok] at e7
          have HX := Lib.hid (And.intro e1 (And.intro e2 (And.intro e3 (And.intro e4 (And.intro e5 (And.intro e6 (And.intro e7 (And.intro e8 e9))))))))
          clear e1 e2 e3 e4 e5 e6 e7 e8 e9 hx hdr hi hok HK HE9
          cases ok with
          | false =>
            clear hij
            go_wp2_with fail
            refine HFx.out.mono ?_
            rintro e w3 ⟨rfl, t3⟩
            have tt3 := HX.out.2.2.2.2.2.2.2.2.trans' t3
            have b3 := tt3.heap HB.out.2 (by simp)
            have m0 : w3.cell? ⟨r + 1, 0, none⟩ = some (.string ⟨#[]⟩) := cell_of_row w3 _ 0 _ _ _ b3
            have m1 : w3.cell? ⟨r + 1, 1, none⟩ = some (.bool false) := cell_of_row w3 _ 1 _ _ _ b3
            have m2 : w3.cell? ⟨r + 1, 2, none⟩ = some (.int .i64 0) := cell_of_row w3 _ 2 _ _ _ b3
            have m3 : w3.cell? ⟨r + 1, 3, none⟩ = some (.slice none 0 0) := cell_of_row w3 _ 3 _ _ _ b3
            have f0 : w3.frozen? ⟨r + 1, 0, none⟩ = false := frozen_of_row w3 _ 0 _ _ b3
            have f1 : w3.frozen? ⟨r + 1, 1, none⟩ = false := frozen_of_row w3 _ 1 _ _ b3
            have f2 : w3.frozen? ⟨r + 1, 2, none⟩ = false := frozen_of_row w3 _ 2 _ _ b3
            have f3 : w3.frozen? ⟨r + 1, 3, none⟩ = false := frozen_of_row w3 _ 3 _ _ b3
            have HB3 := Lib.hid b3
            clear b3
            have HT3 := Lib.hid tt3
            clear t3 tt3
            go_wp2_with fail
            have h1 := Go.heap_setCell_same w3 (r + 1) 0 _ _ (.string ((⟨#[]⟩ : ByteArray))) HB3.out
            have h2 := Go.heap_setCell_same _ (r + 1) 1 _ _ (.bool false) h1
            have h3 := Go.heap_setCell_same _ (r + 1) 2 _ _ (.int .i64 ((0 : Int))) h2
            have h4 := Go.heap_setCell_same _ (r + 1) 3 _ _ ((.slice none 0 0 : Value)) h3
            have tS : Turn [r + 1] w3 ((((w3.setCell ⟨r + 1, 0, none⟩ (.string ((⟨#[]⟩ : ByteArray)))).setCell ⟨r + 1, 1, none⟩ (.bool false)).setCell ⟨r + 1, 2, none⟩ (.int .i64 ((0 : Int)))).setCell ⟨r + 1, 3, none⟩ ((.slice none 0 0 : Value))) :=
              ((((Turn.refl [r + 1] w3).setCell (.inl (by simp)) _).setCell (.inl (by simp)) _).setCell (.inl (by simp)) _).setCell (.inl (by simp)) _
            refine bodyPost_ret (ret_entry (b := false) (nm := ((⟨#[]⟩ : ByteArray))) (f := false) (s := ((0 : Int))) (V := ((.slice none 0 0 : Value))) h4 rfl rfl) rfl ⟨?_, (HT0.out.trans' (HT3.out)).trans tS (fun g hg => .inr (by simp at hg; have := HR.out; omega))⟩
            unfold EofR
            rw [HX.out.2.2.2.2.2.2.1]
            simp
          | true =>
            obtain ⟨j, rfl, hj⟩ := hij rfl
            have HJ := Lib.hid hj
            obtain ⟨hb, hhb⟩ : ∃ hb, hasB st (j : Int) = hb := ⟨_, rfl⟩
            have HHB := Lib.hid hhb
            have HXM := Lib.hid HX.out.2.2.2.2.2.2.1
            rw [hhb] at HXM
            clear hj hhb
            cases hb with
            | true =>
              go_wp2_with fail
              refine HFx.out.mono ?_
              rintro e w3 ⟨rfl, t3⟩
              have tt3 := HX.out.2.2.2.2.2.2.2.2.trans' t3
              have HWd := Lib.hid (wadd_any q F st j (by have := HJ.out; omega) w3 (HX.out.2.2.2.2.1.turn t3 (by simp)))
              rw [HHB.out] at HWd
              simp only [Bool.not_true] at HWd
              have HT3 := Lib.hid tt3
              clear t3 tt3
              go_wp2_with fail
              refine HWd.out.mono ?_
              rintro e w4 ⟨rfl, F4, hw4, t4, f4⟩
              have tt4 : Turn [] W0 w4 := HT3.out.trans t4 (fun g hg => .inr (by have := HX.out.2.2.2.2.2.1 g hg; have := HS0.out; omega))
              have b3 := tt4.heap HB.out.2 (by simp)
              have m0 : w4.cell? ⟨r + 1, 0, none⟩ = some (.string ⟨#[]⟩) := cell_of_row w4 _ 0 _ _ _ b3
              have m1 : w4.cell? ⟨r + 1, 1, none⟩ = some (.bool false) := cell_of_row w4 _ 1 _ _ _ b3
              have m2 : w4.cell? ⟨r + 1, 2, none⟩ = some (.int .i64 0) := cell_of_row w4 _ 2 _ _ _ b3
              have m3 : w4.cell? ⟨r + 1, 3, none⟩ = some (.slice none 0 0) := cell_of_row w4 _ 3 _ _ _ b3
              have f0 : w4.frozen? ⟨r + 1, 0, none⟩ = false := frozen_of_row w4 _ 0 _ _ b3
              have f1 : w4.frozen? ⟨r + 1, 1, none⟩ = false := frozen_of_row w4 _ 1 _ _ b3
              have f2 : w4.frozen? ⟨r + 1, 2, none⟩ = false := frozen_of_row w4 _ 2 _ _ b3
              have f3 : w4.frozen? ⟨r + 1, 3, none⟩ = false := frozen_of_row w4 _ 3 _ _ b3
              have HB3 := Lib.hid b3
              clear b3
              have HT4 := Lib.hid tt4
              clear hw4 t4 f4 tt4
              go_wp2_with fail
              have h1 := Go.heap_setCell_same w4 (r + 1) 0 _ _ (.string ((⟨#[]⟩ : ByteArray))) HB3.out
              have h2 := Go.heap_setCell_same _ (r + 1) 1 _ _ (.bool false) h1
              have h3 := Go.heap_setCell_same _ (r + 1) 2 _ _ (.int .i64 ((0 : Int))) h2
              have h4 := Go.heap_setCell_same _ (r + 1) 3 _ _ ((.slice none 0 0 : Value)) h3
              have tS : Turn [r + 1] w4 ((((w4.setCell ⟨r + 1, 0, none⟩ (.string ((⟨#[]⟩ : ByteArray)))).setCell ⟨r + 1, 1, none⟩ (.bool false)).setCell ⟨r + 1, 2, none⟩ (.int .i64 ((0 : Int)))).setCell ⟨r + 1, 3, none⟩ ((.slice none 0 0 : Value))) :=
                ((((Turn.refl [r + 1] w4).setCell (.inl (by simp)) _).setCell (.inl (by simp)) _).setCell (.inl (by simp)) _).setCell (.inl (by simp)) _
              refine bodyPost_ret (ret_entry (b := false) (nm := ((⟨#[]⟩ : ByteArray))) (f := false) (s := ((0 : Int))) (V := ((.slice none 0 0 : Value))) h4 rfl rfl) rfl ⟨?_, (HT0.out.trans' (HT4.out)).trans tS (fun g hg => .inr (by simp at hg; have := HR.out; omega))⟩
              unfold EofR
              rw [HXM.out]
              simp
            | false =>
              go_wp2_with fail
              refine HFx.out.mono ?_
              rintro e w3 ⟨rfl, t3⟩
              have HWd := Lib.hid (wadd_any q F st j (by have := HJ.out; omega) w3 (HX.out.2.2.2.2.1.turn t3 (by simp)))
              rw [HHB.out] at HWd
              simp only [Bool.not_false] at HWd
              have HT3 := Lib.hid t3
              clear t3
              go_wp2_with fail
              refine HWd.out.mono ?_
              rintro e w4 ⟨rfl, F4, hw4, t4, f4⟩
              have g4 := (HT3.out.heap HX.out.1 (by simp))
              have g4 := t4.heap g4 HX.out.2.2.2.1
              have ho4 : OwnI w4 (r + 2) V rt := (HX.out.2.1.turn' HT3.out).turn t4 (fun g hg => (HX.out.2.2.1 g hg).1)
              obtain ⟨A4', q4, hv4, _, _⟩ := ho4.form
              have q3 : w4.cell? ⟨gb, 3, none⟩ = some V := cell_of_row w4 gb 3 _ _ _ g4
              have HO4 := Lib.hid ho4
              have HG4 := Lib.hid g4
              have HW4 := Lib.hid (And.intro hw4 (And.intro t4 f4))
              have hrl : rt.length ≤ 10000000 := by have := HX.out.2.2.2.2.2.2.2.1; omega
              have s4 : r + 2 ≤ w4.heap.size := by have := t4.size; have := HT3.out.size; have := HX.out.2.2.2.2.2.2.2.2.size; have := HS0.out; omega
              have HV4 := Lib.hid hv4
              clear hw4 t4 f4 g4 ho4 hv4
              go_wp2_with (at_builtin
                           refine wpList_app1' rfl (.tmp 63) (.tmp 65) rfl w4 (r + 2) V rt (j : Int) 1 rfl HO4.out rfl hrl s4 ?_
                           intro v6 w6 ho6 ht6 hm6
                           obtain ⟨A6, q6, hv6, _, _⟩ := ho6.form
                           subst hv6
                           have g6 := ht6.heap HG4.out (fun hg => (HX.out.2.2.1 gb (by simpa using hg)).2 rfl)
                           have n3 : w6.cell? ⟨gb, 3, none⟩ = some V := cell_of_row w6 gb 3 _ _ _ g6
                           have n3f : w6.frozen? ⟨gb, 3, none⟩ = false := frozen_of_row w6 gb 3 _ _ g6
                           have HO6 := Lib.hid (And.intro ho6 (And.intro ht6 (And.intro hm6 g6)))
                           clear ho6 ht6 hm6 g6)
              have HN : Hid (Er l c r gb q s W0 (w6.setCell ⟨gb, 3, none⟩ (.slice A6 (rt ++ [(j : Int)]).length q6)) (k + 1)) := by
                obtain ⟨ho6, ht6, hm6, g6⟩ := HO6.out
                obtain ⟨e1, e2, e3, e4, e5, e6, e7, e8, e9⟩ := HX.out
                obtain ⟨hw4, t4, f4⟩ := HW4.out
                have h7 := Go.heap_setCell_same w6 gb 3 _ _ (.slice A6 (rt ++ [(j : Int)]).length q6) g6
                have t7 : Turn [gb] w6 (w6.setCell ⟨gb, 3, none⟩ (.slice A6 (rt ++ [(j : Int)]).length q6)) := (Turn.refl [gb] w6).setCell (.inl (by simp)) _
                have hz3 := HT3.out.size
                have hz4 := t4.size
                have hzr := e9.size
                have hz0 := HS0.out
                have hgr : gb < wr.heap.size := (Array.getElem?_eq_some_iff.1 e1).1
                have hgb : r + 2 ≤ gb := HGB.out
                have hF4 : ∀ g ∈ F4, g < w3.heap.size → g ∈ F := fun g hg hl => by
                  rcases f4 g hg with h | h
                  · exact h
                  · omega
                have hV : ∀ g, V.ownBlock = some g → g ∉ F4 := fun g hg hh => (e3 g hg).1 (hF4 g hh (by have := (e2.lt g hg).2; omega))
                have hF4l := hw4.lt.2
                have h6 : ∀ g, (Value.slice A6 (rt ++ [(j : Int)]).length q6).ownBlock = some g → g ∉ F4 ∧ g ≠ gb := fun g hg => by
                  rcases hm6 with h | ⟨g', h1, h2⟩
                  · rw [h] at hg
                    exact ⟨hV g hg, (e3 g hg).2⟩
                  · rw [hg] at h1
                    injection h1 with h1
                    exact ⟨fun hh => by have := hF4l g hh; omega, by omega⟩
                have hgF4 : gb ∉ F4 := fun hh => e4 (hF4 gb hh (by omega))
                refine Lib.hid ⟨F4, putL st (j : Int), _, _, h7, ho6.turn t7 (fun g hg hh => (h6 g hg).2 (by simpa using hh)), h6, hgF4, (hw4.turn ht6 (fun g hg => hV g (by simpa using hg))).turn t7 (by simpa using hgF4), fun g hg => ?_, ?_, by simp; omega, ?_⟩
                · rcases f4 g hg with h | h
                  · exact e6 g h
                  · omega
                · rw [HXM.out]
                  simp
                · refine (((e9.trans' HT3.out).trans t4 (fun g hg => .inr ?_)).trans ht6 (fun g hg => .inr ?_)).trans t7 (fun g hg => .inr ?_)
                  · have := e6 g hg; omega
                  · have h1 := hg
                    have h2 : V.ownBlock = some g := by simpa using h1
                    have := (e2.lt g h2).1
                    omega
                  · simp at hg; omega
              clear HO6 HG4 HO4 HW4 HX HXM HWd HT3 HV4
              go_roundw
              case rel =>
                simp only [List.length_append, List.length_cons, List.length_nil, Nat.zero_add] at HN
                exact ⟨k + 1, by omega, by go_num, HN⟩
              case measure => simp [intOf] <;> omega
        · obtain rfl : k = n := by omega
          have d1 : decide ((k : Int) < (k : Int)) = false := by simp
          rw [← HNN.out, List.drop_length, facR] at e7
          obtain ⟨A7, q7, hv7, _, _⟩ := e2.form
          have k0 : wr.cell? ⟨gb, 0, none⟩ = some (.string c.nm) := cell_of_row wr gb 0 _ _ _ e1
          have k1 : wr.cell? ⟨gb, 1, none⟩ = some (.bool c.face) := cell_of_row wr gb 1 _ _ _ e1
          have k2 : wr.cell? ⟨gb, 2, none⟩ = some (.int .i64 s) := cell_of_row wr gb 2 _ _ _ e1
          have k3 : wr.cell? ⟨gb, 3, none⟩ = some V := cell_of_row wr gb 3 _ _ _ e1
          have b3 := e9.heap HB.out.2 (by simp)
          have m0 : wr.cell? ⟨r + 1, 0, none⟩ = some (.string ⟨#[]⟩) := cell_of_row wr _ 0 _ _ _ b3
          have m1 : wr.cell? ⟨r + 1, 1, none⟩ = some (.bool false) := cell_of_row wr _ 1 _ _ _ b3
          have m2 : wr.cell? ⟨r + 1, 2, none⟩ = some (.int .i64 0) := cell_of_row wr _ 2 _ _ _ b3
          have m3 : wr.cell? ⟨r + 1, 3, none⟩ = some (.slice none 0 0) := cell_of_row wr _ 3 _ _ _ b3
          have f0 : wr.frozen? ⟨r + 1, 0, none⟩ = false := frozen_of_row wr _ 0 _ _ b3
          have f1 : wr.frozen? ⟨r + 1, 1, none⟩ = false := frozen_of_row wr _ 1 _ _ b3
          have f2 : wr.frozen? ⟨r + 1, 2, none⟩ = false := frozen_of_row wr _ 2 _ _ b3
          have f3 : wr.frozen? ⟨r + 1, 3, none⟩ = false := frozen_of_row wr _ 3 _ _ b3
          have HB3 := Lib.hid b3
          clear b3
          have HT9 := Lib.hid e9
          have HE7 := Lib.hid (And.intro e7 e2)
          subst hv7
          clear e1 e2 e3 e4 e5 e6 e7 e8 e9 HK HE9
          go_wp2_with fail
          have h1 := Go.heap_setCell_same wr (r + 1) 0 _ _ (.string (c.nm)) HB3.out
          have h2 := Go.heap_setCell_same _ (r + 1) 1 _ _ (.bool (c.face)) h1
          have h3 := Go.heap_setCell_same _ (r + 1) 2 _ _ (.int .i64 s) h2
          have h4 := Go.heap_setCell_same _ (r + 1) 3 _ _ ((.slice A7 rt.length q7 : Value)) h3
          have tS : Turn [r + 1] wr ((((wr.setCell ⟨r + 1, 0, none⟩ (.string (c.nm))).setCell ⟨r + 1, 1, none⟩ (.bool (c.face))).setCell ⟨r + 1, 2, none⟩ (.int .i64 s)).setCell ⟨r + 1, 3, none⟩ ((.slice A7 rt.length q7 : Value))) :=
            ((((Turn.refl [r + 1] wr).setCell (.inl (by simp)) _).setCell (.inl (by simp)) _).setCell (.inl (by simp)) _).setCell (.inl (by simp)) _
          refine bodyPost_ret (ret_entry (b := true) (nm := (c.nm)) (f := (c.face)) (s := s) (V := ((.slice A7 rt.length q7 : Value))) h4 rfl rfl) rfl ⟨?_, (HT0.out.trans' (HT9.out)).trans tS (fun g hg => .inr (by simp at hg; have := HR.out; omega))⟩
          unfold EofR
          rw [HE7.out.1]
          refine ⟨_, rfl, ?_⟩
          rw [HR.out]
          exact (HE7.out.2.turn tS (fun g hg hh => by have := (HE7.out.2.lt g hg).1; simp at hh; omega)).mono (by omega)
end Go.Proofs.YtbocejiclellfaaGreatDoor
