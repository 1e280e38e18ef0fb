import Derived.Test.YtbocejiclellfaaGreatDoorQ03Clw
import Derived.Test.YtbocejiclellfaaGreatDoorRows
import Derived.ProofKit
import Derived.LaidMore
import Derived.OpenShut
import Derived.Stop.Joined
import Derived.Carry
import Derived.ChangeMaps5
import Derived.Deep.Slices
import Derived.Deep.Strs
import Derived.SizedLaws

/- What the laws' rows share: the listed table read off its condition; the arguments read off the data. -/
set_option linter.unusedSimpArgs false
set_option linter.unusedVariables false
set_option maxRecDepth 100000
namespace Go.Proofs.YtbocejiclellfaaGreatDoor
open Go.ChangeShapes Go.WideShapes Go.ChangeAt Go.RowKit Go.Deep

theorem door_own : ownKnob Tryz.prog.godebug = none := by kernel_rfl
theorem door_laidOut : laidOutB Tryz.prog = true := by kernel_rfl
def doorLaidList : List (String × DataW Unit) := Rows.subTellsRow.laid
theorem door_g : Tryz.prog.globalNamed (Rows.subTellsRow.named.headD default) = some 0 := by kernel_rfl
theorem door_t : (Tryz.prog.globals[0]?).map (·.type) = some 150 := by kernel_rfl
theorem door_met (os : Os) (args : Array Value) : laidMetH Tryz.prog doorLaidList ((World.doorLaid Tryz.prog 400 os).forCall (fun _ _ => 0) ⟨#[], args, []⟩).memory :=
  laidMetH_of_parts3 (fuel := 8) (laidMet_of_run' 8 (by kernel_rfl) (by kernel_rfl)) (by kernel_rfl) (by kernel_rfl)
theorem tab_entries : ∀ j, j < 64 → ∀ (d : DataW Unit) (n : Int), (match (Rows.laid_math_bits_deBruijn64tab : DataW Unit) with | .agg l => l[j]? | _ => none) = some d → d = .lit (.int .u8 n) → n = (Lib.deBruijn64tab.getD j 0 : Nat) := by
  intro j hj d n h1 h2
  subst h2
  have key : ∀ j : Fin 64, (match (Rows.laid_math_bits_deBruijn64tab : DataW Unit) with | .agg l => l[j.val]? | _ => none) = some (.lit (.int .u8 ((Lib.deBruijn64tab.getD j.val 0 : Nat) : Int))) := by
    intro j
    match j with
    | ⟨j, hj⟩ =>
      simp only
      iterate 64 (rcases j with _ | j; · rfl)
      omega
  have := (key ⟨j, hj⟩).symm.trans h1
  simp at this
  exact this.symm
theorem of_laid {W : World} (h : laidMetH Tryz.prog doorLaidList W) : Tab W := by
  rw [MakeChecks.laidMetH_plain _ _ _ (by kernel_rfl)] at h
  obtain ⟨ps, ⟨g, t, cs, fuel, p, q, hg, ht, hv, hd, _, _⟩, _, _⟩ := h
  obtain rfl := Option.some.inj (door_g.symm.trans hg)
  obtain rfl := Option.some.inj (door_t.symm.trans ht)
  have c5 : Tryz.prog.cellsOf 5 = 1 := by kernel_rfl
  obtain ⟨xs, m, _, ex, hlen, hl, hel⟩ := DataW.trod_array Tryz.underlying150 hd
  have ex1 := (Prod.mk.inj ex).1
  intro j hj
  have hj' : j < 64 := by simpa [Lib.deBruijn64tab] using hj
  have hxj : j < xs.length := by omega
  have h0 := hel j (by omega)
  rw [c5, List.getElem?_eq_getElem hxj] at h0
  obtain ⟨k, e1, e2, _⟩ := DataW.trod_int Tryz.underlying5 h0
  have hk := tab_entries j hj' (xs[j]).1 k (by rw [ex1]; simp [hxj]) (by rw [e2])
  have hc := World.var?_cell hg hv j
  rw [hc, ← Array.getElem?_toList]
  have : (cs.toList.drop (j * 1)).take 1 = [.int .u8 k] := e1
  have h2 : ((cs.toList.drop (j * 1)).take 1)[0]? = some (.int .u8 k) := by rw [this]; rfl
  rw [List.getElem?_take_of_lt (by omega), List.getElem?_drop] at h2
  rw [← hk]
  simpa using h2

/-- A slice of ints, opened: its length is bounded and it reads as a list. -/
theorem open_row {H : Type} {enc : TypeId × Value → H} {W : World} {a0 : Option Addr} {len cap : Nat} {d : DataW H} {p : List MemPlace}
    (h : DataW.Trod enc Tryz.prog W 0 (fun _ => true) true 63 (.slice a0 len cap) d p) (hlt : ∀ x ∈ p, x.block < W.heap.size) :
    ∃ l : List Int, len = l.length ∧ len ≤ 9223372036854775807 ∧ Ints W a0 l ∧ (∀ y ∈ l, (Lit.int .i64 y).wf = true) ∧ cap ≤ 9223372036854775807 ∧ len ≤ cap := by
  obtain ⟨fuel, hf⟩ := h
  rcases open_ints Tryz.underlying63 Tryz.underlying3 (by kernel_rfl) hf with ⟨hcs, hx⟩ | ⟨a, len', cap', zs, hcs, _, hl, hm, hz, hx, hcell, hwz⟩
  · simp [Value.cells] at hcs
    obtain ⟨rfl, rfl, rfl⟩ := hcs
    exact ⟨[], rfl, by omega, Ints.nil _ _, fun y hy => (by simp at hy), by omega, by omega⟩
  · simp [Value.cells] at hcs
    obtain ⟨rfl, rfl, rfl⟩ := hcs
    simp only [if_true] at hz
    have hp := (Prod.mk.inj hx).2
    simp only [maxLen] at hm
    refine ⟨zs.take len, by simp; omega, by omega, ?_, fun y hy => hwz y (List.mem_of_mem_take hy), by omega, hl⟩
    intro k y hy
    have hk : k < len := by
      have := (List.getElem?_eq_some_iff.1 hy).1
      simp at this
      omega
    have hy' : zs[k]? = some y := by
      rw [← hy, List.getElem?_take_of_lt hk]
    obtain ⟨b, off, spot⟩ := a
    have h0 := hcell 0 (by omega)
    obtain rfl : spot = none := by
      cases spot with
      | none => rfl
      | some s => simp [Addr.add, World.cell?] at h0; split at h0 <;> simp at h0
    refine ⟨b, off, rfl, ?_, ?_⟩
    · exact hlt (.cell b off) (by rw [hp]; exact MemPlace.mem_row.2 ⟨0, by omega, by simp⟩)
    · have := hcell k (by omega)
      have e : (Addr.add ⟨b, off, none⟩ k) = ⟨b, off + k, none⟩ := by
        by_cases hk0 : k = 0 <;> simp [Addr.add, hk0]
      rw [e] at this
      rw [this, List.getD_eq_getElem?_getD, hy']
      rfl
end Go.Proofs.YtbocejiclellfaaGreatDoor

/- Programs read off the data: what a table asks of their classes. -/
set_option linter.unusedSimpArgs false
set_option linter.unusedVariables false
set_option maxRecDepth 100000
namespace Go.Proofs.YtbocejiclellfaaGreatDoor
open Go.ChangeShapes Go.WideShapes Go.ChangeAt Go.RowKit Go.Deep

/-- What was read weighs no more than a machine can hold. -/
def Lite {H : Type} (d : DataW H) (t : TypeId) : Prop := ∀ k ∈ d.weights Tryz.prog t, k ≤ reachBytes
theorem weights_all {H : Type} (P : Program) (e : TypeId) {d : DataW H} {k : Nat} : ∀ {l : List (DataW H)}, d ∈ l → k ∈ d.weights P e → k ∈ DataW.weightsAll P e l
  | [], h, _ => by simp at h
  | x :: l, h, hk => by
    simp only [DataW.weightsAll, List.mem_append]
    rcases List.mem_cons.1 h with rfl | h
    · exact .inl hk
    · exact .inr (weights_all P e h hk)
theorem lite_elem {H : Type} {t e : TypeId} (ht : Tryz.prog.underlying t = some (.slice e)) {el sp : List (DataW H)} (h : Lite (.slice el sp) t) {d : DataW H} (hd : d ∈ el) : Lite d e := by
  intro k hk
  refine h k ?_
  rw [DataW.weights, ht]
  exact List.mem_cons_of_mem _ (List.mem_append_left _ (weights_all _ _ hd hk))
theorem lite_str {H : Type} {s : ByteArray} {t : TypeId} (h : Lite (.lit (.string s.data.toList) : DataW H) t) : s.size ≤ 281474976710656 := by
  have := h s.data.toList.length (by rw [DataW.weights]; simp)
  have h5 : s.size = s.data.toList.length := Array.length_toList.symm
  unfold reachBytes at this
  omega
theorem lite_fld {H : Type} {t : TypeId} {fs : Array Field} (ht : Tryz.prog.underlying t = some (.struct fs)) {xs : List (DataW H × List MemPlace)} (h : Lite (.agg (xs.map (·.1))) t) {i : Nat} {f : Field} (hf : fs[i]? = some f) {y : DataW H × List MemPlace} (hy : xs[i]? = some y) : Lite y.1 f.type := by
  intro k hk
  refine h k ?_
  rw [DataW.weights, ht]
  exact DataW.weights_mem_each (j := i) (t := f.type) (by simp [hf]) (by simp [hy]) k hk
theorem c_int : Tryz.prog.cellsOf 3 = 1 := by kernel_rfl
theorem c_str : Tryz.prog.cellsOf 9 = 1 := by kernel_rfl
theorem c_strs : Tryz.prog.cellsOf 47 = 1 := by kernel_rfl
theorem c_pos : Tryz.prog.cellsOf 26 = 2 := by kernel_rfl
theorem c_bool : Tryz.prog.cellsOf 4 = 1 := by kernel_rfl
theorem c_vars : Tryz.prog.cellsOf 23 = 1 := by kernel_rfl
theorem c_method : Tryz.prog.cellsOf 28 = 9 := by kernel_rfl
theorem c_methods : Tryz.prog.cellsOf 50 = 1 := by kernel_rfl
theorem c_pMethod : Tryz.prog.cellsOf 51 = 1 := by kernel_rfl
theorem c_class : Tryz.prog.cellsOf 53 = 10 := by kernel_rfl
theorem c_classes : Tryz.prog.cellsOf 22 = 1 := by kernel_rfl
theorem c_program : Tryz.prog.cellsOf 30 = 10 := by kernel_rfl
theorem take1 {cs : List Value} {o : Nat} {v : Value} (h : (cs.drop o).take 1 = [v]) : cs[o]? = some v := by
  have : ((cs.drop o).take 1)[0]? = some v := by rw [h]; rfl
  rw [List.getElem?_take_of_lt (by omega), List.getElem?_drop] at this
  simpa using this
theorem list10 {cs : List Value} (hl : cs.length = 10) {v0 v1 v2 v3 v4 v5 v6 v7 v8 v9 : Value} (h0 : cs[0]? = some v0) (h1 : cs[1]? = some v1) (h2 : cs[2]? = some v2) (h3 : cs[3]? = some v3) (h4 : cs[4]? = some v4) (h5 : cs[5]? = some v5) (h6 : cs[6]? = some v6) (h7 : cs[7]? = some v7) (h8 : cs[8]? = some v8) (h9 : cs[9]? = some v9) :
    cs = [v0, v1, v2, v3, v4, v5, v6, v7, v8, v9] := by
  match cs, hl with
  | [a0, a1, a2, a3, a4, a5, a6, a7, a8, a9], _ =>
    simp at h0 h1 h2 h3 h4 h5 h6 h7 h8 h9
    simp [h0, h1, h2, h3, h4, h5, h6, h7, h8, h9]
theorem any10 {cs : List Value} (hl : cs.length = 10) {v : Value} (h0 : cs[0]? = some v) : ∃ m0 m1 m2 m3 m4 m5 m6 m7 m8, cs = [v, m0, m1, m2, m3, m4, m5, m6, m7, m8] := by
  match cs, hl with
  | [a0, a1, a2, a3, a4, a5, a6, a7, a8, a9], _ =>
    simp at h0
    exact ⟨a1, a2, a3, a4, a5, a6, a7, a8, a9, by simp [h0]⟩
section
variable {H : Type} {enc : TypeId × Value → H} {W : World}
theorem open_faces {fuel : Nat} {cs : List Value} {x : DataW H × List MemPlace} (h : DataW.trod enc Tryz.prog W 0 (fun _ => true) true fuel 47 cs = some x) (hz : Lite x.1 47) :
    ∃ A ag c, cs = [.slice A (ag : List ByteArray).length c] ∧ StsT W.heap.size W A ag ∧ ∀ a ∈ ag, a.size ≤ 281474976710656 := by
  rcases open_strs Tryz.underlying47 Tryz.underlying9 c_str h with ⟨hcs, hx⟩ | ⟨a, len, cap, m, Sx, hcs, _, hl, hm, hmm, hx, hr⟩
  · exact ⟨none, [], 0, hcs, (fun k s hs => by simp at hs), (fun a ha => by simp at ha)⟩
  · simp only [if_true] at hmm
    subst hmm
    subst hx
    have hlen : ((List.range len).map Sx).length = len := by simp
    refine ⟨some a, (List.range len).map Sx, m, by rw [hlen]; exact hcs, fun k s hs => ?_, fun q hq => ?_⟩
    · rw [List.getElem?_map] at hs
      have hk : k < len := by
        rcases Nat.lt_or_ge k len with h | h
        · exact h
        · rw [List.getElem?_eq_none (by simpa using h)] at hs; cases hs
      rw [List.getElem?_range hk] at hs
      injection hs with hs
      subst hs
      have hsp : a.spot = none := spot_none (hr 0 (by omega)).1
      obtain ⟨b, off, spot⟩ := a
      simp only at hsp
      subst hsp
      have hc := (hr k (by omega)).1
      rw [Addr.add_lit] at hc
      exact ⟨b, off, rfl, cell_lt hc, cell_lt hc, hc⟩
    · obtain ⟨j, hj, rfl⟩ := List.mem_map.1 hq
      exact lite_str (lite_elem Tryz.underlying47 hz (List.mem_map.2 ⟨j, hj, rfl⟩))
theorem open_pos {fuel o : Nat} {cs : List Value} {y : DataW H × List MemPlace} (f : DataW.trod enc Tryz.prog W 0 (fun _ => true) true fuel 26 ((cs.drop o).take 2) = some y) :
    ∃ a b, cs[o]? = some (.int .i64 a) ∧ cs[o + 1]? = some (.int .i64 b) := by
  obtain ⟨ya, yb, k, _, lpos, fa', fb'⟩ := trod_struct2 Tryz.underlying26 f
  have fa : DataW.trod enc Tryz.prog W 0 (fun _ => true) true k 3 ((((cs.drop o).take 2).drop 0).take (Tryz.prog.cellsOf 3)) = some ya := fa'
  have fb : DataW.trod enc Tryz.prog W 0 (fun _ => true) true k 3 ((((cs.drop o).take 2).drop 1).take (Tryz.prog.cellsOf 3)) = some yb := fb'
  rw [c_int] at fa fb
  obtain ⟨lin, ea, _, _⟩ := DataW.trod_int Tryz.underlying3 fa
  obtain ⟨cl, eb, _, _⟩ := DataW.trod_int Tryz.underlying3 fb
  refine ⟨lin, cl, ?_, ?_⟩
  · have := take1 ea
    rw [List.getElem?_take_of_lt (by omega), List.getElem?_drop] at this
    simpa using this
  · have := take1 eb
    rw [List.getElem?_take_of_lt (by omega), List.getElem?_drop] at this
    simpa using this
theorem open_sl {fuel : Nat} {t e : TypeId} {cs : List Value} {x : DataW H × List MemPlace} (ht : Tryz.prog.underlying t = some (.slice e)) (h : DataW.trod enc Tryz.prog W 0 (fun _ => true) true fuel t cs = some x) : ∃ A n c, cs = [.slice A n c] := by
  rcases DataW.trod_slice ht h with ⟨hcs, hx⟩ | ⟨a, len, cap, elems, rest, m, hm, hcs, _⟩
  · exact ⟨_, _, _, hcs⟩
  · exact ⟨_, _, _, hcs⟩
theorem open_pt {fuel : Nat} {t e : TypeId} {cs : List Value} {x : DataW H × List MemPlace} (ht : Tryz.prog.underlying t = some (.pointer e)) (h : DataW.trod enc Tryz.prog W 0 (fun _ => true) true fuel t cs = some x) : ∃ I, cs = [.pointer I] := by
  rcases DataW.trod_pointer ht h with ⟨hcs, _⟩ | ⟨a, cs', y, n, _, hcs, rfl, hc, hy⟩
  · exact ⟨_, hcs⟩
  · exact ⟨_, hcs⟩
/-- A class is right for the table: its names fit. -/
def OkK1 (c : K8) : Prop := c.nm.size ≤ 281474976710656 ∧ c.sup.size ≤ 281474976710656 ∧ ∀ s ∈ c.fcs, s.size ≤ 281474976710656
theorem open_class {fuel : Nat} {cs : List Value} {x : DataW H × List MemPlace} (h : DataW.trod enc Tryz.prog W 0 (fun _ => true) true fuel 53 cs = some x) (hz : Lite x.1 53) :
    ∃ c : K8, RdK W.heap.size W cs c ∧ OkK1 c := by
  obtain ⟨xs, n, hm, rfl, hl, hlen, hf⟩ := DataW.trod_struct Tryz.underlying53 h
  rw [c_class] at hl
  have hlen' : xs.length = 9 := hlen
  have get : ∀ i, i < 9 → ∃ y, xs[i]? = some y := fun i hi => ⟨xs[i]'(by omega), List.getElem?_eq_getElem (by omega)⟩
  obtain ⟨y0, g0⟩ := get 0 (by omega)
  have f0 : DataW.trod enc Tryz.prog W 0 (fun _ => true) true n 9 ((cs.drop 0).take (Tryz.prog.cellsOf 9)) = xs[0]? := hf 0 _ rfl
  rw [c_str, g0] at f0
  have L0 : Lite y0.1 9 := lite_fld Tryz.underlying53 hz (i := 0) rfl g0
  obtain ⟨y1, g1⟩ := get 1 (by omega)
  have f1 : DataW.trod enc Tryz.prog W 0 (fun _ => true) true n 9 ((cs.drop 1).take (Tryz.prog.cellsOf 9)) = xs[1]? := hf 1 _ rfl
  rw [c_str, g1] at f1
  have L1 : Lite y1.1 9 := lite_fld Tryz.underlying53 hz (i := 1) rfl g1
  obtain ⟨y2, g2⟩ := get 2 (by omega)
  have f2 : DataW.trod enc Tryz.prog W 0 (fun _ => true) true n 4 ((cs.drop 2).take (Tryz.prog.cellsOf 4)) = xs[2]? := hf 2 _ rfl
  rw [c_bool, g2] at f2
  obtain ⟨y3, g3⟩ := get 3 (by omega)
  have f3 : DataW.trod enc Tryz.prog W 0 (fun _ => true) true n 47 ((cs.drop 3).take (Tryz.prog.cellsOf 47)) = xs[3]? := hf 3 _ rfl
  rw [c_strs, g3] at f3
  have L3 : Lite y3.1 47 := lite_fld Tryz.underlying53 hz (i := 3) rfl g3
  obtain ⟨y4, g4⟩ := get 4 (by omega)
  have f4 : DataW.trod enc Tryz.prog W 0 (fun _ => true) true n 23 ((cs.drop 4).take (Tryz.prog.cellsOf 23)) = xs[4]? := hf 4 _ rfl
  rw [c_vars, g4] at f4
  obtain ⟨y5, g5⟩ := get 5 (by omega)
  have f5 : DataW.trod enc Tryz.prog W 0 (fun _ => true) true n 23 ((cs.drop 5).take (Tryz.prog.cellsOf 23)) = xs[5]? := hf 5 _ rfl
  rw [c_vars, g5] at f5
  obtain ⟨y6, g6⟩ := get 6 (by omega)
  have f6 : DataW.trod enc Tryz.prog W 0 (fun _ => true) true n 50 ((cs.drop 6).take (Tryz.prog.cellsOf 50)) = xs[6]? := hf 6 _ rfl
  rw [c_methods, g6] at f6
  obtain ⟨y7, g7⟩ := get 7 (by omega)
  have f7 : DataW.trod enc Tryz.prog W 0 (fun _ => true) true n 51 ((cs.drop 7).take (Tryz.prog.cellsOf 51)) = xs[7]? := hf 7 _ rfl
  rw [c_pMethod, g7] at f7
  obtain ⟨y8, g8⟩ := get 8 (by omega)
  have f8 : DataW.trod enc Tryz.prog W 0 (fun _ => true) true n 26 ((cs.drop 8).take (Tryz.prog.cellsOf 26)) = xs[8]? := hf 8 _ rfl
  rw [c_pos, g8] at f8
  obtain ⟨x0, e0, q0, _⟩ := DataW.trod_string Tryz.underlying9 f0
  rw [q0] at L0
  obtain ⟨x1, e1, q1, _⟩ := DataW.trod_string Tryz.underlying9 f1
  rw [q1] at L1
  obtain ⟨x2, e2, _⟩ := DataW.trod_bool Tryz.underlying4 f2
  obtain ⟨A3, x3, c3, e3, r3, k3⟩ := open_faces f3 L3
  obtain ⟨A4, n4, c4, e4⟩ := open_sl Tryz.underlying23 f4
  obtain ⟨A5, n5, c5, e5⟩ := open_sl Tryz.underlying23 f5
  obtain ⟨A6, n6, c6, e6⟩ := open_sl Tryz.underlying50 f6
  obtain ⟨I, e7⟩ := open_pt Tryz.underlying51 f7
  obtain ⟨pa, pb, ea, eb⟩ := open_pos f8
  exact ⟨⟨x0, x1, x2, x3, pa, pb⟩, ⟨A3, c3, A4, n4, c4, A5, n5, c5, A6, n6, c6, I, list10 hl (take1 e0) (take1 e1) (take1 e2) (take1 e3) (take1 e4) (take1 e5) (take1 e6) (take1 e7) ea eb, r3⟩, lite_str L0, lite_str L1, k3⟩
theorem open_classes {fuel : Nat} {cs : List Value} {x : DataW H × List MemPlace} (h : DataW.trod enc Tryz.prog W 0 (fun _ => true) true fuel 22 cs = some x) (hz : Lite x.1 22) :
    ∃ A l c, cs = [.slice A (l : List K8).length c] ∧ (∀ c ∈ l, OkK1 c) ∧ RdKs W.heap.size W A l := by
  rcases DataW.trod_slice Tryz.underlying22 h with ⟨hcs, hx⟩ | ⟨a, len, cap, elems, rest, m, hm, hcs, rfl, hb, hl, hcm, hlen, hel, _, _⟩
  · exact ⟨none, [], 0, hcs, by simp, fun j c hc => by simp at hc⟩
  · have each : ∀ i, i < len → ∃ s : K8, ∃ cs', W.cells? 0 (a.add (i * 10)) 10 = some cs' ∧ RdK W.heap.size W cs' s ∧ OkK1 s := by
      intro i hi
      have hk := hel i hi
      rw [c_class, List.getElem?_eq_getElem (by omega)] at hk
      obtain ⟨cs', h1, h2⟩ := Option.bind_eq_some_iff.1 hk
      obtain ⟨s, r1, r2⟩ := open_class h2 (lite_elem Tryz.underlying22 hz (List.mem_map.2 ⟨_, List.getElem_mem (by omega), rfl⟩))
      exact ⟨s, cs', h1, r1, r2⟩
    have inh : Inhabited K8 := ⟨⟨⟨#[]⟩, ⟨#[]⟩, false, [], 0, 0⟩⟩
    obtain ⟨f, hf⟩ := choose_lt each
    have hlf : ((List.range len).map f).length = len := by simp
    have hat : ∀ j s, ((List.range len).map f)[j]? = some s → j < len ∧ f j = s := by
      intro j s hs
      rw [List.getElem?_map] at hs
      have hj : j < len := by
        rcases Nat.lt_or_ge j len with h | h
        · exact h
        · rw [List.getElem?_eq_none (by simpa using h)] at hs; cases hs
      rw [List.getElem?_range hj] at hs
      injection hs with hs
      exact ⟨hj, hs⟩
    refine ⟨some a, (List.range len).map f, cap, by rw [hlf]; exact hcs, fun s hs => ?_, fun j s hs => ?_⟩
    · obtain ⟨j, hj⟩ := List.getElem?_of_mem hs
      obtain ⟨hj', rfl⟩ := hat j s hj
      obtain ⟨_, _, _, ok⟩ := hf j hj'
      exact ok
    · obtain ⟨hj, rfl⟩ := hat j s hs
      obtain ⟨cs', c', rd, _⟩ := hf j hj
      have hsp : a.spot = none := by
        obtain ⟨cs0, c0', _, _⟩ := hf 0 (by omega)
        obtain ⟨_, l0, g0⟩ := World.cells?_some c0'
        have h00 := g0 0 (by omega)
        rw [List.getElem?_eq_getElem (by omega)] at h00
        have : (a.add (0 * 10)).spot = none := by
          refine spot_none (W := W) (v := cs0[0]'(by omega)) ?_
          exact h00
        simpa [Addr.add] using this
      obtain ⟨_, l0, gc⟩ := World.cells?_some c'
      obtain ⟨b, off, spot⟩ := a
      simp only at hsp
      subst hsp
      have hcell : ∀ (i : Nat) (v : Value), cs'[i]? = some v → W.cell? ⟨b, off + j * 10 + i, none⟩ = some v := fun i v hv => by
        have hi : i < 10 := by have := (List.getElem?_eq_some_iff.1 hv).1; omega
        have := gc i hi
        rw [Addr.add_lit, Addr.add_lit, hv] at this
        exact this
      have hlt : b < W.heap.size := cell_lt (hcell 0 _ (List.getElem?_eq_getElem (by omega)))
      exact ⟨b, off, cs', rfl, hlt, hlt, hcell, rd⟩
theorem open_program {fuel : Nat} {cs : List Value} {x : DataW H × List MemPlace} (h : DataW.trod enc Tryz.prog W 0 (fun _ => true) true fuel 30 cs = some x) (hz : Lite x.1 30) :
    ∃ A l c m0 m1 m2 m3 m4 m5 m6 m7 m8, cs = [.slice A (l : List K8).length c, m0, m1, m2, m3, m4, m5, m6, m7, m8] ∧ (∀ c ∈ l, OkK1 c) ∧ RdKs W.heap.size W A l := by
  obtain ⟨xs, n, hm, rfl, hl, hlen, hf⟩ := DataW.trod_struct Tryz.underlying30 h
  rw [c_program] at hl
  have hlen' : xs.length = 2 := hlen
  have get : ∀ i, i < 2 → ∃ y, xs[i]? = some y := fun i hi => ⟨xs[i]'(by omega), List.getElem?_eq_getElem (by omega)⟩
  obtain ⟨y0, g0⟩ := get 0 (by omega)
  have f0 : DataW.trod enc Tryz.prog W 0 (fun _ => true) true n 22 ((cs.drop 0).take (Tryz.prog.cellsOf 22)) = xs[0]? := hf 0 _ rfl
  rw [c_classes, g0] at f0
  have L0 : Lite y0.1 22 := lite_fld Tryz.underlying30 hz (i := 0) rfl g0
  obtain ⟨A0, x0, c0, e0, k0, r0⟩ := open_classes f0 L0
  obtain ⟨m0, m1, m2, m3, m4, m5, m6, m7, m8, e⟩ := any10 hl (take1 e0)
  exact ⟨A0, x0, c0, m0, m1, m2, m3, m4, m5, m6, m7, m8, e, k0, r0⟩
end
end Go.Proofs.YtbocejiclellfaaGreatDoor
