/- The law's arguments read off the data: programs. -/
import Derived.Test.YtoekaehpcjhhaaaGreatDoorOpd
import Derived.Test.YtoekaehpcjhhaaaGreatDoorPfa
import Derived.Test.YtoekaehpcjhhaaaGreatDoorRows
set_option linter.unusedSimpArgs false
set_option linter.unusedVariables false
namespace Go.Proofs.YtoekaehpcjhhaaaGreatDoor
open Go.ChangeShapes Go.WideShapes Go.ChangeAt Go.RowKit Go.Deep

/-- What was read is of no more than the given bulk. -/
def Slim {H : Type} (d : DataW H) : Prop := Rows.uptoBulk d ≤ 1048576
theorem bulk_part {H : Type} {d : DataW H} : ∀ {l : List (DataW H)}, d ∈ l → Rows.uptoBulk d ≤ Rows.uptoBulkAll l
  | [], h => by simp at h
  | a :: l, h => by
    rw [Rows.uptoBulkAll]
    rcases List.mem_cons.1 h with rfl | h
    · omega
    · have := bulk_part h; omega
theorem slim_elem {H : Type} {el sp : List (DataW H)} (h : Slim (.slice el sp)) {d : DataW H} (hd : d ∈ el) : Slim d := by
  unfold Slim at h ⊢
  rw [Rows.uptoBulk] at h
  have := bulk_part hd
  omega
theorem slim_part {H : Type} {ps : List (DataW H)} (h : Slim (.agg ps)) {d : DataW H} (hd : d ∈ ps) : Slim d := by
  unfold Slim at h ⊢
  rw [Rows.uptoBulk] at h
  have := bulk_part hd
  omega
theorem slim_ptr {H : Type} {d : DataW H} (h : Slim (.ptr d)) : Slim d := by
  unfold Slim at h ⊢
  rw [Rows.uptoBulk] at h
  omega
theorem slim_str {H : Type} {s : ByteArray} (h : Slim (.lit (.string s.data.toList) : DataW H)) : s.size ≤ 1048576 := by
  unfold Slim at h
  rw [Rows.uptoBulk] at h
  have : s.size = s.data.toList.length := Array.length_toList.symm
  omega
theorem lite_fld {H : Type} {t : TypeId} {fs : Array Field} (ht : Tryz.prog.underlying t = some (.struct fs)) {xs : List (DataW H × List MemPlace)} (h : Lite (.agg (xs.map (·.1))) t) {i : Nat} {f : Field} (hf : fs[i]? = some f) {y : DataW H × List MemPlace} (hy : xs[i]? = some y) : Lite y.1 f.type := by
  intro k hk
  refine h k ?_
  rw [DataW.weights, ht]
  exact DataW.weights_mem_each (j := i) (t := f.type) (by simp [hf]) (by simp [hy]) k hk
theorem lite_ptr {H : Type} {t e : TypeId} (ht : Tryz.prog.underlying t = some (.pointer e)) {d : DataW H} (h : Lite (.ptr d) t) : Lite d e := by
  intro k hk
  refine h k ?_
  rw [DataW.weights, ht]
  exact hk
theorem c_bool : Tryz.prog.cellsOf 4 = 1 := by kernel_rfl
theorem c_var : Tryz.prog.cellsOf 58 = 4 := by kernel_rfl
theorem c_vars : Tryz.prog.cellsOf 23 = 1 := by kernel_rfl
theorem c_method : Tryz.prog.cellsOf 28 = 9 := by kernel_rfl
theorem c_methods : Tryz.prog.cellsOf 40 = 1 := by kernel_rfl
theorem c_pMethod : Tryz.prog.cellsOf 41 = 1 := by kernel_rfl
theorem c_class : Tryz.prog.cellsOf 43 = 10 := by kernel_rfl
theorem c_classes : Tryz.prog.cellsOf 22 = 1 := by kernel_rfl
theorem c_program : Tryz.prog.cellsOf 30 = 10 := by kernel_rfl
theorem head10 {cs : List Value} {v : Value} (hl : cs.length = 10) (h0 : cs[0]? = some v) : cs = v :: (cs.drop 1).take 9 := by
  match cs, hl, h0 with
  | a :: r, hl, h0 =>
    simp at h0 hl
    simp [h0, List.take_of_length_le, hl]
theorem list4 {cs : List Value} (hl : cs.length = 4) {v0 v1 v2 v3 : Value} (h0 : cs[0]? = some v0) (h1 : cs[1]? = some v1) (h2 : cs[2]? = some v2) (h3 : cs[3]? = some v3) :
    cs = [v0, v1, v2, v3] := by
  match cs, hl with
  | [a0, a1, a2, a3], _ =>
    simp at h0 h1 h2 h3
    simp [h0, h1, h2, h3]
theorem list9 {cs : List Value} (hl : cs.length = 9) {v0 v1 v2 v3 v4 v5 v6 v7 v8 : Value} (h0 : cs[0]? = some v0) (h1 : cs[1]? = some v1) (h2 : cs[2]? = some v2) (h3 : cs[3]? = some v3) (h4 : cs[4]? = some v4) (h5 : cs[5]? = some v5) (h6 : cs[6]? = some v6) (h7 : cs[7]? = some v7) (h8 : cs[8]? = some v8) :
    cs = [v0, v1, v2, v3, v4, v5, v6, v7, v8] := by
  match cs, hl with
  | [a0, a1, a2, a3, a4, a5, a6, a7, a8], _ =>
    simp at h0 h1 h2 h3 h4 h5 h6 h7 h8
    simp [h0, h1, h2, h3, h4, h5, h6, h7, h8]
theorem list10 {cs : List Value} (hl : cs.length = 10) {v0 v1 v2 v3 v4 v5 v6 v7 v8 v9 : Value} (h0 : cs[0]? = some v0) (h1 : cs[1]? = some v1) (h2 : cs[2]? = some v2) (h3 : cs[3]? = some v3) (h4 : cs[4]? = some v4) (h5 : cs[5]? = some v5) (h6 : cs[6]? = some v6) (h7 : cs[7]? = some v7) (h8 : cs[8]? = some v8) (h9 : cs[9]? = some v9) :
    cs = [v0, v1, v2, v3, v4, v5, v6, v7, v8, v9] := by
  match cs, hl with
  | [a0, a1, a2, a3, a4, a5, a6, a7, a8, a9], _ =>
    simp at h0 h1 h2 h3 h4 h5 h6 h7 h8 h9
    simp [h0, h1, h2, h3, h4, h5, h6, h7, h8, h9]

section
variable {H : Type} {enc : TypeId × Value → H} {W : World}
theorem open_faces {fuel : Nat} {cs : List Value} {x : DataW H × List MemPlace} (h : DataW.trod enc Tryz.prog W 0 (fun _ => true) true fuel 36 cs = some x) (hz : Slim x.1) :
    ∃ A ag c, cs = [.slice A (ag : List ByteArray).length c] ∧ ag.length ≤ c ∧ Sts W A ag ∧ (∀ b off, A = some ⟨b, off, none⟩ → 0 < ag.length → b < W.heap.size) ∧ ∀ a ∈ ag, a.size ≤ 1048576 := by
  rcases open_strs Tryz.underlying36 Tryz.underlying9 c_str h with ⟨hcs, hx⟩ | ⟨a, len, cap, m, Sx, hcs, _, hl, hm, hmm, hx, hr⟩
  · exact ⟨none, [], 0, hcs, Nat.le_refl _, Rws.none _ _ _, (fun b off e h0 => by simp at h0), (fun a ha => by simp at ha)⟩
  · simp only [if_true] at hmm
    subst hmm
    subst hx
    have hlen : ((List.range len).map Sx).length = len := by simp
    have hsp : 0 < len → a.spot = none := fun h0 => spot_none (hr 0 (by omega)).1
    refine ⟨some a, (List.range len).map Sx, m, by rw [hlen]; exact hcs, by rw [hlen]; exact hl, ⟨by simp, ?_⟩, ?_, ?_⟩
    · by_cases h0 : len = 0
      · exact .inl (by rw [hlen]; exact h0)
      · right
        have hs := hsp (by omega)
        obtain ⟨b, off, spot⟩ := a
        simp only at hs
        subst hs
        have hcell : ∀ j, j < len → W.cell? ⟨b, off + j, none⟩ = some (.string (Sx j)) := fun j hj => by
          have := (hr j (by omega)).1
          rwa [Addr.add_lit] at this
        refine ⟨b, off, rfl, cell_lt (hcell 0 (by omega)), fun j u hu => ?_⟩
        rw [List.map_map, List.getElem?_map] at hu
        have hj : j < len := by
          rcases Nat.lt_or_ge j len with h | h
          · exact h
          · rw [List.getElem?_eq_none (by simpa using h)] at hu; cases hu
        rw [List.getElem?_range hj] at hu
        injection hu with hu
        rw [← hu]
        exact hcell j hj
    · intro b off e h0
      rw [hlen] at h0
      injection e with e
      subst e
      have := (hr 0 (by omega)).1
      rw [Addr.add_lit] at this
      exact cell_lt this
    · intro q hq
      obtain ⟨j, hj, rfl⟩ := List.mem_map.1 hq
      exact slim_str (slim_elem hz (List.mem_map.2 ⟨j, hj, rfl⟩))
theorem open_pos {fuel o : Nat} {cs : List Value} {y : DataW H × List MemPlace} (f : DataW.trod enc Tryz.prog W 0 (fun _ => true) true fuel 26 ((cs.drop o).take 2) = some y) :
    ∃ a b, cs[o]? = some (.int .i64 a) ∧ cs[o + 1]? = some (.int .i64 b) := by
  obtain ⟨ya, yb, k, _, lpos, fa', fb'⟩ := trod_struct2 Tryz.underlying26 f
  have fa : DataW.trod enc Tryz.prog W 0 (fun _ => true) true k 3 ((((cs.drop o).take 2).drop 0).take (Tryz.prog.cellsOf 3)) = some ya := fa'
  have fb : DataW.trod enc Tryz.prog W 0 (fun _ => true) true k 3 ((((cs.drop o).take 2).drop 1).take (Tryz.prog.cellsOf 3)) = some yb := fb'
  rw [c_int] at fa fb
  obtain ⟨lin, ea, _, _⟩ := DataW.trod_int Tryz.underlying3 fa
  obtain ⟨cl, eb, _, _⟩ := DataW.trod_int Tryz.underlying3 fb
  refine ⟨lin, cl, ?_, ?_⟩
  · have := take1 ea
    rw [List.getElem?_take_of_lt (by omega), List.getElem?_drop] at this
    simpa using this
  · have := take1 eb
    rw [List.getElem?_take_of_lt (by omega), List.getElem?_drop] at this
    simpa using this
theorem at_cells {a : Addr} {sz : Nat} {cs : List Value} (h0 : 0 < sz) (h : W.cells? 0 a sz = some cs) : ∃ b off, a = ⟨b, off, none⟩ ∧ At W.heap.size W ⟨b, off, none⟩ cs := by
  obtain ⟨_, l0, g0⟩ := World.cells?_some h
  have h00 := g0 0 h0
  rw [List.getElem?_eq_getElem (by omega)] at h00
  have hsp : a.spot = none := spot_none h00
  obtain ⟨b, off, spot⟩ := a
  simp only at hsp
  subst hsp
  have hc : ∀ i v, cs[i]? = some v → W.cell? ⟨b, off + i, none⟩ = some v := by
    intro i v hv
    have hi : i < sz := by have := (List.getElem?_eq_some_iff.1 hv).1; omega
    have := g0 i hi
    rw [Addr.add_lit, hv] at this
    exact this
  have hlt : b < W.heap.size := cell_lt (hc 0 _ (List.getElem?_eq_getElem (by omega)))
  exact ⟨b, off, rfl, rfl, hlt, hlt, hc⟩
/-- A slice of structs. -/
theorem open_list {α : Type} (inh : Inhabited α) (sz : Nat) (h0 : 0 < sz) {t e : TypeId} (ht : Tryz.prog.underlying t = some (.slice e)) (hc : Tryz.prog.cellsOf e = sz) (Rd : List Value → α → Prop) (Ok : α → Prop)
    (ih : ∀ {n : Nat} {cs : List Value} {x : DataW H × List MemPlace}, DataW.trod enc Tryz.prog W 0 (fun _ => true) true n e cs = some x → Lite x.1 e → Slim x.1 → ∃ s, Rd cs s ∧ Ok s)
    {fuel : Nat} {cs : List Value} {x : DataW H × List MemPlace} (h : DataW.trod enc Tryz.prog W 0 (fun _ => true) true fuel t cs = some x) (hz : Lite x.1 t) (hs : Slim x.1) :
    ∃ A l c, cs = [.slice A (l : List α).length c] ∧ (∀ a ∈ l, Ok a) ∧ ∀ (j : Nat) (s : α), l[j]? = some s → ∃ b off cs', A = some ⟨b, off, none⟩ ∧ At W.heap.size W ⟨b, off + j * sz, none⟩ cs' ∧ Rd cs' s := by
  rcases DataW.trod_slice ht h with ⟨hcs, hx⟩ | ⟨a, len, cap, elems, rest, m, hm, hcs, rfl, hb, hl, hcm, hlen, hel, _, _⟩
  · exact ⟨none, [], 0, hcs, by simp, by simp⟩
  · have each : ∀ i, i < len → ∃ s : α, ∃ cs', W.cells? 0 (a.add (i * sz)) sz = some cs' ∧ Rd cs' s ∧ Ok s := by
      intro i hi
      have hk := hel i hi
      rw [hc, List.getElem?_eq_getElem (by omega)] at hk
      obtain ⟨cs', h1, h2⟩ := Option.bind_eq_some_iff.1 hk
      obtain ⟨s, r1, r2⟩ := ih h2 (lite_elem ht hz (List.mem_map.2 ⟨_, List.getElem_mem (by omega), rfl⟩)) (slim_elem hs (List.mem_map.2 ⟨_, List.getElem_mem (by omega), rfl⟩))
      exact ⟨s, cs', h1, r1, r2⟩
    obtain ⟨f, hf⟩ := choose_lt each
    have hlf : ((List.range len).map f).length = len := by simp
    have hat : ∀ j s, ((List.range len).map f)[j]? = some s → j < len ∧ f j = s := by
      intro j s hs
      rw [List.getElem?_map] at hs
      have hj : j < len := by
        rcases Nat.lt_or_ge j len with h | h
        · exact h
        · rw [List.getElem?_eq_none (by simpa using h)] at hs; cases hs
      rw [List.getElem?_range hj] at hs
      injection hs with hs
      exact ⟨hj, hs⟩
    refine ⟨some a, (List.range len).map f, cap, by rw [hlf]; exact hcs, fun s hs => ?_, fun j s hs => ?_⟩
    · obtain ⟨j, hj⟩ := List.getElem?_of_mem hs
      obtain ⟨hj', rfl⟩ := hat j s hj
      obtain ⟨_, _, _, ok⟩ := hf j hj'
      exact ok
    · obtain ⟨hj, rfl⟩ := hat j s hs
      obtain ⟨cs', c', rd, _⟩ := hf j hj
      obtain ⟨b, off, e1, h2⟩ := at_cells h0 c'
      have hsp : a.spot = none := by
        obtain ⟨cs0, c0', _, _⟩ := hf 0 (by omega)
        obtain ⟨b0, off0, e0, _⟩ := at_cells h0 c0'
        have : (a.add (0 * sz)).spot = none := by rw [e0]
        simpa [Addr.add] using this
      obtain ⟨b', off', spot⟩ := a
      simp only at hsp
      subst hsp
      rw [Addr.add_lit] at e1
      injection e1 with e2 e3
      subst e2
      subst e3
      exact ⟨b', off', cs', rfl, h2, rd⟩

theorem open_var {fuel : Nat} {cs : List Value} {x : DataW H × List MemPlace} (h : DataW.trod enc Tryz.prog W 0 (fun _ => true) true fuel 58 cs = some x) (hz : Lite x.1 58) (hs : Slim x.1) :
    ∃ v : Vr, (∃ p q, cs = [.string v.1, .string v.2, .int .i64 p, .int .i64 q]) ∧ v.1.size ≤ 1048576 ∧ v.2.size ≤ 1048576 := by
  obtain ⟨xs, n, hm, rfl, hl, hlen, hf⟩ := DataW.trod_struct Tryz.underlying58 h
  rw [c_var] at hl
  have hlen' : xs.length = 3 := hlen
  have get : ∀ i, i < 3 → ∃ y, xs[i]? = some y := fun i hi => ⟨xs[i]'(by omega), List.getElem?_eq_getElem (by omega)⟩
  have sl : ∀ (i : Nat) (y : DataW H × List MemPlace), xs[i]? = some y → Slim y.1 := fun i y hy => slim_part hs (List.mem_map.2 ⟨y, List.mem_of_getElem? hy, rfl⟩)
  obtain ⟨y0, g0⟩ := get 0 (by omega)
  have f0 : DataW.trod enc Tryz.prog W 0 (fun _ => true) true n 9 ((cs.drop 0).take (Tryz.prog.cellsOf 9)) = xs[0]? := hf 0 _ rfl
  rw [c_str, g0] at f0
  have L0 : Lite y0.1 9 := lite_fld Tryz.underlying58 hz (i := 0) rfl g0
  have S0 := sl 0 _ g0
  obtain ⟨y1, g1⟩ := get 1 (by omega)
  have f1 : DataW.trod enc Tryz.prog W 0 (fun _ => true) true n 9 ((cs.drop 1).take (Tryz.prog.cellsOf 9)) = xs[1]? := hf 1 _ rfl
  rw [c_str, g1] at f1
  have L1 : Lite y1.1 9 := lite_fld Tryz.underlying58 hz (i := 1) rfl g1
  have S1 := sl 1 _ g1
  obtain ⟨y2, g2⟩ := get 2 (by omega)
  have f2 : DataW.trod enc Tryz.prog W 0 (fun _ => true) true n 26 ((cs.drop 2).take (Tryz.prog.cellsOf 26)) = xs[2]? := hf 2 _ rfl
  rw [c_pos, g2] at f2
  obtain ⟨x0, e0, q0, _⟩ := DataW.trod_string Tryz.underlying9 f0
  rw [q0] at S0
  obtain ⟨x1, e1, q1, _⟩ := DataW.trod_string Tryz.underlying9 f1
  rw [q1] at S1
  obtain ⟨pa, pb, ea, eb⟩ := open_pos f2
  exact ⟨(x0, x1), ⟨pa, pb, list4 hl (take1 e0) (take1 e1) ea eb⟩, slim_str S0, slim_str S1⟩

theorem open_vars {fuel : Nat} {cs : List Value} {x : DataW H × List MemPlace} (h : DataW.trod enc Tryz.prog W 0 (fun _ => true) true fuel 23 cs = some x) (hz : Lite x.1 23) (hs : Slim x.1) :
    ∃ A l c, cs = [.slice A (l : List Vr).length c] ∧ BkV l ∧ RdV W.heap.size W A l := by
  obtain ⟨A, l, c, e, ok, rd⟩ := open_list ⟨(⟨#[]⟩, ⟨#[]⟩)⟩ 4 (by omega) Tryz.underlying23 c_var (fun cs (v : Vr) => ∃ p q, cs = [.string v.1, .string v.2, .int .i64 p, .int .i64 q]) (fun v => v.1.size ≤ 1048576 ∧ v.2.size ≤ 1048576) (fun h1 h2 h3 => open_var h1 h2 h3) h hz hs
  refine ⟨A, l, c, e, ok, fun j v hv => ?_⟩
  obtain ⟨b, off, cs', hA, ⟨_, h1, h2, h3⟩, p, q, rfl⟩ := rd j v hv
  exact ⟨b, off, p, q, hA, h1, h2, h3 0 _ rfl, h3 1 _ rfl, h3 2 _ rfl, h3 3 _ rfl⟩

theorem open_method {fuel : Nat} {cs : List Value} {x : DataW H × List MemPlace} (h : DataW.trod enc Tryz.prog W 0 (fun _ => true) true fuel 28 cs = some x) (hz : Lite x.1 28) (hs : Slim x.1) :
    ∃ m : Mt, RdM W.heap.size W cs m ∧ BkM m ∧ cs.length = 9 := by
  obtain ⟨xs, n, hm, rfl, hl, hlen, hf⟩ := DataW.trod_struct Tryz.underlying28 h
  rw [c_method] at hl
  have hlen' : xs.length = 8 := hlen
  have get : ∀ i, i < 8 → ∃ y, xs[i]? = some y := fun i hi => ⟨xs[i]'(by omega), List.getElem?_eq_getElem (by omega)⟩
  have sl : ∀ (i : Nat) (y : DataW H × List MemPlace), xs[i]? = some y → Slim y.1 := fun i y hy => slim_part hs (List.mem_map.2 ⟨y, List.mem_of_getElem? hy, rfl⟩)
  obtain ⟨y0, g0⟩ := get 0 (by omega)
  have f0 : DataW.trod enc Tryz.prog W 0 (fun _ => true) true n 9 ((cs.drop 0).take (Tryz.prog.cellsOf 9)) = xs[0]? := hf 0 _ rfl
  rw [c_str, g0] at f0
  have L0 : Lite y0.1 9 := lite_fld Tryz.underlying28 hz (i := 0) rfl g0
  have S0 := sl 0 _ g0
  obtain ⟨y1, g1⟩ := get 1 (by omega)
  have f1 : DataW.trod enc Tryz.prog W 0 (fun _ => true) true n 9 ((cs.drop 1).take (Tryz.prog.cellsOf 9)) = xs[1]? := hf 1 _ rfl
  rw [c_str, g1] at f1
  have L1 : Lite y1.1 9 := lite_fld Tryz.underlying28 hz (i := 1) rfl g1
  have S1 := sl 1 _ g1
  obtain ⟨y2, g2⟩ := get 2 (by omega)
  have f2 : DataW.trod enc Tryz.prog W 0 (fun _ => true) true n 4 ((cs.drop 2).take (Tryz.prog.cellsOf 4)) = xs[2]? := hf 2 _ rfl
  rw [c_bool, g2] at f2
  have L2 : Lite y2.1 4 := lite_fld Tryz.underlying28 hz (i := 2) rfl g2
  have S2 := sl 2 _ g2
  obtain ⟨y3, g3⟩ := get 3 (by omega)
  have f3 : DataW.trod enc Tryz.prog W 0 (fun _ => true) true n 4 ((cs.drop 3).take (Tryz.prog.cellsOf 4)) = xs[3]? := hf 3 _ rfl
  rw [c_bool, g3] at f3
  have L3 : Lite y3.1 4 := lite_fld Tryz.underlying28 hz (i := 3) rfl g3
  have S3 := sl 3 _ g3
  obtain ⟨y4, g4⟩ := get 4 (by omega)
  have f4 : DataW.trod enc Tryz.prog W 0 (fun _ => true) true n 23 ((cs.drop 4).take (Tryz.prog.cellsOf 23)) = xs[4]? := hf 4 _ rfl
  rw [c_vars, g4] at f4
  have L4 : Lite y4.1 23 := lite_fld Tryz.underlying28 hz (i := 4) rfl g4
  have S4 := sl 4 _ g4
  obtain ⟨y5, g5⟩ := get 5 (by omega)
  have f5 : DataW.trod enc Tryz.prog W 0 (fun _ => true) true n 23 ((cs.drop 5).take (Tryz.prog.cellsOf 23)) = xs[5]? := hf 5 _ rfl
  rw [c_vars, g5] at f5
  have L5 : Lite y5.1 23 := lite_fld Tryz.underlying28 hz (i := 5) rfl g5
  have S5 := sl 5 _ g5
  obtain ⟨y6, g6⟩ := get 6 (by omega)
  have f6 : DataW.trod enc Tryz.prog W 0 (fun _ => true) true n 24 ((cs.drop 6).take (Tryz.prog.cellsOf 24)) = xs[6]? := hf 6 _ rfl
  rw [c_stmts, g6] at f6
  have L6 : Lite y6.1 24 := lite_fld Tryz.underlying28 hz (i := 6) rfl g6
  have S6 := sl 6 _ g6
  obtain ⟨y7, g7⟩ := get 7 (by omega)
  have f7 : DataW.trod enc Tryz.prog W 0 (fun _ => true) true n 26 ((cs.drop 7).take (Tryz.prog.cellsOf 26)) = xs[7]? := hf 7 _ rfl
  rw [c_pos, g7] at f7
  obtain ⟨x0, e0, q0, _⟩ := DataW.trod_string Tryz.underlying9 f0
  rw [q0] at S0
  obtain ⟨x1, e1, q1, _⟩ := DataW.trod_string Tryz.underlying9 f1
  rw [q1] at S1
  obtain ⟨x2, e2, _⟩ := DataW.trod_bool Tryz.underlying4 f2
  obtain ⟨x3, e3, _⟩ := DataW.trod_bool Tryz.underlying4 f3
  obtain ⟨A4, x4, c4, e4, k4, r4⟩ := open_vars f4 L4 S4
  obtain ⟨A5, x5, c5, e5, k5, r5⟩ := open_vars f5 L5 S5
  obtain ⟨A6, x6, c6, e6, _, r6, k6⟩ := (open_both n).2 _ _ f6 L6
  obtain ⟨pa, pb, ea, eb⟩ := open_pos f7
  exact ⟨⟨x0, x1, x2, x3, x4, x5, x6⟩, ⟨A4, c4, A5, c5, A6, c6, pa, pb, list9 hl (take1 e0) (take1 e1) (take1 e2) (take1 e3) (take1 e4) (take1 e5) (take1 e6) ea eb, r4, r5, r6⟩, ⟨⟨slim_str S0, slim_str S1, k6⟩, k4, k5⟩, hl⟩

theorem open_methods {fuel : Nat} {cs : List Value} {x : DataW H × List MemPlace} (h : DataW.trod enc Tryz.prog W 0 (fun _ => true) true fuel 40 cs = some x) (hz : Lite x.1 40) (hs : Slim x.1) :
    ∃ A l c, cs = [.slice A (l : List Mt).length c] ∧ (∀ m ∈ l, BkM m) ∧ RdMs W.heap.size W A l :=
  open_list ⟨⟨⟨#[]⟩, ⟨#[]⟩, false, false, [], [], []⟩⟩ 9 (by omega) Tryz.underlying40 c_method (fun cs m => RdM W.heap.size W cs m) BkM (fun h1 h2 h3 => by
    obtain ⟨m, a, b, _⟩ := open_method h1 h2 h3
    exact ⟨m, a, b⟩) h hz hs
theorem open_init {fuel : Nat} {cs : List Value} {x : DataW H × List MemPlace} (h : DataW.trod enc Tryz.prog W 0 (fun _ => true) true fuel 41 cs = some x) (hz : Lite x.1 41) (hs : Slim x.1) :
    ∃ I o, cs = [.pointer I] ∧ (∀ m, o = some m → BkM m) ∧ RdI W.heap.size W I o := by
  rcases DataW.trod_pointer Tryz.underlying41 h with ⟨hcs, _⟩ | ⟨a, cs', y, n, _, hcs, rfl, hc, hy⟩
  · exact ⟨none, none, hcs, by simp, rfl⟩
  · rw [c_method] at hc
    obtain ⟨m, r, k, _⟩ := open_method hy (lite_ptr Tryz.underlying41 hz) (slim_ptr hs)
    obtain ⟨b, off, rfl, ha⟩ := at_cells (by omega) hc
    exact ⟨_, some m, hcs, fun m' e => by injection e with e; rw [← e]; exact k, b, off, cs', rfl, ha, r⟩

theorem open_class {fuel : Nat} {cs : List Value} {x : DataW H × List MemPlace} (h : DataW.trod enc Tryz.prog W 0 (fun _ => true) true fuel 43 cs = some x) (hz : Lite x.1 43) (hs : Slim x.1) :
    ∃ c : Cl, RdC W.heap.size W cs c ∧ BkC c := by
  obtain ⟨xs, n, hm, rfl, hl, hlen, hf⟩ := DataW.trod_struct Tryz.underlying43 h
  rw [c_class] at hl
  have hlen' : xs.length = 9 := hlen
  have get : ∀ i, i < 9 → ∃ y, xs[i]? = some y := fun i hi => ⟨xs[i]'(by omega), List.getElem?_eq_getElem (by omega)⟩
  have sl : ∀ (i : Nat) (y : DataW H × List MemPlace), xs[i]? = some y → Slim y.1 := fun i y hy => slim_part hs (List.mem_map.2 ⟨y, List.mem_of_getElem? hy, rfl⟩)
  obtain ⟨y0, g0⟩ := get 0 (by omega)
  have f0 : DataW.trod enc Tryz.prog W 0 (fun _ => true) true n 9 ((cs.drop 0).take (Tryz.prog.cellsOf 9)) = xs[0]? := hf 0 _ rfl
  rw [c_str, g0] at f0
  have L0 : Lite y0.1 9 := lite_fld Tryz.underlying43 hz (i := 0) rfl g0
  have S0 := sl 0 _ g0
  obtain ⟨y1, g1⟩ := get 1 (by omega)
  have f1 : DataW.trod enc Tryz.prog W 0 (fun _ => true) true n 9 ((cs.drop 1).take (Tryz.prog.cellsOf 9)) = xs[1]? := hf 1 _ rfl
  rw [c_str, g1] at f1
  have L1 : Lite y1.1 9 := lite_fld Tryz.underlying43 hz (i := 1) rfl g1
  have S1 := sl 1 _ g1
  obtain ⟨y2, g2⟩ := get 2 (by omega)
  have f2 : DataW.trod enc Tryz.prog W 0 (fun _ => true) true n 4 ((cs.drop 2).take (Tryz.prog.cellsOf 4)) = xs[2]? := hf 2 _ rfl
  rw [c_bool, g2] at f2
  have L2 : Lite y2.1 4 := lite_fld Tryz.underlying43 hz (i := 2) rfl g2
  have S2 := sl 2 _ g2
  obtain ⟨y3, g3⟩ := get 3 (by omega)
  have f3 : DataW.trod enc Tryz.prog W 0 (fun _ => true) true n 36 ((cs.drop 3).take (Tryz.prog.cellsOf 36)) = xs[3]? := hf 3 _ rfl
  rw [c_strs, g3] at f3
  have L3 : Lite y3.1 36 := lite_fld Tryz.underlying43 hz (i := 3) rfl g3
  have S3 := sl 3 _ g3
  obtain ⟨y4, g4⟩ := get 4 (by omega)
  have f4 : DataW.trod enc Tryz.prog W 0 (fun _ => true) true n 23 ((cs.drop 4).take (Tryz.prog.cellsOf 23)) = xs[4]? := hf 4 _ rfl
  rw [c_vars, g4] at f4
  have L4 : Lite y4.1 23 := lite_fld Tryz.underlying43 hz (i := 4) rfl g4
  have S4 := sl 4 _ g4
  obtain ⟨y5, g5⟩ := get 5 (by omega)
  have f5 : DataW.trod enc Tryz.prog W 0 (fun _ => true) true n 23 ((cs.drop 5).take (Tryz.prog.cellsOf 23)) = xs[5]? := hf 5 _ rfl
  rw [c_vars, g5] at f5
  have L5 : Lite y5.1 23 := lite_fld Tryz.underlying43 hz (i := 5) rfl g5
  have S5 := sl 5 _ g5
  obtain ⟨y6, g6⟩ := get 6 (by omega)
  have f6 : DataW.trod enc Tryz.prog W 0 (fun _ => true) true n 40 ((cs.drop 6).take (Tryz.prog.cellsOf 40)) = xs[6]? := hf 6 _ rfl
  rw [c_methods, g6] at f6
  have L6 : Lite y6.1 40 := lite_fld Tryz.underlying43 hz (i := 6) rfl g6
  have S6 := sl 6 _ g6
  obtain ⟨y7, g7⟩ := get 7 (by omega)
  have f7 : DataW.trod enc Tryz.prog W 0 (fun _ => true) true n 41 ((cs.drop 7).take (Tryz.prog.cellsOf 41)) = xs[7]? := hf 7 _ rfl
  rw [c_pMethod, g7] at f7
  have L7 : Lite y7.1 41 := lite_fld Tryz.underlying43 hz (i := 7) rfl g7
  have S7 := sl 7 _ g7
  obtain ⟨y8, g8⟩ := get 8 (by omega)
  have f8 : DataW.trod enc Tryz.prog W 0 (fun _ => true) true n 26 ((cs.drop 8).take (Tryz.prog.cellsOf 26)) = xs[8]? := hf 8 _ rfl
  rw [c_pos, g8] at f8
  obtain ⟨x0, e0, q0, _⟩ := DataW.trod_string Tryz.underlying9 f0
  rw [q0] at S0
  obtain ⟨x1, e1, q1, _⟩ := DataW.trod_string Tryz.underlying9 f1
  rw [q1] at S1
  obtain ⟨x2, e2, _⟩ := DataW.trod_bool Tryz.underlying4 f2
  obtain ⟨A3, x3, c3, e3, j3, r3, b3, k3⟩ := open_faces f3 S3
  obtain ⟨A4, x4, c4, e4, k4, r4⟩ := open_vars f4 L4 S4
  obtain ⟨A5, x5, c5, e5, k5, r5⟩ := open_vars f5 L5 S5
  obtain ⟨A6, x6, c6, e6, k6, r6⟩ := open_methods f6 L6 S6
  obtain ⟨A7, x7, e7, k7, r7⟩ := open_init f7 L7 S7
  obtain ⟨pa, pb, ea, eb⟩ := open_pos f8
  exact ⟨⟨x0, x1, x2, x3, x4, x5, x6, x7⟩, ⟨A3, c3, A4, c4, A5, c5, A6, c6, A7, pa, pb, list10 hl (take1 e0) (take1 e1) (take1 e2) (take1 e3) (take1 e4) (take1 e5) (take1 e6) (take1 e7) ea eb, j3, r3, b3, r4, r5, r6, r7⟩, ⟨slim_str S0, slim_str S1, k3, k4, k5, k6, k7⟩⟩

theorem open_classes {fuel : Nat} {cs : List Value} {x : DataW H × List MemPlace} (h : DataW.trod enc Tryz.prog W 0 (fun _ => true) true fuel 22 cs = some x) (hz : Lite x.1 22) (hs : Slim x.1) :
    ∃ A l c, cs = [.slice A (l : List Cl).length c] ∧ (∀ c ∈ l, BkC c) ∧ RdCs W.heap.size W A l :=
  open_list ⟨⟨⟨#[]⟩, ⟨#[]⟩, false, [], [], [], [], none⟩⟩ 10 (by omega) Tryz.underlying22 c_class (fun cs c => RdC W.heap.size W cs c) BkC (fun h1 h2 h3 => open_class h1 h2 h3) h hz hs

theorem open_program {fuel : Nat} {cs : List Value} {x : DataW H × List MemPlace} (h : DataW.trod enc Tryz.prog W 0 (fun _ => true) true fuel 30 cs = some x) (hz : Lite x.1 30) (hs : Slim x.1) :
    ∃ p : Pr, RdP W.heap.size W cs p ∧ BkP p := by
  obtain ⟨xs, n, hm, rfl, hl, hlen, hf⟩ := DataW.trod_struct Tryz.underlying30 h
  rw [c_program] at hl
  have hlen' : xs.length = 2 := hlen
  have get : ∀ i, i < 2 → ∃ y, xs[i]? = some y := fun i hi => ⟨xs[i]'(by omega), List.getElem?_eq_getElem (by omega)⟩
  have sl : ∀ (i : Nat) (y : DataW H × List MemPlace), xs[i]? = some y → Slim y.1 := fun i y hy => slim_part hs (List.mem_map.2 ⟨y, List.mem_of_getElem? hy, rfl⟩)
  obtain ⟨y0, g0⟩ := get 0 (by omega)
  have f0 : DataW.trod enc Tryz.prog W 0 (fun _ => true) true n 22 ((cs.drop 0).take (Tryz.prog.cellsOf 22)) = xs[0]? := hf 0 _ rfl
  rw [c_classes, g0] at f0
  have L0 : Lite y0.1 22 := lite_fld Tryz.underlying30 hz (i := 0) rfl g0
  have S0 := sl 0 _ g0
  obtain ⟨y1, g1⟩ := get 1 (by omega)
  have f1 : DataW.trod enc Tryz.prog W 0 (fun _ => true) true n 28 ((cs.drop 1).take (Tryz.prog.cellsOf 28)) = xs[1]? := hf 1 _ rfl
  rw [c_method, g1] at f1
  have L1 : Lite y1.1 28 := lite_fld Tryz.underlying30 hz (i := 1) rfl g1
  have S1 := sl 1 _ g1
  obtain ⟨A0, x0, c0, e0, k0, r0⟩ := open_classes f0 L0 S0
  obtain ⟨x1, r1, k1, _⟩ := open_method f1 L1 S1
  refine ⟨⟨x0, x1⟩, ⟨A0, c0, (cs.drop 1).take 9, ?_, r0, r1⟩, ⟨k0, k1⟩⟩
  exact head10 hl (take1 e0)

end
end Go.Proofs.YtoekaehpcjhhaaaGreatDoor
