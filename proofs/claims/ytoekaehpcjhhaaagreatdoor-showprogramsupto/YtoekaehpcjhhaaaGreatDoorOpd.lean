/- The laws' arguments read off the data: statements and lists of them. -/
import Derived.Test.YtoekaehpcjhhaaaGreatDoorDat
import Derived.ProofKit
import Derived.OpenShut
import Derived.Carry
import Derived.Deep.Slices
import Derived.Deep.Strs
import Derived.SizedLaws
set_option linter.unusedSimpArgs false
set_option linter.unusedVariables false
namespace Go.Proofs.YtoekaehpcjhhaaaGreatDoor
open Go.ChangeShapes Go.WideShapes Go.ChangeAt Go.RowKit Go.Deep

/-- What was read weighs no more than a machine can hold. -/
def Lite {H : Type} (d : DataW H) (t : TypeId) : Prop := ∀ k ∈ d.weights Tryz.prog t, k ≤ reachBytes
theorem weights_all {H : Type} (P : Program) (e : TypeId) {d : DataW H} {k : Nat} : ∀ {l : List (DataW H)}, d ∈ l → k ∈ d.weights P e → k ∈ DataW.weightsAll P e l
  | [], h, _ => by simp at h
  | x :: l, h, hk => by
    simp only [DataW.weightsAll, List.mem_append]
    rcases List.mem_cons.1 h with rfl | h
    · exact .inl hk
    · exact .inr (weights_all P e h hk)
theorem lite_elem {H : Type} {t e : TypeId} (ht : Tryz.prog.underlying t = some (.slice e)) {el sp : List (DataW H)} (h : Lite (.slice el sp) t) {d : DataW H} (hd : d ∈ el) : Lite d e := by
  intro k hk
  refine h k ?_
  rw [DataW.weights, ht]
  exact List.mem_cons_of_mem _ (List.mem_append_left _ (weights_all _ _ hd hk))
theorem lite_field {H : Type} {xs : List (DataW H × List MemPlace)} (h : Lite (.agg (xs.map (·.1))) 38) {i : Nat} {t : TypeId} (ht : [3, 9, 9, 9, 9, 9, 36, 3, 24, 24, 26][i]? = some t) {y : DataW H × List MemPlace} (hy : xs[i]? = some y) : Lite y.1 t := by
  intro k hk
  refine h k ?_
  rw [DataW.weights, Tryz.underlying38]
  exact DataW.weights_mem_each (ts := [3, 9, 9, 9, 9, 9, 36, 3, 24, 24, 26]) ht (by simp [hy]) k hk
theorem lite_str {H : Type} {s : ByteArray} {t : TypeId} (h : Lite (.lit (.string s.data.toList) : DataW H) t) : Fit s := by
  have := h s.data.toList.length (by rw [DataW.weights]; simp)
  have h5 : s.size = s.data.toList.length := Array.length_toList.symm
  unfold reachBytes at this
  unfold Fit
  omega
theorem c_int : Tryz.prog.cellsOf 3 = 1 := by kernel_rfl
theorem c_str : Tryz.prog.cellsOf 9 = 1 := by kernel_rfl
theorem c_strs : Tryz.prog.cellsOf 36 = 1 := by kernel_rfl
theorem c_stmts : Tryz.prog.cellsOf 24 = 1 := by kernel_rfl
theorem c_stmt : Tryz.prog.cellsOf 38 = 12 := by kernel_rfl
theorem c_pos : Tryz.prog.cellsOf 26 = 2 := by kernel_rfl

section
variable {H : Type} {enc : TypeId × Value → H} {W : World}
/-- A list of texts. -/
theorem open_args {fuel : Nat} {cs : List Value} {x : DataW H × List MemPlace} (h : DataW.trod enc Tryz.prog W 0 (fun _ => true) true fuel 36 cs = some x) (hz : Lite x.1 36) :
    ∃ A ag c, cs = [.slice A (ag : List ByteArray).length c] ∧ ag.length ≤ c ∧ Sts W A ag ∧ (∀ b off, A = some ⟨b, off, none⟩ → 0 < ag.length → b < W.heap.size) ∧ ∀ a ∈ ag, Fit a := by
  rcases open_strs Tryz.underlying36 Tryz.underlying9 c_str h with ⟨hcs, hx⟩ | ⟨a, len, cap, m, Sx, hcs, _, hl, hm, hmm, hx, hr⟩
  · exact ⟨none, [], 0, hcs, Nat.le_refl _, Rws.none _ _ _, (fun b off e h0 => by simp at h0), (fun a ha => by simp at ha)⟩
  · simp only [if_true] at hmm
    subst hmm
    subst hx
    have hlen : ((List.range len).map Sx).length = len := by simp
    have hsp : 0 < len → a.spot = none := fun h0 => spot_none (hr 0 (by omega)).1
    refine ⟨some a, (List.range len).map Sx, m, by rw [hlen]; exact hcs, by rw [hlen]; exact hl, ⟨by simp, ?_⟩, ?_, ?_⟩
    · by_cases h0 : len = 0
      · exact .inl (by rw [hlen]; exact h0)
      · right
        have hs := hsp (by omega)
        obtain ⟨b, off, spot⟩ := a
        simp only at hs
        subst hs
        have hcell : ∀ j, j < len → W.cell? ⟨b, off + j, none⟩ = some (.string (Sx j)) := fun j hj => by
          have := (hr j (by omega)).1
          rwa [Addr.add_lit] at this
        refine ⟨b, off, rfl, cell_lt (hcell 0 (by omega)), fun j u hu => ?_⟩
        rw [List.map_map, List.getElem?_map] at hu
        have hj : j < len := by
          rcases Nat.lt_or_ge j len with h | h
          · exact h
          · rw [List.getElem?_eq_none (by simpa using h)] at hu; cases hu
        rw [List.getElem?_range hj] at hu
        injection hu with hu
        rw [← hu]
        exact hcell j hj
    · intro b off e h0
      rw [hlen] at h0
      injection e with e
      subst e
      have := (hr 0 (by omega)).1
      rw [Addr.add_lit] at this
      exact cell_lt this
    · intro q hq
      obtain ⟨j, hj, rfl⟩ := List.mem_map.1 hq
      exact lite_str (lite_elem Tryz.underlying36 hz (List.mem_map.2 ⟨j, hj, rfl⟩))

theorem take1 {cs : List Value} {o : Nat} {v : Value} (h : (cs.drop o).take 1 = [v]) : cs[o]? = some v := by
  have : ((cs.drop o).take 1)[0]? = some v := by rw [h]; rfl
  rw [List.getElem?_take_of_lt (by omega), List.getElem?_drop] at this
  simpa using this
theorem list12 {cs : List Value} (hl : cs.length = 12) {v0 v1 v2 v3 v4 v5 v6 v7 v8 v9 v10 v11 : Value} (h0 : cs[0]? = some v0) (h1 : cs[1]? = some v1) (h2 : cs[2]? = some v2) (h3 : cs[3]? = some v3) (h4 : cs[4]? = some v4) (h5 : cs[5]? = some v5) (h6 : cs[6]? = some v6) (h7 : cs[7]? = some v7) (h8 : cs[8]? = some v8) (h9 : cs[9]? = some v9) (h10 : cs[10]? = some v10) (h11 : cs[11]? = some v11) :
    cs = [v0, v1, v2, v3, v4, v5, v6, v7, v8, v9, v10, v11] := by
  match cs, hl with
  | [a0, a1, a2, a3, a4, a5, a6, a7, a8, a9, a10, a11], _ =>
    simp at h0 h1 h2 h3 h4 h5 h6 h7 h8 h9 h10 h11
    simp [h0, h1, h2, h3, h4, h5, h6, h7, h8, h9, h10, h11]

theorem RdL_of {B : Nat} {b off : Nat} : ∀ (l : List St) (k : Nat), (∀ j s, l[j]? = some s → b < B ∧ b < W.heap.size ∧ ∃ cs : List Value, (∀ i v, cs[i]? = some v → W.cell? ⟨b, off + (k + j) * 12 + i, none⟩ = some v) ∧ RdS B W cs s) → RdL B W (some ⟨b, off, none⟩) k l
  | [], k, _ => by unfold RdL; trivial
  | s :: l, k, h => by
    unfold RdL
    obtain ⟨h1, h2, cs, h3, h4⟩ := h 0 s rfl
    refine ⟨⟨b, off, cs, rfl, h1, h2, h3, h4⟩, RdL_of l (k + 1) fun j u hu => ?_⟩
    have := h (j + 1) u (by simpa using hu)
    rwa [show k + (j + 1) = k + 1 + j by omega] at this

set_option maxHeartbeats 1000000 in
theorem open_both : ∀ (fuel : Nat),
    (∀ (cs : List Value) (x : DataW H × List MemPlace), DataW.trod enc Tryz.prog W 0 (fun _ => true) true fuel 38 cs = some x → Lite x.1 38 → ∃ s, RdS W.heap.size W cs s ∧ OkS s) ∧
    (∀ (cs : List Value) (x : DataW H × List MemPlace), DataW.trod enc Tryz.prog W 0 (fun _ => true) true fuel 24 cs = some x → Lite x.1 24 → ∃ A l c, cs = [.slice A (l : List St).length c] ∧ l.length ≤ c ∧ RdL W.heap.size W A 0 l ∧ OkL l)
  | 0 => ⟨fun cs x h => by simp [DataW.trod] at h, fun cs x h => by simp [DataW.trod] at h⟩
  | n + 1 => by
    obtain ⟨ih1, ih2⟩ := open_both n
    constructor
    · intro cs x h hz
      obtain ⟨xs, m, hm, rfl, hl, hlen, hf⟩ := DataW.trod_struct Tryz.underlying38 h
      obtain rfl : n = m := by omega
      rw [c_stmt] at hl
      have hlen' : xs.length = 11 := hlen
      have get : ∀ i, i < 11 → ∃ y, xs[i]? = some y := fun i hi => ⟨xs[i]'(by omega), List.getElem?_eq_getElem (by omega)⟩
      obtain ⟨y0, g0⟩ := get 0 (by omega)
      obtain ⟨y1, g1⟩ := get 1 (by omega)
      obtain ⟨y2, g2⟩ := get 2 (by omega)
      obtain ⟨y3, g3⟩ := get 3 (by omega)
      obtain ⟨y4, g4⟩ := get 4 (by omega)
      obtain ⟨y5, g5⟩ := get 5 (by omega)
      obtain ⟨y6, g6⟩ := get 6 (by omega)
      obtain ⟨y7, g7⟩ := get 7 (by omega)
      obtain ⟨y8, g8⟩ := get 8 (by omega)
      obtain ⟨y9, g9⟩ := get 9 (by omega)
      obtain ⟨y10, g10⟩ := get 10 (by omega)
      have f0 : DataW.trod enc Tryz.prog W 0 (fun _ => true) true n 3 ((cs.drop 0).take (Tryz.prog.cellsOf 3)) = xs[0]? := hf 0 _ rfl
      have f1 : DataW.trod enc Tryz.prog W 0 (fun _ => true) true n 9 ((cs.drop 1).take (Tryz.prog.cellsOf 9)) = xs[1]? := hf 1 _ rfl
      have f2 : DataW.trod enc Tryz.prog W 0 (fun _ => true) true n 9 ((cs.drop 2).take (Tryz.prog.cellsOf 9)) = xs[2]? := hf 2 _ rfl
      have f3 : DataW.trod enc Tryz.prog W 0 (fun _ => true) true n 9 ((cs.drop 3).take (Tryz.prog.cellsOf 9)) = xs[3]? := hf 3 _ rfl
      have f4 : DataW.trod enc Tryz.prog W 0 (fun _ => true) true n 9 ((cs.drop 4).take (Tryz.prog.cellsOf 9)) = xs[4]? := hf 4 _ rfl
      have f5 : DataW.trod enc Tryz.prog W 0 (fun _ => true) true n 9 ((cs.drop 5).take (Tryz.prog.cellsOf 9)) = xs[5]? := hf 5 _ rfl
      have f6 : DataW.trod enc Tryz.prog W 0 (fun _ => true) true n 36 ((cs.drop 6).take (Tryz.prog.cellsOf 36)) = xs[6]? := hf 6 _ rfl
      have f7 : DataW.trod enc Tryz.prog W 0 (fun _ => true) true n 3 ((cs.drop 7).take (Tryz.prog.cellsOf 3)) = xs[7]? := hf 7 _ rfl
      have f8 : DataW.trod enc Tryz.prog W 0 (fun _ => true) true n 24 ((cs.drop 8).take (Tryz.prog.cellsOf 24)) = xs[8]? := hf 8 _ rfl
      have f9 : DataW.trod enc Tryz.prog W 0 (fun _ => true) true n 24 ((cs.drop 9).take (Tryz.prog.cellsOf 24)) = xs[9]? := hf 9 _ rfl
      have f10 : DataW.trod enc Tryz.prog W 0 (fun _ => true) true n 26 ((cs.drop 10).take (Tryz.prog.cellsOf 26)) = xs[10]? := hf 10 _ rfl
      rw [c_int, g0] at f0
      rw [c_str, g1] at f1
      rw [c_str, g2] at f2
      rw [c_str, g3] at f3
      rw [c_str, g4] at f4
      rw [c_str, g5] at f5
      rw [c_strs, g6] at f6
      rw [c_int, g7] at f7
      rw [c_stmts, g8] at f8
      rw [c_stmts, g9] at f9
      rw [c_pos, g10] at f10
      obtain ⟨d, e0, _, w0⟩ := DataW.trod_int Tryz.underlying3 f0
      obtain ⟨x1, e1, q1, _⟩ := DataW.trod_string Tryz.underlying9 f1
      obtain ⟨x2, e2, q2, _⟩ := DataW.trod_string Tryz.underlying9 f2
      obtain ⟨x3, e3, q3, _⟩ := DataW.trod_string Tryz.underlying9 f3
      obtain ⟨x4, e4, q4, _⟩ := DataW.trod_string Tryz.underlying9 f4
      obtain ⟨x5, e5, q5, _⟩ := DataW.trod_string Tryz.underlying9 f5
      obtain ⟨A1, ag, c1, e6, l6, s6, b6, z6⟩ := open_args f6 (lite_field hz (i := 6) rfl g6)
      obtain ⟨nn, e7, _, w7⟩ := DataW.trod_int Tryz.underlying3 f7
      obtain ⟨A2, bd, c2, e8, l8, r8, o8⟩ := ih2 _ _ f8 (lite_field hz (i := 8) rfl g8)
      obtain ⟨A3, ot, c3, e9, l9, r9, o9⟩ := ih2 _ _ f9 (lite_field hz (i := 9) rfl g9)
      obtain ⟨ya, yb, k, _, lpos, fa', fb'⟩ := trod_struct2 Tryz.underlying26 f10
      have fa : DataW.trod enc Tryz.prog W 0 (fun _ => true) true k 3 ((((cs.drop 10).take 2).drop 0).take (Tryz.prog.cellsOf 3)) = some ya := fa'
      have fb : DataW.trod enc Tryz.prog W 0 (fun _ => true) true k 3 ((((cs.drop 10).take 2).drop 1).take (Tryz.prog.cellsOf 3)) = some yb := fb'
      rw [c_int] at fa fb
      obtain ⟨lin, ea, _, wa⟩ := DataW.trod_int Tryz.underlying3 fa
      obtain ⟨cl, eb, _, _⟩ := DataW.trod_int Tryz.underlying3 fb
      have h10 : cs[10]? = some (.int .i64 lin) := by
        have := take1 ea
        rw [List.getElem?_take_of_lt (by omega), List.getElem?_drop] at this
        simpa using this
      have h11 : cs[11]? = some (.int .i64 cl) := by
        have := take1 eb
        rw [List.getElem?_take_of_lt (by omega), List.getElem?_drop] at this
        simpa using this
      have key := list12 hl (take1 e0) (take1 e1) (take1 e2) (take1 e3) (take1 e4) (take1 e5) (take1 e6) (take1 e7) (take1 e8) (take1 e9) h10 h11
      have F1 := lite_field hz (i := 1) rfl g1
      have F2 := lite_field hz (i := 2) rfl g2
      have F3 := lite_field hz (i := 3) rfl g3
      have F4 := lite_field hz (i := 4) rfl g4
      have F5 := lite_field hz (i := 5) rfl g5
      rw [q1] at F1
      rw [q2] at F2
      rw [q3] at F3
      rw [q4] at F4
      rw [q5] at F5
      refine ⟨.mk d x1 x2 x3 x4 x5 ag nn bd ot lin cl, ?_, ?_⟩
      · unfold RdS
        exact ⟨A1, c1, A2, c2, A3, c3, key, l6, l8, l9, s6, b6, r8, r9⟩
      · unfold OkS
        exact ⟨bounds_i64 w0, bounds_i64 w7, bounds_i64 wa, ⟨lite_str F1, lite_str F2, lite_str F3, lite_str F4, lite_str F5⟩, z6, o8, o9⟩
    · intro cs x h hz
      rcases DataW.trod_slice Tryz.underlying24 h with ⟨hcs, hx⟩ | ⟨a, len, cap, elems, rest, m, hm, hcs, rfl, hb, hl, hcm, hlen, hel, _, _⟩
      · exact ⟨none, [], 0, hcs, Nat.le_refl _, by unfold RdL; trivial, by unfold OkL; trivial⟩
      · obtain rfl : n = m := by omega
        have each : ∀ i, i < len → ∃ s : St, ∃ cs', W.cells? 0 (a.add (i * 12)) 12 = some cs' ∧ RdS W.heap.size W cs' s ∧ OkS s := by
          intro i hi
          have hk := hel i hi
          rw [c_stmt, List.getElem?_eq_getElem (by omega)] at hk
          obtain ⟨cs', h1, h2⟩ := Option.bind_eq_some_iff.1 hk
          obtain ⟨s, r1, r2⟩ := ih1 cs' _ h2 (lite_elem Tryz.underlying24 hz (List.mem_map.2 ⟨_, List.getElem_mem (by omega), rfl⟩))
          exact ⟨s, cs', h1, r1, r2⟩
        have inh : Inhabited St := ⟨.mk 0 ⟨#[]⟩ ⟨#[]⟩ ⟨#[]⟩ ⟨#[]⟩ ⟨#[]⟩ [] 0 [] [] 0 0⟩
        obtain ⟨f, hf⟩ := choose_lt each
        have hlf : ((List.range len).map f).length = len := by simp
        have hat : ∀ j s, ((List.range len).map f)[j]? = some s → j < len ∧ f j = s := by
          intro j s hs
          rw [List.getElem?_map] at hs
          have hj : j < len := by
            rcases Nat.lt_or_ge j len with h | h
            · exact h
            · rw [List.getElem?_eq_none (by simpa using h)] at hs; cases hs
          rw [List.getElem?_range hj] at hs
          injection hs with hs
          exact ⟨hj, hs⟩
        refine ⟨some a, (List.range len).map f, cap, by rw [hlf]; exact hcs, by rw [hlf]; exact hl, ?_, OkL.of fun s hs => ?_⟩
        · by_cases h0 : len = 0
          · subst h0
            unfold RdL
            trivial
          · obtain ⟨cs0, c0, rd0, _⟩ := hf 0 (by omega)
            obtain ⟨_, l0, g0⟩ := World.cells?_some c0
            have hsp : a.spot = none := by
              have h00 := g0 0 (by omega)
              rw [List.getElem?_eq_getElem (by omega)] at h00
              have : (a.add (0 * 12)).add 0 = a.add 0 := by rw [add_add]
              rw [this] at h00
              exact spot_none h00
            obtain ⟨b, off, spot⟩ := a
            simp only at hsp
            subst hsp
            refine RdL_of _ 0 fun j s hs => ?_
            obtain ⟨hj, rfl⟩ := hat j s hs
            obtain ⟨cs', c', rd, _⟩ := hf j hj
            obtain ⟨_, l', g'⟩ := World.cells?_some c'
            have hc : ∀ i v, cs'[i]? = some v → W.cell? ⟨b, off + (0 + j) * 12 + i, none⟩ = some v := by
              intro i v hv
              have hi : i < 12 := by have := (List.getElem?_eq_some_iff.1 hv).1; omega
              have := g' i hi
              rw [add_add, Addr.add_lit, hv] at this
              rw [show off + (0 + j) * 12 + i = off + (j * 12 + i) by omega]
              exact this
            have hlt : b < W.heap.size := by
              have := hc 0 _ (List.getElem?_eq_getElem (by omega))
              exact cell_lt this
            exact ⟨hlt, hlt, cs', hc, rd⟩
        · obtain ⟨j, hj⟩ := List.getElem?_of_mem hs
          obtain ⟨hj', rfl⟩ := hat j s hj
          obtain ⟨_, _, _, ok⟩ := hf j hj'
          exact ok
end
end Go.Proofs.YtoekaehpcjhhaaaGreatDoor
