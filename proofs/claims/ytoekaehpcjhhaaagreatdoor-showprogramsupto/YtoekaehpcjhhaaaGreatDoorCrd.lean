import Derived.Test.YtoekaehpcjhhaaaGreatDoorDat
import Derived.ProofKit
import Derived.OpenShut
import Derived.Carry
import Derived.Deep.Slices
import Derived.Deep.Strs
import Derived.SizedLaws
import Derived.Test.YtoekaehpcjhhaaaGreatDoorLaw
import Derived.Test.YtoekaehpcjhhaaaGreatDoorRows
import Derived.Test.YtoekaehpcjhhaaaGreatDoorNst
import Derived.LaidMore
import Derived.Stop.Joined
import Derived.ChangeMaps5
import Derived.Lib.LaidTab
import Derived.Test.YtoekaehpcjhhaaaGreatDoorTie
import Derived.Test.YtoekaehpcjhhaaaGreatDoorCards
import Derived.Deep.DeepHandedRow
import Derived.SevenTiedAt
import Derived.Lay
import Derived.Shelf.Vars

/- The laws' arguments read off the data: statements and lists of them. -/
set_option linter.unusedSimpArgs false
set_option linter.unusedVariables false
namespace Go.Proofs.YtoekaehpcjhhaaaGreatDoor
open Go.ChangeShapes Go.WideShapes Go.ChangeAt Go.RowKit Go.Deep

/-- What was read weighs no more than a machine can hold. -/
def Lite {H : Type} (d : DataW H) (t : TypeId) : Prop := ∀ k ∈ d.weights Tryz.prog t, k ≤ reachBytes
theorem weights_all {H : Type} (P : Program) (e : TypeId) {d : DataW H} {k : Nat} : ∀ {l : List (DataW H)}, d ∈ l → k ∈ d.weights P e → k ∈ DataW.weightsAll P e l
  | [], h, _ => by simp at h
  | x :: l, h, hk => by
    simp only [DataW.weightsAll, List.mem_append]
    rcases List.mem_cons.1 h with rfl | h
    · exact .inl hk
    · exact .inr (weights_all P e h hk)
theorem lite_elem {H : Type} {t e : TypeId} (ht : Tryz.prog.underlying t = some (.slice e)) {el sp : List (DataW H)} (h : Lite (.slice el sp) t) {d : DataW H} (hd : d ∈ el) : Lite d e := by
  intro k hk
  refine h k ?_
  rw [DataW.weights, ht]
  exact List.mem_cons_of_mem _ (List.mem_append_left _ (weights_all _ _ hd hk))
theorem lite_field {H : Type} {xs : List (DataW H × List MemPlace)} (h : Lite (.agg (xs.map (·.1))) 38) {i : Nat} {t : TypeId} (ht : [3, 9, 9, 9, 9, 9, 36, 3, 24, 24, 26][i]? = some t) {y : DataW H × List MemPlace} (hy : xs[i]? = some y) : Lite y.1 t := by
  intro k hk
  refine h k ?_
  rw [DataW.weights, Tryz.underlying38]
  exact DataW.weights_mem_each (ts := [3, 9, 9, 9, 9, 9, 36, 3, 24, 24, 26]) ht (by simp [hy]) k hk
theorem lite_str {H : Type} {s : ByteArray} {t : TypeId} (h : Lite (.lit (.string s.data.toList) : DataW H) t) : Fit s := by
  have := h s.data.toList.length (by rw [DataW.weights]; simp)
  have h5 : s.size = s.data.toList.length := Array.length_toList.symm
  unfold reachBytes at this
  unfold Fit
  omega
theorem c_int : Tryz.prog.cellsOf 3 = 1 := by kernel_rfl
theorem c_str : Tryz.prog.cellsOf 9 = 1 := by kernel_rfl
theorem c_strs : Tryz.prog.cellsOf 36 = 1 := by kernel_rfl
theorem c_stmts : Tryz.prog.cellsOf 24 = 1 := by kernel_rfl
theorem c_stmt : Tryz.prog.cellsOf 38 = 12 := by kernel_rfl
theorem c_pos : Tryz.prog.cellsOf 26 = 2 := by kernel_rfl

section
variable {H : Type} {enc : TypeId × Value → H} {W : World}
/-- A list of texts. -/
theorem open_args {fuel : Nat} {cs : List Value} {x : DataW H × List MemPlace} (h : DataW.trod enc Tryz.prog W 0 (fun _ => true) true fuel 36 cs = some x) (hz : Lite x.1 36) :
    ∃ A ag c, cs = [.slice A (ag : List ByteArray).length c] ∧ ag.length ≤ c ∧ Sts W A ag ∧ (∀ b off, A = some ⟨b, off, none⟩ → 0 < ag.length → b < W.heap.size) ∧ ∀ a ∈ ag, Fit a := by
  rcases open_strs Tryz.underlying36 Tryz.underlying9 c_str h with ⟨hcs, hx⟩ | ⟨a, len, cap, m, Sx, hcs, _, hl, hm, hmm, hx, hr⟩
  · exact ⟨none, [], 0, hcs, Nat.le_refl _, Rws.none _ _ _, (fun b off e h0 => by simp at h0), (fun a ha => by simp at ha)⟩
  · simp only [if_true] at hmm
    subst hmm
    subst hx
    have hlen : ((List.range len).map Sx).length = len := by simp
    have hsp : 0 < len → a.spot = none := fun h0 => spot_none (hr 0 (by omega)).1
    refine ⟨some a, (List.range len).map Sx, m, by rw [hlen]; exact hcs, by rw [hlen]; exact hl, ⟨by simp, ?_⟩, ?_, ?_⟩
    · by_cases h0 : len = 0
      · exact .inl (by rw [hlen]; exact h0)
      · right
        have hs := hsp (by omega)
        obtain ⟨b, off, spot⟩ := a
        simp only at hs
        subst hs
        have hcell : ∀ j, j < len → W.cell? ⟨b, off + j, none⟩ = some (.string (Sx j)) := fun j hj => by
          have := (hr j (by omega)).1
          rwa [Addr.add_lit] at this
        refine ⟨b, off, rfl, cell_lt (hcell 0 (by omega)), fun j u hu => ?_⟩
        rw [List.map_map, List.getElem?_map] at hu
        have hj : j < len := by
          rcases Nat.lt_or_ge j len with h | h
          · exact h
          · rw [List.getElem?_eq_none (by simpa using h)] at hu; cases hu
        rw [List.getElem?_range hj] at hu
        injection hu with hu
        rw [← hu]
        exact hcell j hj
    · intro b off e h0
      rw [hlen] at h0
      injection e with e
      subst e
      have := (hr 0 (by omega)).1
      rw [Addr.add_lit] at this
      exact cell_lt this
    · intro q hq
      obtain ⟨j, hj, rfl⟩ := List.mem_map.1 hq
      exact lite_str (lite_elem Tryz.underlying36 hz (List.mem_map.2 ⟨j, hj, rfl⟩))

theorem take1 {cs : List Value} {o : Nat} {v : Value} (h : (cs.drop o).take 1 = [v]) : cs[o]? = some v := by
  have : ((cs.drop o).take 1)[0]? = some v := by rw [h]; rfl
  rw [List.getElem?_take_of_lt (by omega), List.getElem?_drop] at this
  simpa using this
theorem list12 {cs : List Value} (hl : cs.length = 12) {v0 v1 v2 v3 v4 v5 v6 v7 v8 v9 v10 v11 : Value} (h0 : cs[0]? = some v0) (h1 : cs[1]? = some v1) (h2 : cs[2]? = some v2) (h3 : cs[3]? = some v3) (h4 : cs[4]? = some v4) (h5 : cs[5]? = some v5) (h6 : cs[6]? = some v6) (h7 : cs[7]? = some v7) (h8 : cs[8]? = some v8) (h9 : cs[9]? = some v9) (h10 : cs[10]? = some v10) (h11 : cs[11]? = some v11) :
    cs = [v0, v1, v2, v3, v4, v5, v6, v7, v8, v9, v10, v11] := by
  match cs, hl with
  | [a0, a1, a2, a3, a4, a5, a6, a7, a8, a9, a10, a11], _ =>
    simp at h0 h1 h2 h3 h4 h5 h6 h7 h8 h9 h10 h11
    simp [h0, h1, h2, h3, h4, h5, h6, h7, h8, h9, h10, h11]

theorem RdL_of {B : Nat} {b off : Nat} : ∀ (l : List St) (k : Nat), (∀ j s, l[j]? = some s → b < B ∧ b < W.heap.size ∧ ∃ cs : List Value, (∀ i v, cs[i]? = some v → W.cell? ⟨b, off + (k + j) * 12 + i, none⟩ = some v) ∧ RdS B W cs s) → RdL B W (some ⟨b, off, none⟩) k l
  | [], k, _ => by unfold RdL; trivial
  | s :: l, k, h => by
    unfold RdL
    obtain ⟨h1, h2, cs, h3, h4⟩ := h 0 s rfl
    refine ⟨⟨b, off, cs, rfl, h1, h2, h3, h4⟩, RdL_of l (k + 1) fun j u hu => ?_⟩
    have := h (j + 1) u (by simpa using hu)
    rwa [show k + (j + 1) = k + 1 + j by omega] at this

set_option maxHeartbeats 1000000 in
theorem open_both : ∀ (fuel : Nat),
    (∀ (cs : List Value) (x : DataW H × List MemPlace), DataW.trod enc Tryz.prog W 0 (fun _ => true) true fuel 38 cs = some x → Lite x.1 38 → ∃ s, RdS W.heap.size W cs s ∧ OkS s) ∧
    (∀ (cs : List Value) (x : DataW H × List MemPlace), DataW.trod enc Tryz.prog W 0 (fun _ => true) true fuel 24 cs = some x → Lite x.1 24 → ∃ A l c, cs = [.slice A (l : List St).length c] ∧ l.length ≤ c ∧ RdL W.heap.size W A 0 l ∧ OkL l)
  | 0 => ⟨fun cs x h => by simp [DataW.trod] at h, fun cs x h => by simp [DataW.trod] at h⟩
  | n + 1 => by
    obtain ⟨ih1, ih2⟩ := open_both n
    constructor
    · intro cs x h hz
      obtain ⟨xs, m, hm, rfl, hl, hlen, hf⟩ := DataW.trod_struct Tryz.underlying38 h
      obtain rfl : n = m := by omega
      rw [c_stmt] at hl
      have hlen' : xs.length = 11 := hlen
      have get : ∀ i, i < 11 → ∃ y, xs[i]? = some y := fun i hi => ⟨xs[i]'(by omega), List.getElem?_eq_getElem (by omega)⟩
      obtain ⟨y0, g0⟩ := get 0 (by omega)
      obtain ⟨y1, g1⟩ := get 1 (by omega)
      obtain ⟨y2, g2⟩ := get 2 (by omega)
      obtain ⟨y3, g3⟩ := get 3 (by omega)
      obtain ⟨y4, g4⟩ := get 4 (by omega)
      obtain ⟨y5, g5⟩ := get 5 (by omega)
      obtain ⟨y6, g6⟩ := get 6 (by omega)
      obtain ⟨y7, g7⟩ := get 7 (by omega)
      obtain ⟨y8, g8⟩ := get 8 (by omega)
      obtain ⟨y9, g9⟩ := get 9 (by omega)
      obtain ⟨y10, g10⟩ := get 10 (by omega)
      have f0 : DataW.trod enc Tryz.prog W 0 (fun _ => true) true n 3 ((cs.drop 0).take (Tryz.prog.cellsOf 3)) = xs[0]? := hf 0 _ rfl
      have f1 : DataW.trod enc Tryz.prog W 0 (fun _ => true) true n 9 ((cs.drop 1).take (Tryz.prog.cellsOf 9)) = xs[1]? := hf 1 _ rfl
      have f2 : DataW.trod enc Tryz.prog W 0 (fun _ => true) true n 9 ((cs.drop 2).take (Tryz.prog.cellsOf 9)) = xs[2]? := hf 2 _ rfl
      have f3 : DataW.trod enc Tryz.prog W 0 (fun _ => true) true n 9 ((cs.drop 3).take (Tryz.prog.cellsOf 9)) = xs[3]? := hf 3 _ rfl
      have f4 : DataW.trod enc Tryz.prog W 0 (fun _ => true) true n 9 ((cs.drop 4).take (Tryz.prog.cellsOf 9)) = xs[4]? := hf 4 _ rfl
      have f5 : DataW.trod enc Tryz.prog W 0 (fun _ => true) true n 9 ((cs.drop 5).take (Tryz.prog.cellsOf 9)) = xs[5]? := hf 5 _ rfl
      have f6 : DataW.trod enc Tryz.prog W 0 (fun _ => true) true n 36 ((cs.drop 6).take (Tryz.prog.cellsOf 36)) = xs[6]? := hf 6 _ rfl
      have f7 : DataW.trod enc Tryz.prog W 0 (fun _ => true) true n 3 ((cs.drop 7).take (Tryz.prog.cellsOf 3)) = xs[7]? := hf 7 _ rfl
      have f8 : DataW.trod enc Tryz.prog W 0 (fun _ => true) true n 24 ((cs.drop 8).take (Tryz.prog.cellsOf 24)) = xs[8]? := hf 8 _ rfl
      have f9 : DataW.trod enc Tryz.prog W 0 (fun _ => true) true n 24 ((cs.drop 9).take (Tryz.prog.cellsOf 24)) = xs[9]? := hf 9 _ rfl
      have f10 : DataW.trod enc Tryz.prog W 0 (fun _ => true) true n 26 ((cs.drop 10).take (Tryz.prog.cellsOf 26)) = xs[10]? := hf 10 _ rfl
      rw [c_int, g0] at f0
      rw [c_str, g1] at f1
      rw [c_str, g2] at f2
      rw [c_str, g3] at f3
      rw [c_str, g4] at f4
      rw [c_str, g5] at f5
      rw [c_strs, g6] at f6
      rw [c_int, g7] at f7
      rw [c_stmts, g8] at f8
      rw [c_stmts, g9] at f9
      rw [c_pos, g10] at f10
      obtain ⟨d, e0, _, w0⟩ := DataW.trod_int Tryz.underlying3 f0
      obtain ⟨x1, e1, q1, _⟩ := DataW.trod_string Tryz.underlying9 f1
      obtain ⟨x2, e2, q2, _⟩ := DataW.trod_string Tryz.underlying9 f2
      obtain ⟨x3, e3, q3, _⟩ := DataW.trod_string Tryz.underlying9 f3
      obtain ⟨x4, e4, q4, _⟩ := DataW.trod_string Tryz.underlying9 f4
      obtain ⟨x5, e5, q5, _⟩ := DataW.trod_string Tryz.underlying9 f5
      obtain ⟨A1, ag, c1, e6, l6, s6, b6, z6⟩ := open_args f6 (lite_field hz (i := 6) rfl g6)
      obtain ⟨nn, e7, _, w7⟩ := DataW.trod_int Tryz.underlying3 f7
      obtain ⟨A2, bd, c2, e8, l8, r8, o8⟩ := ih2 _ _ f8 (lite_field hz (i := 8) rfl g8)
      obtain ⟨A3, ot, c3, e9, l9, r9, o9⟩ := ih2 _ _ f9 (lite_field hz (i := 9) rfl g9)
      obtain ⟨ya, yb, k, _, lpos, fa', fb'⟩ := trod_struct2 Tryz.underlying26 f10
      have fa : DataW.trod enc Tryz.prog W 0 (fun _ => true) true k 3 ((((cs.drop 10).take 2).drop 0).take (Tryz.prog.cellsOf 3)) = some ya := fa'
      have fb : DataW.trod enc Tryz.prog W 0 (fun _ => true) true k 3 ((((cs.drop 10).take 2).drop 1).take (Tryz.prog.cellsOf 3)) = some yb := fb'
      rw [c_int] at fa fb
      obtain ⟨lin, ea, _, wa⟩ := DataW.trod_int Tryz.underlying3 fa
      obtain ⟨cl, eb, _, _⟩ := DataW.trod_int Tryz.underlying3 fb
      have h10 : cs[10]? = some (.int .i64 lin) := by
        have := take1 ea
        rw [List.getElem?_take_of_lt (by omega), List.getElem?_drop] at this
        simpa using this
      have h11 : cs[11]? = some (.int .i64 cl) := by
        have := take1 eb
        rw [List.getElem?_take_of_lt (by omega), List.getElem?_drop] at this
        simpa using this
      have key := list12 hl (take1 e0) (take1 e1) (take1 e2) (take1 e3) (take1 e4) (take1 e5) (take1 e6) (take1 e7) (take1 e8) (take1 e9) h10 h11
      have F1 := lite_field hz (i := 1) rfl g1
      have F2 := lite_field hz (i := 2) rfl g2
      have F3 := lite_field hz (i := 3) rfl g3
      have F4 := lite_field hz (i := 4) rfl g4
      have F5 := lite_field hz (i := 5) rfl g5
      rw [q1] at F1
      rw [q2] at F2
      rw [q3] at F3
      rw [q4] at F4
      rw [q5] at F5
      refine ⟨.mk d x1 x2 x3 x4 x5 ag nn bd ot lin cl, ?_, ?_⟩
      · unfold RdS
        exact ⟨A1, c1, A2, c2, A3, c3, key, l6, l8, l9, s6, b6, r8, r9⟩
      · unfold OkS
        exact ⟨bounds_i64 w0, bounds_i64 w7, bounds_i64 wa, ⟨lite_str F1, lite_str F2, lite_str F3, lite_str F4, lite_str F5⟩, z6, o8, o9⟩
    · intro cs x h hz
      rcases DataW.trod_slice Tryz.underlying24 h with ⟨hcs, hx⟩ | ⟨a, len, cap, elems, rest, m, hm, hcs, rfl, hb, hl, hcm, hlen, hel, _, _⟩
      · exact ⟨none, [], 0, hcs, Nat.le_refl _, by unfold RdL; trivial, by unfold OkL; trivial⟩
      · obtain rfl : n = m := by omega
        have each : ∀ i, i < len → ∃ s : St, ∃ cs', W.cells? 0 (a.add (i * 12)) 12 = some cs' ∧ RdS W.heap.size W cs' s ∧ OkS s := by
          intro i hi
          have hk := hel i hi
          rw [c_stmt, List.getElem?_eq_getElem (by omega)] at hk
          obtain ⟨cs', h1, h2⟩ := Option.bind_eq_some_iff.1 hk
          obtain ⟨s, r1, r2⟩ := ih1 cs' _ h2 (lite_elem Tryz.underlying24 hz (List.mem_map.2 ⟨_, List.getElem_mem (by omega), rfl⟩))
          exact ⟨s, cs', h1, r1, r2⟩
        have inh : Inhabited St := ⟨.mk 0 ⟨#[]⟩ ⟨#[]⟩ ⟨#[]⟩ ⟨#[]⟩ ⟨#[]⟩ [] 0 [] [] 0 0⟩
        obtain ⟨f, hf⟩ := choose_lt each
        have hlf : ((List.range len).map f).length = len := by simp
        have hat : ∀ j s, ((List.range len).map f)[j]? = some s → j < len ∧ f j = s := by
          intro j s hs
          rw [List.getElem?_map] at hs
          have hj : j < len := by
            rcases Nat.lt_or_ge j len with h | h
            · exact h
            · rw [List.getElem?_eq_none (by simpa using h)] at hs; cases hs
          rw [List.getElem?_range hj] at hs
          injection hs with hs
          exact ⟨hj, hs⟩
        refine ⟨some a, (List.range len).map f, cap, by rw [hlf]; exact hcs, by rw [hlf]; exact hl, ?_, OkL.of fun s hs => ?_⟩
        · by_cases h0 : len = 0
          · subst h0
            unfold RdL
            trivial
          · obtain ⟨cs0, c0, rd0, _⟩ := hf 0 (by omega)
            obtain ⟨_, l0, g0⟩ := World.cells?_some c0
            have hsp : a.spot = none := by
              have h00 := g0 0 (by omega)
              rw [List.getElem?_eq_getElem (by omega)] at h00
              have : (a.add (0 * 12)).add 0 = a.add 0 := by rw [add_add]
              rw [this] at h00
              exact spot_none h00
            obtain ⟨b, off, spot⟩ := a
            simp only at hsp
            subst hsp
            refine RdL_of _ 0 fun j s hs => ?_
            obtain ⟨hj, rfl⟩ := hat j s hs
            obtain ⟨cs', c', rd, _⟩ := hf j hj
            obtain ⟨_, l', g'⟩ := World.cells?_some c'
            have hc : ∀ i v, cs'[i]? = some v → W.cell? ⟨b, off + (0 + j) * 12 + i, none⟩ = some v := by
              intro i v hv
              have hi : i < 12 := by have := (List.getElem?_eq_some_iff.1 hv).1; omega
              have := g' i hi
              rw [add_add, Addr.add_lit, hv] at this
              rw [show off + (0 + j) * 12 + i = off + (j * 12 + i) by omega]
              exact this
            have hlt : b < W.heap.size := by
              have := hc 0 _ (List.getElem?_eq_getElem (by omega))
              exact cell_lt this
            exact ⟨hlt, hlt, cs', hc, rd⟩
        · obtain ⟨j, hj⟩ := List.getElem?_of_mem hs
          obtain ⟨hj', rfl⟩ := hat j s hj
          obtain ⟨_, _, _, ok⟩ := hf j hj'
          exact ok
end
end Go.Proofs.YtoekaehpcjhhaaaGreatDoor

/- The law's arguments read off the data: programs. -/
set_option linter.unusedSimpArgs false
set_option linter.unusedVariables false
namespace Go.Proofs.YtoekaehpcjhhaaaGreatDoor
open Go.ChangeShapes Go.WideShapes Go.ChangeAt Go.RowKit Go.Deep

/-- What was read is of no more than the given bulk. -/
def Slim {H : Type} (d : DataW H) : Prop := Rows.uptoBulk d ≤ 1048576
theorem bulk_part {H : Type} {d : DataW H} : ∀ {l : List (DataW H)}, d ∈ l → Rows.uptoBulk d ≤ Rows.uptoBulkAll l
  | [], h => by simp at h
  | a :: l, h => by
    rw [Rows.uptoBulkAll]
    rcases List.mem_cons.1 h with rfl | h
    · omega
    · have := bulk_part h; omega
theorem slim_elem {H : Type} {el sp : List (DataW H)} (h : Slim (.slice el sp)) {d : DataW H} (hd : d ∈ el) : Slim d := by
  unfold Slim at h ⊢
  rw [Rows.uptoBulk] at h
  have := bulk_part hd
  omega
theorem slim_part {H : Type} {ps : List (DataW H)} (h : Slim (.agg ps)) {d : DataW H} (hd : d ∈ ps) : Slim d := by
  unfold Slim at h ⊢
  rw [Rows.uptoBulk] at h
  have := bulk_part hd
  omega
theorem slim_ptr {H : Type} {d : DataW H} (h : Slim (.ptr d)) : Slim d := by
  unfold Slim at h ⊢
  rw [Rows.uptoBulk] at h
  omega
theorem slim_str {H : Type} {s : ByteArray} (h : Slim (.lit (.string s.data.toList) : DataW H)) : s.size ≤ 1048576 := by
  unfold Slim at h
  rw [Rows.uptoBulk] at h
  have : s.size = s.data.toList.length := Array.length_toList.symm
  omega
theorem lite_fld {H : Type} {t : TypeId} {fs : Array Field} (ht : Tryz.prog.underlying t = some (.struct fs)) {xs : List (DataW H × List MemPlace)} (h : Lite (.agg (xs.map (·.1))) t) {i : Nat} {f : Field} (hf : fs[i]? = some f) {y : DataW H × List MemPlace} (hy : xs[i]? = some y) : Lite y.1 f.type := by
  intro k hk
  refine h k ?_
  rw [DataW.weights, ht]
  exact DataW.weights_mem_each (j := i) (t := f.type) (by simp [hf]) (by simp [hy]) k hk
theorem lite_ptr {H : Type} {t e : TypeId} (ht : Tryz.prog.underlying t = some (.pointer e)) {d : DataW H} (h : Lite (.ptr d) t) : Lite d e := by
  intro k hk
  refine h k ?_
  rw [DataW.weights, ht]
  exact hk
theorem c_bool : Tryz.prog.cellsOf 4 = 1 := by kernel_rfl
theorem c_var : Tryz.prog.cellsOf 58 = 4 := by kernel_rfl
theorem c_vars : Tryz.prog.cellsOf 23 = 1 := by kernel_rfl
theorem c_method : Tryz.prog.cellsOf 28 = 9 := by kernel_rfl
theorem c_methods : Tryz.prog.cellsOf 40 = 1 := by kernel_rfl
theorem c_pMethod : Tryz.prog.cellsOf 41 = 1 := by kernel_rfl
theorem c_class : Tryz.prog.cellsOf 43 = 10 := by kernel_rfl
theorem c_classes : Tryz.prog.cellsOf 22 = 1 := by kernel_rfl
theorem c_program : Tryz.prog.cellsOf 30 = 10 := by kernel_rfl
theorem head10 {cs : List Value} {v : Value} (hl : cs.length = 10) (h0 : cs[0]? = some v) : cs = v :: (cs.drop 1).take 9 := by
  match cs, hl, h0 with
  | a :: r, hl, h0 =>
    simp at h0 hl
    simp [h0, List.take_of_length_le, hl]
theorem list4 {cs : List Value} (hl : cs.length = 4) {v0 v1 v2 v3 : Value} (h0 : cs[0]? = some v0) (h1 : cs[1]? = some v1) (h2 : cs[2]? = some v2) (h3 : cs[3]? = some v3) :
    cs = [v0, v1, v2, v3] := by
  match cs, hl with
  | [a0, a1, a2, a3], _ =>
    simp at h0 h1 h2 h3
    simp [h0, h1, h2, h3]
theorem list9 {cs : List Value} (hl : cs.length = 9) {v0 v1 v2 v3 v4 v5 v6 v7 v8 : Value} (h0 : cs[0]? = some v0) (h1 : cs[1]? = some v1) (h2 : cs[2]? = some v2) (h3 : cs[3]? = some v3) (h4 : cs[4]? = some v4) (h5 : cs[5]? = some v5) (h6 : cs[6]? = some v6) (h7 : cs[7]? = some v7) (h8 : cs[8]? = some v8) :
    cs = [v0, v1, v2, v3, v4, v5, v6, v7, v8] := by
  match cs, hl with
  | [a0, a1, a2, a3, a4, a5, a6, a7, a8], _ =>
    simp at h0 h1 h2 h3 h4 h5 h6 h7 h8
    simp [h0, h1, h2, h3, h4, h5, h6, h7, h8]
theorem list10 {cs : List Value} (hl : cs.length = 10) {v0 v1 v2 v3 v4 v5 v6 v7 v8 v9 : Value} (h0 : cs[0]? = some v0) (h1 : cs[1]? = some v1) (h2 : cs[2]? = some v2) (h3 : cs[3]? = some v3) (h4 : cs[4]? = some v4) (h5 : cs[5]? = some v5) (h6 : cs[6]? = some v6) (h7 : cs[7]? = some v7) (h8 : cs[8]? = some v8) (h9 : cs[9]? = some v9) :
    cs = [v0, v1, v2, v3, v4, v5, v6, v7, v8, v9] := by
  match cs, hl with
  | [a0, a1, a2, a3, a4, a5, a6, a7, a8, a9], _ =>
    simp at h0 h1 h2 h3 h4 h5 h6 h7 h8 h9
    simp [h0, h1, h2, h3, h4, h5, h6, h7, h8, h9]

section
variable {H : Type} {enc : TypeId × Value → H} {W : World}
theorem open_faces {fuel : Nat} {cs : List Value} {x : DataW H × List MemPlace} (h : DataW.trod enc Tryz.prog W 0 (fun _ => true) true fuel 36 cs = some x) (hz : Slim x.1) :
    ∃ A ag c, cs = [.slice A (ag : List ByteArray).length c] ∧ ag.length ≤ c ∧ Sts W A ag ∧ (∀ b off, A = some ⟨b, off, none⟩ → 0 < ag.length → b < W.heap.size) ∧ ∀ a ∈ ag, a.size ≤ 1048576 := by
  rcases open_strs Tryz.underlying36 Tryz.underlying9 c_str h with ⟨hcs, hx⟩ | ⟨a, len, cap, m, Sx, hcs, _, hl, hm, hmm, hx, hr⟩
  · exact ⟨none, [], 0, hcs, Nat.le_refl _, Rws.none _ _ _, (fun b off e h0 => by simp at h0), (fun a ha => by simp at ha)⟩
  · simp only [if_true] at hmm
    subst hmm
    subst hx
    have hlen : ((List.range len).map Sx).length = len := by simp
    have hsp : 0 < len → a.spot = none := fun h0 => spot_none (hr 0 (by omega)).1
    refine ⟨some a, (List.range len).map Sx, m, by rw [hlen]; exact hcs, by rw [hlen]; exact hl, ⟨by simp, ?_⟩, ?_, ?_⟩
    · by_cases h0 : len = 0
      · exact .inl (by rw [hlen]; exact h0)
      · right
        have hs := hsp (by omega)
        obtain ⟨b, off, spot⟩ := a
        simp only at hs
        subst hs
        have hcell : ∀ j, j < len → W.cell? ⟨b, off + j, none⟩ = some (.string (Sx j)) := fun j hj => by
          have := (hr j (by omega)).1
          rwa [Addr.add_lit] at this
        refine ⟨b, off, rfl, cell_lt (hcell 0 (by omega)), fun j u hu => ?_⟩
        rw [List.map_map, List.getElem?_map] at hu
        have hj : j < len := by
          rcases Nat.lt_or_ge j len with h | h
          · exact h
          · rw [List.getElem?_eq_none (by simpa using h)] at hu; cases hu
        rw [List.getElem?_range hj] at hu
        injection hu with hu
        rw [← hu]
        exact hcell j hj
    · intro b off e h0
      rw [hlen] at h0
      injection e with e
      subst e
      have := (hr 0 (by omega)).1
      rw [Addr.add_lit] at this
      exact cell_lt this
    · intro q hq
      obtain ⟨j, hj, rfl⟩ := List.mem_map.1 hq
      exact slim_str (slim_elem hz (List.mem_map.2 ⟨j, hj, rfl⟩))
theorem open_pos {fuel o : Nat} {cs : List Value} {y : DataW H × List MemPlace} (f : DataW.trod enc Tryz.prog W 0 (fun _ => true) true fuel 26 ((cs.drop o).take 2) = some y) :
    ∃ a b, cs[o]? = some (.int .i64 a) ∧ cs[o + 1]? = some (.int .i64 b) := by
  obtain ⟨ya, yb, k, _, lpos, fa', fb'⟩ := trod_struct2 Tryz.underlying26 f
  have fa : DataW.trod enc Tryz.prog W 0 (fun _ => true) true k 3 ((((cs.drop o).take 2).drop 0).take (Tryz.prog.cellsOf 3)) = some ya := fa'
  have fb : DataW.trod enc Tryz.prog W 0 (fun _ => true) true k 3 ((((cs.drop o).take 2).drop 1).take (Tryz.prog.cellsOf 3)) = some yb := fb'
  rw [c_int] at fa fb
  obtain ⟨lin, ea, _, _⟩ := DataW.trod_int Tryz.underlying3 fa
  obtain ⟨cl, eb, _, _⟩ := DataW.trod_int Tryz.underlying3 fb
  refine ⟨lin, cl, ?_, ?_⟩
  · have := take1 ea
    rw [List.getElem?_take_of_lt (by omega), List.getElem?_drop] at this
    simpa using this
  · have := take1 eb
    rw [List.getElem?_take_of_lt (by omega), List.getElem?_drop] at this
    simpa using this
theorem at_cells {a : Addr} {sz : Nat} {cs : List Value} (h0 : 0 < sz) (h : W.cells? 0 a sz = some cs) : ∃ b off, a = ⟨b, off, none⟩ ∧ At W.heap.size W ⟨b, off, none⟩ cs := by
  obtain ⟨_, l0, g0⟩ := World.cells?_some h
  have h00 := g0 0 h0
  rw [List.getElem?_eq_getElem (by omega)] at h00
  have hsp : a.spot = none := spot_none h00
  obtain ⟨b, off, spot⟩ := a
  simp only at hsp
  subst hsp
  have hc : ∀ i v, cs[i]? = some v → W.cell? ⟨b, off + i, none⟩ = some v := by
    intro i v hv
    have hi : i < sz := by have := (List.getElem?_eq_some_iff.1 hv).1; omega
    have := g0 i hi
    rw [Addr.add_lit, hv] at this
    exact this
  have hlt : b < W.heap.size := cell_lt (hc 0 _ (List.getElem?_eq_getElem (by omega)))
  exact ⟨b, off, rfl, rfl, hlt, hlt, hc⟩
/-- A slice of structs. -/
theorem open_list {α : Type} (inh : Inhabited α) (sz : Nat) (h0 : 0 < sz) {t e : TypeId} (ht : Tryz.prog.underlying t = some (.slice e)) (hc : Tryz.prog.cellsOf e = sz) (Rd : List Value → α → Prop) (Ok : α → Prop)
    (ih : ∀ {n : Nat} {cs : List Value} {x : DataW H × List MemPlace}, DataW.trod enc Tryz.prog W 0 (fun _ => true) true n e cs = some x → Lite x.1 e → Slim x.1 → ∃ s, Rd cs s ∧ Ok s)
    {fuel : Nat} {cs : List Value} {x : DataW H × List MemPlace} (h : DataW.trod enc Tryz.prog W 0 (fun _ => true) true fuel t cs = some x) (hz : Lite x.1 t) (hs : Slim x.1) :
    ∃ A l c, cs = [.slice A (l : List α).length c] ∧ (∀ a ∈ l, Ok a) ∧ ∀ (j : Nat) (s : α), l[j]? = some s → ∃ b off cs', A = some ⟨b, off, none⟩ ∧ At W.heap.size W ⟨b, off + j * sz, none⟩ cs' ∧ Rd cs' s := by
  rcases DataW.trod_slice ht h with ⟨hcs, hx⟩ | ⟨a, len, cap, elems, rest, m, hm, hcs, rfl, hb, hl, hcm, hlen, hel, _, _⟩
  · exact ⟨none, [], 0, hcs, by simp, by simp⟩
  · have each : ∀ i, i < len → ∃ s : α, ∃ cs', W.cells? 0 (a.add (i * sz)) sz = some cs' ∧ Rd cs' s ∧ Ok s := by
      intro i hi
      have hk := hel i hi
      rw [hc, List.getElem?_eq_getElem (by omega)] at hk
      obtain ⟨cs', h1, h2⟩ := Option.bind_eq_some_iff.1 hk
      obtain ⟨s, r1, r2⟩ := ih h2 (lite_elem ht hz (List.mem_map.2 ⟨_, List.getElem_mem (by omega), rfl⟩)) (slim_elem hs (List.mem_map.2 ⟨_, List.getElem_mem (by omega), rfl⟩))
      exact ⟨s, cs', h1, r1, r2⟩
    obtain ⟨f, hf⟩ := choose_lt each
    have hlf : ((List.range len).map f).length = len := by simp
    have hat : ∀ j s, ((List.range len).map f)[j]? = some s → j < len ∧ f j = s := by
      intro j s hs
      rw [List.getElem?_map] at hs
      have hj : j < len := by
        rcases Nat.lt_or_ge j len with h | h
        · exact h
        · rw [List.getElem?_eq_none (by simpa using h)] at hs; cases hs
      rw [List.getElem?_range hj] at hs
      injection hs with hs
      exact ⟨hj, hs⟩
    refine ⟨some a, (List.range len).map f, cap, by rw [hlf]; exact hcs, fun s hs => ?_, fun j s hs => ?_⟩
    · obtain ⟨j, hj⟩ := List.getElem?_of_mem hs
      obtain ⟨hj', rfl⟩ := hat j s hj
      obtain ⟨_, _, _, ok⟩ := hf j hj'
      exact ok
    · obtain ⟨hj, rfl⟩ := hat j s hs
      obtain ⟨cs', c', rd, _⟩ := hf j hj
      obtain ⟨b, off, e1, h2⟩ := at_cells h0 c'
      have hsp : a.spot = none := by
        obtain ⟨cs0, c0', _, _⟩ := hf 0 (by omega)
        obtain ⟨b0, off0, e0, _⟩ := at_cells h0 c0'
        have : (a.add (0 * sz)).spot = none := by rw [e0]
        simpa [Addr.add] using this
      obtain ⟨b', off', spot⟩ := a
      simp only at hsp
      subst hsp
      rw [Addr.add_lit] at e1
      injection e1 with e2 e3
      subst e2
      subst e3
      exact ⟨b', off', cs', rfl, h2, rd⟩

theorem open_var {fuel : Nat} {cs : List Value} {x : DataW H × List MemPlace} (h : DataW.trod enc Tryz.prog W 0 (fun _ => true) true fuel 58 cs = some x) (hz : Lite x.1 58) (hs : Slim x.1) :
    ∃ v : Vr, (∃ p q, cs = [.string v.1, .string v.2, .int .i64 p, .int .i64 q]) ∧ v.1.size ≤ 1048576 ∧ v.2.size ≤ 1048576 := by
  obtain ⟨xs, n, hm, rfl, hl, hlen, hf⟩ := DataW.trod_struct Tryz.underlying58 h
  rw [c_var] at hl
  have hlen' : xs.length = 3 := hlen
  have get : ∀ i, i < 3 → ∃ y, xs[i]? = some y := fun i hi => ⟨xs[i]'(by omega), List.getElem?_eq_getElem (by omega)⟩
  have sl : ∀ (i : Nat) (y : DataW H × List MemPlace), xs[i]? = some y → Slim y.1 := fun i y hy => slim_part hs (List.mem_map.2 ⟨y, List.mem_of_getElem? hy, rfl⟩)
  obtain ⟨y0, g0⟩ := get 0 (by omega)
  have f0 : DataW.trod enc Tryz.prog W 0 (fun _ => true) true n 9 ((cs.drop 0).take (Tryz.prog.cellsOf 9)) = xs[0]? := hf 0 _ rfl
  rw [c_str, g0] at f0
  have L0 : Lite y0.1 9 := lite_fld Tryz.underlying58 hz (i := 0) rfl g0
  have S0 := sl 0 _ g0
  obtain ⟨y1, g1⟩ := get 1 (by omega)
  have f1 : DataW.trod enc Tryz.prog W 0 (fun _ => true) true n 9 ((cs.drop 1).take (Tryz.prog.cellsOf 9)) = xs[1]? := hf 1 _ rfl
  rw [c_str, g1] at f1
  have L1 : Lite y1.1 9 := lite_fld Tryz.underlying58 hz (i := 1) rfl g1
  have S1 := sl 1 _ g1
  obtain ⟨y2, g2⟩ := get 2 (by omega)
  have f2 : DataW.trod enc Tryz.prog W 0 (fun _ => true) true n 26 ((cs.drop 2).take (Tryz.prog.cellsOf 26)) = xs[2]? := hf 2 _ rfl
  rw [c_pos, g2] at f2
  obtain ⟨x0, e0, q0, _⟩ := DataW.trod_string Tryz.underlying9 f0
  rw [q0] at S0
  obtain ⟨x1, e1, q1, _⟩ := DataW.trod_string Tryz.underlying9 f1
  rw [q1] at S1
  obtain ⟨pa, pb, ea, eb⟩ := open_pos f2
  exact ⟨(x0, x1), ⟨pa, pb, list4 hl (take1 e0) (take1 e1) ea eb⟩, slim_str S0, slim_str S1⟩

theorem open_vars {fuel : Nat} {cs : List Value} {x : DataW H × List MemPlace} (h : DataW.trod enc Tryz.prog W 0 (fun _ => true) true fuel 23 cs = some x) (hz : Lite x.1 23) (hs : Slim x.1) :
    ∃ A l c, cs = [.slice A (l : List Vr).length c] ∧ BkV l ∧ RdV W.heap.size W A l := by
  obtain ⟨A, l, c, e, ok, rd⟩ := open_list ⟨(⟨#[]⟩, ⟨#[]⟩)⟩ 4 (by omega) Tryz.underlying23 c_var (fun cs (v : Vr) => ∃ p q, cs = [.string v.1, .string v.2, .int .i64 p, .int .i64 q]) (fun v => v.1.size ≤ 1048576 ∧ v.2.size ≤ 1048576) (fun h1 h2 h3 => open_var h1 h2 h3) h hz hs
  refine ⟨A, l, c, e, ok, fun j v hv => ?_⟩
  obtain ⟨b, off, cs', hA, ⟨_, h1, h2, h3⟩, p, q, rfl⟩ := rd j v hv
  exact ⟨b, off, p, q, hA, h1, h2, h3 0 _ rfl, h3 1 _ rfl, h3 2 _ rfl, h3 3 _ rfl⟩

theorem open_method {fuel : Nat} {cs : List Value} {x : DataW H × List MemPlace} (h : DataW.trod enc Tryz.prog W 0 (fun _ => true) true fuel 28 cs = some x) (hz : Lite x.1 28) (hs : Slim x.1) :
    ∃ m : Mt, RdM W.heap.size W cs m ∧ BkM m ∧ cs.length = 9 := by
  obtain ⟨xs, n, hm, rfl, hl, hlen, hf⟩ := DataW.trod_struct Tryz.underlying28 h
  rw [c_method] at hl
  have hlen' : xs.length = 8 := hlen
  have get : ∀ i, i < 8 → ∃ y, xs[i]? = some y := fun i hi => ⟨xs[i]'(by omega), List.getElem?_eq_getElem (by omega)⟩
  have sl : ∀ (i : Nat) (y : DataW H × List MemPlace), xs[i]? = some y → Slim y.1 := fun i y hy => slim_part hs (List.mem_map.2 ⟨y, List.mem_of_getElem? hy, rfl⟩)
  obtain ⟨y0, g0⟩ := get 0 (by omega)
  have f0 : DataW.trod enc Tryz.prog W 0 (fun _ => true) true n 9 ((cs.drop 0).take (Tryz.prog.cellsOf 9)) = xs[0]? := hf 0 _ rfl
  rw [c_str, g0] at f0
  have L0 : Lite y0.1 9 := lite_fld Tryz.underlying28 hz (i := 0) rfl g0
  have S0 := sl 0 _ g0
  obtain ⟨y1, g1⟩ := get 1 (by omega)
  have f1 : DataW.trod enc Tryz.prog W 0 (fun _ => true) true n 9 ((cs.drop 1).take (Tryz.prog.cellsOf 9)) = xs[1]? := hf 1 _ rfl
  rw [c_str, g1] at f1
  have L1 : Lite y1.1 9 := lite_fld Tryz.underlying28 hz (i := 1) rfl g1
  have S1 := sl 1 _ g1
  obtain ⟨y2, g2⟩ := get 2 (by omega)
  have f2 : DataW.trod enc Tryz.prog W 0 (fun _ => true) true n 4 ((cs.drop 2).take (Tryz.prog.cellsOf 4)) = xs[2]? := hf 2 _ rfl
  rw [c_bool, g2] at f2
  have L2 : Lite y2.1 4 := lite_fld Tryz.underlying28 hz (i := 2) rfl g2
  have S2 := sl 2 _ g2
  obtain ⟨y3, g3⟩ := get 3 (by omega)
  have f3 : DataW.trod enc Tryz.prog W 0 (fun _ => true) true n 4 ((cs.drop 3).take (Tryz.prog.cellsOf 4)) = xs[3]? := hf 3 _ rfl
  rw [c_bool, g3] at f3
  have L3 : Lite y3.1 4 := lite_fld Tryz.underlying28 hz (i := 3) rfl g3
  have S3 := sl 3 _ g3
  obtain ⟨y4, g4⟩ := get 4 (by omega)
  have f4 : DataW.trod enc Tryz.prog W 0 (fun _ => true) true n 23 ((cs.drop 4).take (Tryz.prog.cellsOf 23)) = xs[4]? := hf 4 _ rfl
  rw [c_vars, g4] at f4
  have L4 : Lite y4.1 23 := lite_fld Tryz.underlying28 hz (i := 4) rfl g4
  have S4 := sl 4 _ g4
  obtain ⟨y5, g5⟩ := get 5 (by omega)
  have f5 : DataW.trod enc Tryz.prog W 0 (fun _ => true) true n 23 ((cs.drop 5).take (Tryz.prog.cellsOf 23)) = xs[5]? := hf 5 _ rfl
  rw [c_vars, g5] at f5
  have L5 : Lite y5.1 23 := lite_fld Tryz.underlying28 hz (i := 5) rfl g5
  have S5 := sl 5 _ g5
  obtain ⟨y6, g6⟩ := get 6 (by omega)
  have f6 : DataW.trod enc Tryz.prog W 0 (fun _ => true) true n 24 ((cs.drop 6).take (Tryz.prog.cellsOf 24)) = xs[6]? := hf 6 _ rfl
  rw [c_stmts, g6] at f6
  have L6 : Lite y6.1 24 := lite_fld Tryz.underlying28 hz (i := 6) rfl g6
  have S6 := sl 6 _ g6
  obtain ⟨y7, g7⟩ := get 7 (by omega)
  have f7 : DataW.trod enc Tryz.prog W 0 (fun _ => true) true n 26 ((cs.drop 7).take (Tryz.prog.cellsOf 26)) = xs[7]? := hf 7 _ rfl
  rw [c_pos, g7] at f7
  obtain ⟨x0, e0, q0, _⟩ := DataW.trod_string Tryz.underlying9 f0
  rw [q0] at S0
  obtain ⟨x1, e1, q1, _⟩ := DataW.trod_string Tryz.underlying9 f1
  rw [q1] at S1
  obtain ⟨x2, e2, _⟩ := DataW.trod_bool Tryz.underlying4 f2
  obtain ⟨x3, e3, _⟩ := DataW.trod_bool Tryz.underlying4 f3
  obtain ⟨A4, x4, c4, e4, k4, r4⟩ := open_vars f4 L4 S4
  obtain ⟨A5, x5, c5, e5, k5, r5⟩ := open_vars f5 L5 S5
  obtain ⟨A6, x6, c6, e6, _, r6, k6⟩ := (open_both n).2 _ _ f6 L6
  obtain ⟨pa, pb, ea, eb⟩ := open_pos f7
  exact ⟨⟨x0, x1, x2, x3, x4, x5, x6⟩, ⟨A4, c4, A5, c5, A6, c6, pa, pb, list9 hl (take1 e0) (take1 e1) (take1 e2) (take1 e3) (take1 e4) (take1 e5) (take1 e6) ea eb, r4, r5, r6⟩, ⟨⟨slim_str S0, slim_str S1, k6⟩, k4, k5⟩, hl⟩

theorem open_methods {fuel : Nat} {cs : List Value} {x : DataW H × List MemPlace} (h : DataW.trod enc Tryz.prog W 0 (fun _ => true) true fuel 40 cs = some x) (hz : Lite x.1 40) (hs : Slim x.1) :
    ∃ A l c, cs = [.slice A (l : List Mt).length c] ∧ (∀ m ∈ l, BkM m) ∧ RdMs W.heap.size W A l :=
  open_list ⟨⟨⟨#[]⟩, ⟨#[]⟩, false, false, [], [], []⟩⟩ 9 (by omega) Tryz.underlying40 c_method (fun cs m => RdM W.heap.size W cs m) BkM (fun h1 h2 h3 => by
    obtain ⟨m, a, b, _⟩ := open_method h1 h2 h3
    exact ⟨m, a, b⟩) h hz hs
theorem open_init {fuel : Nat} {cs : List Value} {x : DataW H × List MemPlace} (h : DataW.trod enc Tryz.prog W 0 (fun _ => true) true fuel 41 cs = some x) (hz : Lite x.1 41) (hs : Slim x.1) :
    ∃ I o, cs = [.pointer I] ∧ (∀ m, o = some m → BkM m) ∧ RdI W.heap.size W I o := by
  rcases DataW.trod_pointer Tryz.underlying41 h with ⟨hcs, _⟩ | ⟨a, cs', y, n, _, hcs, rfl, hc, hy⟩
  · exact ⟨none, none, hcs, by simp, rfl⟩
  · rw [c_method] at hc
    obtain ⟨m, r, k, _⟩ := open_method hy (lite_ptr Tryz.underlying41 hz) (slim_ptr hs)
    obtain ⟨b, off, rfl, ha⟩ := at_cells (by omega) hc
    exact ⟨_, some m, hcs, fun m' e => by injection e with e; rw [← e]; exact k, b, off, cs', rfl, ha, r⟩

theorem open_class {fuel : Nat} {cs : List Value} {x : DataW H × List MemPlace} (h : DataW.trod enc Tryz.prog W 0 (fun _ => true) true fuel 43 cs = some x) (hz : Lite x.1 43) (hs : Slim x.1) :
    ∃ c : Cl, RdC W.heap.size W cs c ∧ BkC c := by
  obtain ⟨xs, n, hm, rfl, hl, hlen, hf⟩ := DataW.trod_struct Tryz.underlying43 h
  rw [c_class] at hl
  have hlen' : xs.length = 9 := hlen
  have get : ∀ i, i < 9 → ∃ y, xs[i]? = some y := fun i hi => ⟨xs[i]'(by omega), List.getElem?_eq_getElem (by omega)⟩
  have sl : ∀ (i : Nat) (y : DataW H × List MemPlace), xs[i]? = some y → Slim y.1 := fun i y hy => slim_part hs (List.mem_map.2 ⟨y, List.mem_of_getElem? hy, rfl⟩)
  obtain ⟨y0, g0⟩ := get 0 (by omega)
  have f0 : DataW.trod enc Tryz.prog W 0 (fun _ => true) true n 9 ((cs.drop 0).take (Tryz.prog.cellsOf 9)) = xs[0]? := hf 0 _ rfl
  rw [c_str, g0] at f0
  have L0 : Lite y0.1 9 := lite_fld Tryz.underlying43 hz (i := 0) rfl g0
  have S0 := sl 0 _ g0
  obtain ⟨y1, g1⟩ := get 1 (by omega)
  have f1 : DataW.trod enc Tryz.prog W 0 (fun _ => true) true n 9 ((cs.drop 1).take (Tryz.prog.cellsOf 9)) = xs[1]? := hf 1 _ rfl
  rw [c_str, g1] at f1
  have L1 : Lite y1.1 9 := lite_fld Tryz.underlying43 hz (i := 1) rfl g1
  have S1 := sl 1 _ g1
  obtain ⟨y2, g2⟩ := get 2 (by omega)
  have f2 : DataW.trod enc Tryz.prog W 0 (fun _ => true) true n 4 ((cs.drop 2).take (Tryz.prog.cellsOf 4)) = xs[2]? := hf 2 _ rfl
  rw [c_bool, g2] at f2
  have L2 : Lite y2.1 4 := lite_fld Tryz.underlying43 hz (i := 2) rfl g2
  have S2 := sl 2 _ g2
  obtain ⟨y3, g3⟩ := get 3 (by omega)
  have f3 : DataW.trod enc Tryz.prog W 0 (fun _ => true) true n 36 ((cs.drop 3).take (Tryz.prog.cellsOf 36)) = xs[3]? := hf 3 _ rfl
  rw [c_strs, g3] at f3
  have L3 : Lite y3.1 36 := lite_fld Tryz.underlying43 hz (i := 3) rfl g3
  have S3 := sl 3 _ g3
  obtain ⟨y4, g4⟩ := get 4 (by omega)
  have f4 : DataW.trod enc Tryz.prog W 0 (fun _ => true) true n 23 ((cs.drop 4).take (Tryz.prog.cellsOf 23)) = xs[4]? := hf 4 _ rfl
  rw [c_vars, g4] at f4
  have L4 : Lite y4.1 23 := lite_fld Tryz.underlying43 hz (i := 4) rfl g4
  have S4 := sl 4 _ g4
  obtain ⟨y5, g5⟩ := get 5 (by omega)
  have f5 : DataW.trod enc Tryz.prog W 0 (fun _ => true) true n 23 ((cs.drop 5).take (Tryz.prog.cellsOf 23)) = xs[5]? := hf 5 _ rfl
  rw [c_vars, g5] at f5
  have L5 : Lite y5.1 23 := lite_fld Tryz.underlying43 hz (i := 5) rfl g5
  have S5 := sl 5 _ g5
  obtain ⟨y6, g6⟩ := get 6 (by omega)
  have f6 : DataW.trod enc Tryz.prog W 0 (fun _ => true) true n 40 ((cs.drop 6).take (Tryz.prog.cellsOf 40)) = xs[6]? := hf 6 _ rfl
  rw [c_methods, g6] at f6
  have L6 : Lite y6.1 40 := lite_fld Tryz.underlying43 hz (i := 6) rfl g6
  have S6 := sl 6 _ g6
  obtain ⟨y7, g7⟩ := get 7 (by omega)
  have f7 : DataW.trod enc Tryz.prog W 0 (fun _ => true) true n 41 ((cs.drop 7).take (Tryz.prog.cellsOf 41)) = xs[7]? := hf 7 _ rfl
  rw [c_pMethod, g7] at f7
  have L7 : Lite y7.1 41 := lite_fld Tryz.underlying43 hz (i := 7) rfl g7
  have S7 := sl 7 _ g7
  obtain ⟨y8, g8⟩ := get 8 (by omega)
  have f8 : DataW.trod enc Tryz.prog W 0 (fun _ => true) true n 26 ((cs.drop 8).take (Tryz.prog.cellsOf 26)) = xs[8]? := hf 8 _ rfl
  rw [c_pos, g8] at f8
  obtain ⟨x0, e0, q0, _⟩ := DataW.trod_string Tryz.underlying9 f0
  rw [q0] at S0
  obtain ⟨x1, e1, q1, _⟩ := DataW.trod_string Tryz.underlying9 f1
  rw [q1] at S1
  obtain ⟨x2, e2, _⟩ := DataW.trod_bool Tryz.underlying4 f2
  obtain ⟨A3, x3, c3, e3, j3, r3, b3, k3⟩ := open_faces f3 S3
  obtain ⟨A4, x4, c4, e4, k4, r4⟩ := open_vars f4 L4 S4
  obtain ⟨A5, x5, c5, e5, k5, r5⟩ := open_vars f5 L5 S5
  obtain ⟨A6, x6, c6, e6, k6, r6⟩ := open_methods f6 L6 S6
  obtain ⟨A7, x7, e7, k7, r7⟩ := open_init f7 L7 S7
  obtain ⟨pa, pb, ea, eb⟩ := open_pos f8
  exact ⟨⟨x0, x1, x2, x3, x4, x5, x6, x7⟩, ⟨A3, c3, A4, c4, A5, c5, A6, c6, A7, pa, pb, list10 hl (take1 e0) (take1 e1) (take1 e2) (take1 e3) (take1 e4) (take1 e5) (take1 e6) (take1 e7) ea eb, j3, r3, b3, r4, r5, r6, r7⟩, ⟨slim_str S0, slim_str S1, k3, k4, k5, k6, k7⟩⟩

theorem open_classes {fuel : Nat} {cs : List Value} {x : DataW H × List MemPlace} (h : DataW.trod enc Tryz.prog W 0 (fun _ => true) true fuel 22 cs = some x) (hz : Lite x.1 22) (hs : Slim x.1) :
    ∃ A l c, cs = [.slice A (l : List Cl).length c] ∧ (∀ c ∈ l, BkC c) ∧ RdCs W.heap.size W A l :=
  open_list ⟨⟨⟨#[]⟩, ⟨#[]⟩, false, [], [], [], [], none⟩⟩ 10 (by omega) Tryz.underlying22 c_class (fun cs c => RdC W.heap.size W cs c) BkC (fun h1 h2 h3 => open_class h1 h2 h3) h hz hs

theorem open_program {fuel : Nat} {cs : List Value} {x : DataW H × List MemPlace} (h : DataW.trod enc Tryz.prog W 0 (fun _ => true) true fuel 30 cs = some x) (hz : Lite x.1 30) (hs : Slim x.1) :
    ∃ p : Pr, RdP W.heap.size W cs p ∧ BkP p := by
  obtain ⟨xs, n, hm, rfl, hl, hlen, hf⟩ := DataW.trod_struct Tryz.underlying30 h
  rw [c_program] at hl
  have hlen' : xs.length = 2 := hlen
  have get : ∀ i, i < 2 → ∃ y, xs[i]? = some y := fun i hi => ⟨xs[i]'(by omega), List.getElem?_eq_getElem (by omega)⟩
  have sl : ∀ (i : Nat) (y : DataW H × List MemPlace), xs[i]? = some y → Slim y.1 := fun i y hy => slim_part hs (List.mem_map.2 ⟨y, List.mem_of_getElem? hy, rfl⟩)
  obtain ⟨y0, g0⟩ := get 0 (by omega)
  have f0 : DataW.trod enc Tryz.prog W 0 (fun _ => true) true n 22 ((cs.drop 0).take (Tryz.prog.cellsOf 22)) = xs[0]? := hf 0 _ rfl
  rw [c_classes, g0] at f0
  have L0 : Lite y0.1 22 := lite_fld Tryz.underlying30 hz (i := 0) rfl g0
  have S0 := sl 0 _ g0
  obtain ⟨y1, g1⟩ := get 1 (by omega)
  have f1 : DataW.trod enc Tryz.prog W 0 (fun _ => true) true n 28 ((cs.drop 1).take (Tryz.prog.cellsOf 28)) = xs[1]? := hf 1 _ rfl
  rw [c_method, g1] at f1
  have L1 : Lite y1.1 28 := lite_fld Tryz.underlying30 hz (i := 1) rfl g1
  have S1 := sl 1 _ g1
  obtain ⟨A0, x0, c0, e0, k0, r0⟩ := open_classes f0 L0 S0
  obtain ⟨x1, r1, k1, _⟩ := open_method f1 L1 S1
  refine ⟨⟨x0, x1⟩, ⟨A0, c0, (cs.drop 1).take 9, ?_, r0, r1⟩, ⟨k0, k1⟩⟩
  exact head10 hl (take1 e0)

end
end Go.Proofs.YtoekaehpcjhhaaaGreatDoor

/- What the laws' rows share: the listed tables read off their condition. -/
set_option linter.unusedSimpArgs false
set_option linter.unusedVariables false
namespace Go.Proofs.YtoekaehpcjhhaaaGreatDoor
open Go.ChangeShapes Go.WideShapes Go.ChangeAt Go.RowKit

theorem door_own : ownKnob Tryz.prog.godebug = none := by kernel_rfl
theorem door_laidOut : laidOutB Tryz.prog = true := by kernel_rfl
def laidA : List (String × DataW Unit) := Rows.showProgramsRow.laid
theorem pow_ty : (Tryz.prog.globals[3]?).map (·.type) = some 147 := by kernel_rfl
theorem c_u64 : Tryz.prog.cellsOf 115 = 1 := by kernel_rfl
theorem c_pow : Tryz.prog.cellsOf 147 = 20 := by kernel_rfl
theorem pow_data : (Rows.laid_internal_strconv_uint64pow10 : DataW Unit) = Lib.tabData .u64 Lib.pow10Tab := by kernel_rfl

theorem pow_of {W : World} {fuel : Nat} {cs : Array Value} {p : List MemPlace} {enc : TypeId × Value → Unit} {sp : Nat → Bool} {held : Bool} (hv : W.var? Tryz.prog (Rows.showProgramsRow.named.headD default) = some cs)
    (hd : DataW.trod enc Tryz.prog W 0 sp held fuel 147 cs.toList = some (Rows.laid_internal_strconv_uint64pow10, p)) : Pow W ∧ 3 < W.heap.size := by
  rw [pow_data] at hd
  have h1 := Lib.cells_of_tab Tryz.underlying147 Tryz.underlying115 c_u64 c_pow hd
  have hp : Pow W := by
    unfold Pow Lib.TabIs
    rw [hv, ← h1]
  refine ⟨hp, ?_⟩
  have hc := Lib.TabIs.cell hp pow_g 0 (by decide)
  exact cell_lt hc

theorem of_laidA {W : World} (h : laidMetH Tryz.prog laidA W) : Pow W ∧ 3 < W.heap.size := by
  rw [MakeChecks.laidMetH_plain _ _ _ (by kernel_rfl)] at h
  obtain ⟨ps, ⟨g0, t0, cs0, fuel0, p0, q0, hg0, ht0, hv0, hd0, ⟨g1, t1, cs1, fuel1, p1, q1, hg1, ht1, hv1, hd1, ⟨g, t, cs, fuel, p, q, hg, ht, hv, hd, _, _⟩, _⟩, _⟩, _, _⟩ := h
  obtain rfl := Option.some.inj (pow_g.symm.trans hg)
  obtain rfl := Option.some.inj (pow_ty.symm.trans ht)
  exact pow_of hv hd
end Go.Proofs.YtoekaehpcjhhaaaGreatDoor

/- ShowPrograms's card, second form: for any two programs of at most the given bulk the law returns true and what came in reads behind the call as it read before, on the condition that the listed tables read as the program's text lays them (tied by the card). -/
set_option linter.unusedSimpArgs false
set_option linter.unusedVariables false
namespace Go.Proofs.YtoekaehpcjhhaaaGreatDoor
open Go.ChangeShapes Go.WideShapes Go.ChangeAt Go.RowKit Go.ChangeMaps

def laidU : List (String × DataW Unit) := Rows.showProgramsUptoRow.laid
theorem laid_same : laidU = laidA := rfl
theorem max_cell {W : World} (h : W.ShapedOpen Tryz.prog) : ∃ m, W.cell? ⟨0, 0, none⟩ = some (.int .i64 m) :=
  cell_of_shapedOpen_int (zero := #[.int .i64 0]) (t := 3) h (of_decide_eq_true (by kernel_rfl)) (by kernel_rfl) rfl (by kernel_rfl) (by kernel_rfl) Tryz.underlying3

set_option maxRecDepth 100000 in
theorem programs_contract (H : Type) (enc : TypeId × Value → H) (W : World) (base : Nat) (args : Array Value) (ds gs : List (DataW H)) (before : List MemPlace)
    (hval0 : ∀ (j : Nat) t v, Tryz.f3.params[j]? = some t → args[j]? = some v → Value.okWide Tryz.prog W .any base t v)
    (hW : DataW.Whole enc Tryz.prog Tryz.f3.params.toList Rows.showProgramsSpec.vars false W args.toList ds gs before)
    (hk : Rows.uptoSmall H (ds ++ gs) = true)
    (hz0 : (DataW.weightsEach Tryz.prog (Tryz.f3.params.toList ++ Rows.showProgramsSpec.plain.varTypes Tryz.prog) (ds ++ gs)).all (· ≤ reachBytes) = true)
    (hL : laidMetH Tryz.prog laidA W) (hsh : W.ShapedOpen Tryz.prog) :
    Calls Tryz.prog 3 args W fun e W' => ∃ v, e = .returned v ∧ Rows.showProgramsSpec.post enc Tryz.prog Tryz.f3 false true false false W args v W' := by
  have hval : ∀ (j : Nat) t v, Tryz.f3.params[j]? = some t → args[j]? = some v → Value.okWide Tryz.prog W .any base t v := hval0
  have hW' := hW
  obtain ⟨p, q, hA0, hV, rfl, hfz, hnd⟩ := hW
  have hA : DataW.TrodAll enc Tryz.prog W 0 (fun _ => true) true Tryz.f3.params.toList args.toList ds p := hA0
  have hz : (DataW.weightsEach Tryz.prog (Tryz.f3.params.toList ++ Rows.showProgramsSpec.plain.varTypes Tryz.prog) (ds ++ gs)).all (· ≤ reachBytes) = true := hz0
  rw [Tryz.params3] at hA hval hz
  obtain ⟨v0, v1, d0, d1, p0, p1, rfl, rfl, rfl, h0, h1⟩ := trodAll_two hA
  obtain ⟨rfl, rfl⟩ := trodVars_none hV
  obtain ⟨hP, hg⟩ := of_laidA hL
  obtain ⟨m, hm⟩ := max_cell hsh
  have hb0 : Rows.uptoBulkAll ([d0, d1] ++ []) ≤ 1048576 := of_decide_eq_true hk
  have hS0 : Slim d0 := Nat.le_trans (bulk_part (by simp)) hb0
  have hS1 : Slim d1 := Nat.le_trans (bulk_part (by simp)) hb0
  have hLite0 : Lite d0 30 := fun k hk => of_decide_eq_true (List.all_eq_true.1 hz k (DataW.weights_mem_each (ts := [30, 30] ++ Rows.showProgramsSpec.plain.varTypes Tryz.prog) (j := 0) rfl rfl k hk))
  have hLite1 : Lite d1 30 := fun k hk => of_decide_eq_true (List.all_eq_true.1 hz k (DataW.weights_mem_each (ts := [30, 30] ++ Rows.showProgramsSpec.plain.varTypes Tryz.prog) (j := 1) rfl rfl k hk))
  obtain ⟨a0, rfl, _⟩ := okWide_struct Tryz.underlying30 (hval 0 30 v0 rfl rfl)
  obtain ⟨a1, rfl, _⟩ := okWide_struct Tryz.underlying30 (hval 1 30 v1 rfl rfl)
  have h0' := h0
  have h1' := h1
  obtain ⟨fuel0, hf0⟩ := h0
  obtain ⟨fuel1, hf1⟩ := h1
  obtain ⟨P0, r0, o0⟩ := open_program hf0 hLite0 hS0
  obtain ⟨P1, r1, o1⟩ := open_program hf1 hLite1 hS1
  simp only [Value.cells] at r0 r1
  clear hA0 hval0
  simp only [List.append_nil] at hW'
  have hlt0 : ∀ y ∈ p0, y.block < W.heap.size := fun y hy => by simpa using hW'.lt y (by simp [hy])
  have hlt1 : ∀ y ∈ p1, y.block < W.heap.size := fun y hy => by simpa using hW'.lt y (by simp [hy])
  have key := programs_law a0.toList a1.toList P0 P1 m W r0 r1 o0 o1 ⟨Nat.le_refl _, hg, hP⟩ hm
  rw [Array.toArray_toList, Array.toArray_toList] at key
  refine key.mono fun e W' ⟨he, hw⟩ => ?_
  subst he
  have hb := hw.to_below
  refine ⟨_, rfl, _, _, _, [], p0 ++ p1, [], by simpa using hW', ?_, ?_, ?_, hb.frame _, fun h => by cases h⟩
  · exact trodAll_mk1 (shut_bool Tryz.underlying4 true)
  · exact trodAll_mk2 (Below.trod door_laidOut (by kernel_rfl) (of_decide_eq_true (by kernel_rfl)) h0' hb hlt0) (Below.trod door_laidOut (by kernel_rfl) (of_decide_eq_true (by kernel_rfl)) h1' hb hlt1)
  · rfl

/-- A program with nothing in it: the witness. -/
def none1 : Value := .agg #[.slice none 0 0, .string ⟨#[]⟩, .string ⟨#[]⟩, .bool false, .bool false, .slice none 0 0, .slice none 0 0, .slice none 0 0, .int .i64 0, .int .i64 0]
def none2 (H : Type) : DataW H := .agg [.nil, .agg [.lit (.string []), .lit (.string []), .lit (.bool false), .lit (.bool false), .nil, .nil, .nil, .agg [.lit (.int .i64 0), .lit (.int .i64 0)]]]
theorem none_reads (os : Os) {H : Type} (enc : TypeId × Value → H) : ∃ places, DataW.whole enc Tryz.prog ((World.laidAll Tryz.prog os laidA).forCall (fun _ _ => 0) ⟨#[], #[none1, none1], []⟩).memory Tryz.f3.params.toList Rows.showProgramsSpec.vars false #[none1, none1].toList 8 = some ([none2 H, none2 H], [], places) :=
  ⟨[], by kernel_rfl⟩

set_option maxRecDepth 100000 in
theorem showPrograms_lifted (os : Os) (started : os.Started) (H : Type) (enc : TypeId × Value → H) (F : Stop.Interp) :
    ReturnsInHanded {} Tryz.checked os 3 .any ((Rows.OpenSpec.upto Rows.showProgramsSpec).preRow enc Tryz.prog Tryz.f3 Rows.showProgramsUptoRow.domain false Rows.showProgramsUptoRow.laid) (((Rows.OpenSpec.upto Rows.showProgramsSpec).at F).post enc Tryz.prog Tryz.f3 false true false false) := by
  obtain ⟨places, hx⟩ := none_reads os enc
  have hok : Input.okWideB Tryz.checked.prog ((World.laidAll Tryz.prog os laidA).forCall (fun _ _ => 0) ⟨#[], #[none1, none1], []⟩) 3 ⟨#[], #[none1, none1], []⟩ = true := by kernel_rfl
  refine returnsInHanded_of_row (C := Tryz.checked) (s := Rows.OpenSpec.upto Rows.showProgramsSpec) door_own started (by kernel_rfl) Tryz.func3
    ⟨World.laidAll Tryz.prog os laidA, fun _ _ => 0, ⟨#[], #[none1, none1], []⟩, World.laidAll_os _ _ _, World.shaped_of_ZipB (by kernel_rfl) (by kernel_rfl), (Input.okWide_of_okWideB (base := 0) hok).1, (Input.okWide_of_okWideB hok).2,
      OpenSpec.preRow_of_cond 8 hx (by kernel_rfl) (fun k hk => by cases hk; kernel_rfl) (by kernel_rfl) (by rw [MakeChecks.laidMetH_plain _ _ _ (by kernel_rfl)]; exact laidMet_laidAll (laid := laidA) _ (by kernel_rfl) (by kernel_rfl)), by
        simp only [Assume.holds]
        exact ⟨by simp, by simp, by simp, by simp, by simp⟩⟩ ?_
  intro W base args ds gs before hval hW _ hcond hz hL hsh _
  exact programs_contract H enc W base args ds gs before hval hW (hcond _ rfl) hz hL hsh

theorem showPrograms_holds : Rows.ShowProgramsUptoSaid :=
  OpenClaim.holds_of_cond 3 Tryz.f3 rfl rfl rfl rfl rfl rfl rfl ⟨rfl, rfl, rfl, rfl, rfl⟩ rfl rfl rfl rfl rfl (by kernel_rfl) Tryz.func3 (by kernel_rfl)
    (of_decide_eq_true (by kernel_rfl)) (by unfold Func.isWrapper; first | (rw [if_pos (by decide +kernel)]; kernel_rfl) | (rw [if_neg (by decide +kernel)]; exact ⟨rfl, rfl⟩))
    (fun os started H enc _ F => by rw [OpenClaim.pre_eq_preRow]; exact showPrograms_lifted os started H enc F)

theorem showPrograms_card : Rows.ShowProgramsUptoCardSaid :=
  Claim7.holds_tied_plain_at .later [] [.data, .data, .data, .data, .pinned] true (true, "eba3c5ac5a564c8b3f00f8f02e0c6cf9c3c55572b859df7be685dd12d81795c3") false
    showPrograms_holds (fun _ h => by cases h) (by kernel_rfl) (fun _ h => by cases h) showProgramsUpto_row_tie rfl ⟨rfl, rfl⟩ (by kernel_rfl) rfl
    (fun f fn hf hfn => by
      obtain rfl : f = 3 := Option.some.inj ((show Tryz.prog.funcNamed Rows.showProgramsUptoRow.func = some 3 by kernel_rfl).symm.trans hf) |>.symm
      obtain rfl : fn = Tryz.f3 := (Option.some.inj (Tryz.func3.symm.trans hfn)).symm
      exact ⟨by kernel_rfl, fun j t ht => by
        rw [Tryz.params3] at ht
        have hm : t ∈ [30, 30] := by simpa using Array.mem_of_getElem? ht
        have hall : ([30, 30].all fun u => !Tryz.prog.wantsStandIn u) = true := by kernel_rfl
        exact (show Tryz.prog.wantsStandIn t = false by simpa using List.all_eq_true.1 hall t hm)⟩)
    (by kernel_rfl)
end Go.Proofs.YtoekaehpcjhhaaaGreatDoor
