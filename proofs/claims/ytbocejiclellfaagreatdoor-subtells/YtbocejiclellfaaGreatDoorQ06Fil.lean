/- fill. -/
import Derived.Test.YtbocejiclellfaaGreatDoorQ04Eof
import Derived.Test.YtbocejiclellfaaGreatDoorQ02Tbl

set_option linter.unusedSimpArgs false
set_option linter.unusedVariables false
set_option maxRecDepth 100000
namespace Go.Proofs.YtbocejiclellfaaGreatDoor
open Go.RowKit

/-- What the table tells of a class. -/
def enOf (l : List K8) (c : K8) : En := match entR8 l c with
  | some (s, rt) => ⟨c.nm, c.face, s, rt.map Int.toNat⟩
  | none => en0
/-- Is it right by names, and the first of its name? -/
def okK (l : List K8) (k : Nat) (c : K8) : Bool := (entR8 l c).isSome && decide (fstF l l.length c.nm = some k)
def filK (l : List K8) : List K8 → Nat → Option Nat
  | [], _ => none
  | c :: cs, k => if okK l k c = true then filK l cs (k + 1) else some k
/-- What fill answers. -/
def filI (l : List K8) : Int := match filK l l 0 with
  | some k => (k : Int)
  | none => -1

theorem facR_nat {l : List K8} : ∀ {ss : List ByteArray} {st rt rt' : List Int}, facR l ss st rt = some rt' → (∀ i ∈ rt, ∃ j : Nat, i = (j : Int) ∧ j < l.length) → (∀ i ∈ rt', ∃ j : Nat, i = (j : Int) ∧ j < l.length) ∧ rt'.length = rt.length + ss.length
  | [], st, rt, rt', h, hr => by
    simp [facR] at h
    subst h
    exact ⟨hr, by simp⟩
  | s :: ss, st, rt, rt', h, hr => by
    unfold facR at h
    split at h
    · rename_i hc
      have h2 := facR_nat h (fun i hi => by
        rcases List.mem_append.1 hi with h1 | h1
        · exact hr i h1
        · simp at h1
          subst h1
          exact fndR_lt hc.1)
      refine ⟨h2.1, ?_⟩
      rw [h2.2]
      simp
      omega
    · cases h
theorem entR8_nat {l : List K8} {c : K8} {s : Int} {rt : List Int} (h : entR8 l c = some (s, rt)) : (∀ i ∈ rt, ∃ j : Nat, i = (j : Int) ∧ j < l.length) ∧ rt.length ≤ 1 + c.fcs.length := by
  unfold entR8 at h
  split at h
  · cases hf : facR l c.fcs [] [] with
    | none => rw [hf] at h; cases h
    | some x =>
      rw [hf] at h
      simp at h
      have := facR_nat hf (by simp)
      rw [h.2] at this
      exact ⟨this.1, by rw [this.2]; simp⟩
  · split at h
    · rename_i hc
      cases hf : facR l c.fcs [] [(fndR l c.sup false).1] with
      | none => rw [hf] at h; cases h
      | some x =>
        rw [hf] at h
        simp at h
        have := facR_nat hf (by
          intro i hi
          simp at hi
          subst hi
          exact fndR_lt hc)
        rw [h.2] at this
        exact ⟨this.1, by rw [this.2]; simp⟩
    · cases h

theorem rdn_of_own {w : World} {r : Nat} {V : Value} {l : List Int} (h : OwnI w r V l) (hn : ∀ i ∈ l, ∃ j : Nat, i = (j : Int)) : RdV 1 RdN (fun g => r ≤ g ∧ V.ownBlock = some g) w V (l.map Int.toNat) := by
  have h' := h
  rcases h'.2 with ⟨e, h0⟩ | ⟨g, cap, cur, e, hb, hg, hnc, _, _, ht⟩
  · have e' : V = .slice none 0 0 := e
    subst e'
    have h0' : l.length = 0 := h0
    rw [List.eq_nil_of_length_eq_zero h0']
    exact RdV.nil _ _ _
  · have e' : V = .slice (some ⟨g, 0, none⟩) l.length cap := e
    subst e'
    refine ⟨_, cap, by rw [List.length_map], by rw [List.length_map]; exact hnc, .inr ⟨g, rfl, ⟨hb, rfl⟩, (Array.getElem?_eq_some_iff.1 hg).1, fun i x hx => ?_⟩⟩
    rw [List.getElem?_map] at hx
    cases hli : l[i]? with
    | none => rw [hli] at hx; cases hx
    | some y =>
      rw [hli] at hx
      simp at hx
      obtain ⟨j, hj⟩ := hn y (List.mem_of_getElem? hli)
      refine ⟨[.int .i64 y], fun k u hk => ?_, ?_⟩
      · have hk0 : k = 0 := by have := (List.getElem?_eq_some_iff.1 hk).1; simp at this; omega
        subst hk0
        simp at hk
        subst hk
        rw [Nat.mul_one, Nat.add_zero]
        obtain ⟨A, c, e2, hi, _⟩ := OwnI.form h
        injection e2 with e2
        subst e2
        obtain ⟨b, off, e3, hc⟩ := hi i y hli
        injection e3 with e3
        injection e3 with e3 e4
        subst e3 e4
        rw [Nat.zero_add] at hc
        exact hc.2
      · unfold RdN
        rw [← hx, hj]
        simp
theorem entry_info : (Tryz.prog.info? 100).map (fun i => (i.zero, i.size, i.bytes)) = some (some (.agg #[.string ⟨#[]⟩, .bool false, .int .i64 0, .slice none 0 0]), 4, 56) := by kernel_rfl
theorem make_entries (n : Nat) (hn : n ≤ 1000000) (W : World) : (Instr.makeSlice 80 (.int .i64 0) (.int .i64 (n : Int))).run Tryz.prog W = .ok (.slice (some ⟨W.heap.size, 0, none⟩) 0 n) (W.alloc (.cells (madeCells #[.string ⟨#[]⟩, .bool false, .int .i64 0, .slice none 0 0] (n * 4)) 100)) := by
  obtain ⟨i0, hi0, hz0, hz1, hz2⟩ := info_parts entry_info
  have := run_make (P := Tryz.prog) W 80 100 i0 _ Tryz.underlying80 hi0 hz0 .i64 .i64 0 (n : Int) (by omega) (by omega) (by rw [hz2]; omega) (by omega)
  rw [hz1] at this
  simp at this
  exact this
theorem ob_some {b n c g : Nat} (h : (Value.slice (some ⟨b, 0, none⟩) n c).ownBlock = some g) : b = g := by injection h
/-- How it stands in fill's loop: k classes are done. -/
def Fr (l : List K8) (t m r : Nat) (W0 wr : World) (k : Nat) : Prop :=
  ∃ V, wr.heap[t]? = some (.cells #[.map (some m), V] 82 (0, 0)) ∧ OwnL 100 4 RdE (fun g => r ≤ g) wr V ((l.take k).map (enOf l)) ∧ filK l l 0 = filK l (l.drop k) k ∧ Turn [t] W0 wr

set_option maxHeartbeats 12800000 in
theorem fill_any (A : Option Addr) (c B : Nat) (l : List K8) (t m s : Nat) (w : World) (hb : w.heap[t]? = some (.cells #[.map (some m), .slice none 0 0] 82 (0, 0))) (hM : MapS w m s (fstF l l.length)) (hmt : m ≠ t) (hr : RdKs B w A l) (hB : B ≤ t) (hl : l.length ≤ 1000)
    (hz : ∀ k ∈ l, k.nm.size ≤ 281474976710656 ∧ k.sup.size ≤ 281474976710656 ∧ (∀ s ∈ k.fcs, s.size ≤ 281474976710656) ∧ k.fcs.length ≤ 1000) :
    Calls Tryz.prog 35 #[.pointer (some ⟨t, 0, none⟩), .slice A l.length c] w fun e w' => e = .returned (.int .i64 (filI l)) ∧ Turn [t] w w' ∧
      (filK l l 0 = none → ∃ V, w'.heap[t]? = some (.cells #[.map (some m), V] 82 (0, 0)) ∧ OwnL 100 4 RdE (fun g => w.heap.size ≤ g) w' V (l.map (enOf l))) := by
  have hmk := make_entries
  obtain ⟨n, hn⟩ : ∃ n, l.length = n := ⟨_, rfl⟩
  obtain ⟨r, hrr⟩ : ∃ r, w.heap.size = r := ⟨_, rfl⟩
  have htl : t < r := by rw [← hrr]; exact (Array.getElem?_eq_some_iff.1 hb).1
  have hml : m < r := by rw [← hrr]; exact hM.lt
  obtain ⟨W0, hW0⟩ : ∃ W, (w.alloc (.cells #[.pointer (some ⟨t, 0, none⟩)] 60)).alloc (.cells #[.slice A n c] 22) = W := ⟨_, rfl⟩
  have t0 : Turn [] w W0 := by rw [← hW0]; exact ((Turn.refl [] w).alloc _).alloc _
  have s0 : W0.heap.size = r + 2 := by rw [← hW0, ← hrr]; simp
  have b0 : W0.heap[r]? = some (.cells #[.pointer (some ⟨t, 0, none⟩)] 60 (0, 0)) := by rw [← hW0, ← hrr]; exact ((Turn.refl [] _).alloc _).heap (heap_alloc_new w _) (by simp)
  have b1 : W0.heap[r + 1]? = some (.cells #[.slice A n c] 22 (0, 0)) := by
    rw [← hW0, ← hrr]
    have := heap_alloc_new (w.alloc (.cells #[.pointer (some ⟨t, 0, none⟩)] 60)) (.cells #[.slice A n c] 22)
    rwa [World.size_alloc] at this
  have bt := t0.heap hb (by simp)
  have HW0 := Lib.hid hW0
  have HT0 := Lib.hid t0
  have HS0 := Lib.hid s0
  have HB0 := Lib.hid (And.intro b0 b1)
  have HBT := Lib.hid bt
  have HM := Lib.hid hM
  have HR := Lib.hid hr
  have HN := Lib.hid hn
  have HRR := Lib.hid hrr
  have HZ := Lib.hid hz
  have HIN := Lib.hid (And.intro htl (And.intro hml (And.intro hB hmt)))
  have x0 : W0.cell? ⟨r, 0, none⟩ = some (.pointer (some ⟨t, 0, none⟩)) := cell_of_row W0 r 0 _ _ _ b0
  have x1 : W0.cell? ⟨r + 1, 0, none⟩ = some (.slice A n c) := cell_of_row W0 (r + 1) 0 _ _ _ b1
  have y1 : W0.cell? ⟨t, 1, none⟩ = some (.slice none 0 0) := cell_of_row W0 t 1 _ _ _ bt
  have y1f : W0.frozen? ⟨t, 1, none⟩ = false := frozen_of_row W0 t 1 _ _ bt
  rw [hn] at hl ⊢
  have hl2 : n ≤ 1000000 := by omega
  have hne1 := World.new_ne W0 ⟨t, 1, none⟩ y1
  have hmk2 := fun W => make_entries n hl2 W
  clear hb hM hmt hr hB hz htl hml t0 s0 b0 b1 bt hW0 hn hrr hmk
  go_enter Tryz.func35, Tryz.ntmps35
  go_upto_region 2 with fail
  rw [HRR.out, HW0.out]
  have S0 : W0.heap.size = r + 2 := HS0.out
  obtain ⟨mc, hmc⟩ : ∃ mc, madeCells #[.string ⟨#[]⟩, .bool false, .int .i64 0, .slice none 0 0] (n * 4) = mc := ⟨_, rfl⟩
  have HMC := Lib.hid hmc
  rw [hmc] at hmk2
  clear hmc
  have zb := ((Turn.refl [] W0).alloc (.cells mc 100)).heap HBT.out (by simp)
  have zc : (W0.alloc (.cells mc 100)).cell? ⟨t, 1, none⟩ = some (.slice none 0 0) := cell_of_row _ t 1 _ _ _ zb
  have zf : (W0.alloc (.cells mc 100)).frozen? ⟨t, 1, none⟩ = false := frozen_of_row _ t 1 _ _ zb
  clear zb
  go_region
  obtain ⟨W2, hW2⟩ : ∃ W, ((W0.alloc (.cells mc 100)).setCell ⟨t, 1, none⟩ (.slice (some ⟨r + 2, 0, none⟩) 0 n)).drew = W := ⟨_, rfl⟩
  have t2 : Turn [t] W0 W2 := by rw [← hW2]; exact (((Turn.refl [t] W0).alloc _).setCell (.inl (by simp)) _).drew
  have hst : Fr l t m (r + 2) W0 W2 0 := by
    have hal := (Turn.refl [] W0).alloc (.cells mc 100)
    have h1 := Go.heap_setCell_same _ t 1 _ _ (.slice (some ⟨r + 2, 0, none⟩) 0 n) (hal.heap HBT.out (by simp))
    refine ⟨_, by rw [← hW2]; exact h1, ?_, by simp, t2⟩
    refine ⟨[], by simp, ?_, ?_, by simp⟩
    · have ho : (W0.alloc (.cells mc 100)).ownsRow 0 100 4 (.slice (some ⟨W0.heap.size, 0, none⟩) 0 n) 0 [] := World.ownsRow_made W0 mc n (Nat.zero_le _) (by simp only [maxLen]; omega) (by rw [← HMC.out]; exact size_madeCells _ _)
      rw [S0] at ho
      rw [← hW2]
      exact Turn.owns ((((Turn.refl [t] _).setCell (.inl (by simp)) _)).drew) ho (fun g hg => by
        have h1 := HIN.out.1
        have h2 := ob_some hg
        simp
        omega)
    · intro g hg
      have h2 := ob_some hg
      omega
  have x1 : W2.cell? ⟨r + 1, 0, none⟩ = some (.slice A n c) := (t2.cell (p := ⟨r + 1, 0, none⟩) (by simp only; omega) (by have := HIN.out.1; simp; omega)).trans x1
  have HST := Lib.hid hst
  rw [hW2]
  clear t2 hst hW2 zc zf hne1 x0 y1 y1f hmk2
  go_wp2_with fail
  go_loopw [19] (fun v19 wr => ∃ k : Nat, k ≤ n ∧ v19 = .int .i64 (k : Int) ∧ Hid (Fr l t m (r + 2) W0 wr k)) (fun v19 _ => n - (intOf v19).toNat)
  case atStart => exact ⟨0, Nat.zero_le _, rfl, HST⟩
  case round =>
    obtain ⟨k, hk, rfl, HK⟩ := hrel
    obtain ⟨V, e1, e2, e3, e4⟩ := HK.out
    have eT : Turn [t] w wr := (HT0.out.more (by simp)).trans e4 (fun g hg => .inl hg)
    by_cases hlt : k < n
    · obtain ⟨x, hx⟩ := at_lt (show k < l.length by have := HN.out; omega)
      have hrw := HR.out.turn eT (fun g hg => by have := HIN.out.2.2.1; simp at hg; omega)
      obtain ⟨b, off, cs, rfl, hb, hbl, hcell, A3, c3, A4, n4, c4, A5, n5, c5, A6, n6, c6, I, rfl, hst⟩ := hrw k x hx
      have hzx := HZ.out x (List.mem_of_getElem? hx)
      have e0 : wr.cell? ⟨b, off + k * 10, none⟩ = some (.string x.nm) := hcell 0 _ rfl
      have q1 := hcell 1 _ rfl
      have q2 := hcell 2 _ rfl
      have q3 := hcell 3 _ rfl
      have q4 := hcell 4 _ rfl
      have q5 := hcell 5 _ rfl
      have q6 := hcell 6 _ rfl
      have q7 := hcell 7 _ rfl
      have q8 := hcell 8 _ rfl
      have q9 := hcell 9 _ rfl
      have d1 : decide ((k : Int) < (n : Int)) = true := by simp; omega
      have d2 : (k : Int) < (n : Int) := by omega
      have hdr : l.drop k = x :: l.drop (k + 1) := by
        obtain ⟨hh, he⟩ := List.getElem?_eq_some_iff.1 hx
        rw [List.drop_eq_getElem_cons hh, he]
      have hsr : r + 2 ≤ wr.heap.size := by have := e4.size; omega
      obtain ⟨u, hu⟩ : ∃ u, wr.heap.size = u := ⟨_, rfl⟩
      obtain ⟨W3, hW3⟩ : ∃ W, wr.alloc (.cells #[.string x.nm, .string x.sup, .bool x.face, .slice A3 x.fcs.length c3, .slice A4 n4 c4, .slice A5 n5 c5, .slice A6 n6 c6, .pointer I, .int .i64 x.p, .int .i64 x.q] 53) = W := ⟨_, rfl⟩
      have t3 : Turn [] wr W3 := by rw [← hW3]; exact (Turn.refl [] wr).alloc _
      have b3 : W3.heap[u]? = some (.cells #[.string x.nm, .string x.sup, .bool x.face, .slice A3 x.fcs.length c3, .slice A4 n4 c4, .slice A5 n5 c5, .slice A6 n6 c6, .pointer I, .int .i64 x.p, .int .i64 x.q] 53 (0, 0)) := by rw [← hW3, ← hu]; exact heap_alloc_new wr _
      have s3 : W3.heap.size = u + 1 := by rw [← hW3, ← hu]; simp
      have hFd : ∀ W, Turn [] W3 W → Fd B l r (r + 1) t m s V (some ⟨b, off, none⟩) c W := fun W tW => by
        have tt : Turn [t] W0 W := (e4.trans' t3).trans' tW
        have tw : Turn [t] w W := (eT.trans' t3).trans' tW
        have htr := HIN.out.1
        exact ⟨(tt.cell (p := ⟨r, 0, none⟩) (by simp only; omega) (by simp; omega)).trans (cell_of_row W0 r 0 _ _ _ HB0.out.1),
          by rw [HN.out]; exact (tt.cell (p := ⟨r + 1, 0, none⟩) (by simp only; omega) (by simp; omega)).trans (cell_of_row W0 (r + 1) 0 _ _ _ HB0.out.2),
          cell_of_row W t 0 _ _ _ ((t3.trans' tW).heap e1 (by simp)),
          HM.out.turn tw (by simp; exact HIN.out.2.2.2),
          HR.out.turn tw (fun g hg => by have := HIN.out.2.2.1; simp at hg; omega)⟩
      have HE := Lib.hid (entryOf_any l r (r + 1) x A3 c3 A4 n4 c4 A5 n5 c5 A6 n6 c6 I B W3 (fun W y f tW hy => find_any8 (hFd W tW) y f hy) (hst.turn t3 (by simp)) (by rw [HN.out]; exact hl) hzx.1 hzx.2.1 hzx.2.2.1 hzx.2.2.2)
      have HX := Lib.hid (And.intro e1 (And.intro e2 (And.intro e3 (And.intro e4 (And.intro hx (And.intro hdr (And.intro t3 (And.intro b3 hFd))))))))
      have HU := Lib.hid hu
      have HW3 := Lib.hid hW3
      have HNM := Lib.hid hzx.1
      clear e1 e2 e3 e4 hx hrw hdr hst hcell t3 b3 hFd hu hW3 eT hzx
      go_wp2_with fail
      rw [HW3.out]
      refine HE.out.mono ?_
      rintro e w5 ⟨he, t5⟩
      unfold EofR enC at he
      have HT5 := Lib.hid t5
      have tt5 := HX.out.2.2.2.2.2.2.1.trans' t5
      have z0 := (HX.out.2.2.2.2.2.2.2.2 w5 t5).tc
      have z1 := (HX.out.2.2.2.2.2.2.2.2 w5 t5).bk
      have z2 : w5.cell? ⟨wr.heap.size, 0, none⟩ = some (.string x.nm) := by rw [HU.out]; exact cell_of_row w5 u 0 _ _ _ (t5.heap HX.out.2.2.2.2.2.2.2.1 (by simp))
      obtain ⟨j, hj⟩ : ∃ j, fstF l l.length x.nm = some j := by
        have hx := HX.out.2.2.2.2.1
        unfold fstF
        rw [List.take_length]
        cases hf : List.findIdx? (fun c : K8 => decide (c.nm = x.nm)) l with
        | some j => exact ⟨j, rfl⟩
        | none =>
          rw [List.findIdx?_eq_none_iff] at hf
          have := hf x (List.mem_of_getElem? hx)
          simp at this
      have hjl := (fstF_lt hj).1
      cases hE : entR8 l x with
      | none =>
        rw [hE] at he
        simp only at he
        subst he
        have HEE := Lib.hid hE
        clear t5 tt5 hE hj hjl
        go_wp2_with fail
        go_quiet (fail)
        go_wp2_with fail
        go_ret
        have hf : filK l l 0 = some k := by rw [HX.out.2.2.1, HX.out.2.2.2.2.2.1, filK]; simp [okK, HEE.out]
        refine ⟨by unfold filI; rw [hf]; rfl, ?_, fun h => by rw [hf] at h; cases h⟩
        exact ((((HT0.out.more (by simp)).trans HX.out.2.2.2.1 (fun g hg => .inl hg)).trans' (HX.out.2.2.2.2.2.2.1.trans' HT5.out)).alloc _).drewN _
      | some p =>
        obtain ⟨s0, rt⟩ := p
        rw [hE] at he
        obtain ⟨VR, rfl, hVR⟩ := he
        obtain ⟨AV, cV, rfl, _, hcV⟩ := hVR.form
        have hrt := entR8_nat hE
        obtain ⟨L, hL⟩ : ∃ L, rt.length = L := ⟨_, rfl⟩
        obtain ⟨W6, hW6⟩ : ∃ W, w5.alloc (.cells #[.string x.nm, .bool x.face, .int .i64 s0, .slice AV L cV] 100) = W := ⟨_, rfl⟩
        have t6 : Turn [] w5 W6 := by rw [← hW6]; exact (Turn.refl [] w5).alloc _
        have b6 : W6.heap[w5.heap.size]? = some (.cells #[.string x.nm, .bool x.face, .int .i64 s0, .slice AV L cV] 100 (0, 0)) := by rw [← hW6]; exact heap_alloc_new w5 _
        have hfd := HX.out.2.2.2.2.2.2.2.2 W6 (t5.trans' t6)
        have z0 := hfd.tc
        have z1 := hfd.bk
        have z2 := (t6.cell (p := ⟨wr.heap.size, 0, none⟩) (cell_lt z2) (by simp)).trans z2
        have hlook2 : ∀ q, (Instr.lookup 78 (.map (some m)) (.string x.nm) false).run Tryz.prog (W6.drewN q) = .ok (.int .i64 (j : Int)) (W6.drewN q) := fun q => by
          have hlook := run_lookS (hfd.mp.turn ((Turn.refl [] W6).drewN q) (by simp)) x.nm (max9 HNM.out)
          rw [hj] at hlook
          exact hlook
        have HY := Lib.hid (And.intro hE (And.intro hVR (And.intro hrt (And.intro hL (And.intro t6 (And.intro b6 (And.intro hj hfd)))))))
        have HW6 := Lib.hid hW6
        have HJ := Lib.hid hjl
        rw [hL]
        clear t5 tt5 hE hj hjl hVR hrt hL t6 b6 hfd hcV hW6
        by_cases hjk : j = k
        · subst hjk
          have n0 : decide ((j : Int) = (j : Int)) = true := by simp
          go_wp2_with fail
          rw [HW6.out]
          go_quiet (fail)
          go_wp2_with fail
          obtain ⟨W7, hW7⟩ : ∃ W, W6.drewN nq = W := ⟨_, rfl⟩
          rw [hW7]
          have t7 : Turn [] W6 W7 := by rw [← hW7]; exact (Turn.refl [] W6).drewN _
          obtain ⟨eb, heb⟩ : ∃ eb, w5.heap.size = eb := ⟨_, rfl⟩
          rw [heb]
          obtain ⟨e1, e2, e3, e4, hx, hdr, t3, b3, hFd⟩ := HX.out
          obtain ⟨hE, hVR, hrt, hL, t6, b6, hj, hfd⟩ := HY.out
          have tt : Turn [] wr W7 := ((t3.trans' HT5.out).trans' t6).trans' t7
          obtain ⟨P, cap, hVf, hcap, _⟩ := e2.rdv goodE
          obtain ⟨N, hNN⟩ : ∃ N, ((l.take j).map (enOf l)).length = N := ⟨_, rfl⟩
          have hNj : N = j := by rw [← hNN, List.length_map, List.length_take]; have := HN.out; omega
          rw [hNN] at hVf hcap
          subst hVf
          have b7 := tt.heap e1 (by simp)
          have z0 := (hFd W7 ((HT5.out.trans' t6).trans' t7)).tc
          have k2 : W7.cell? ⟨t, 1, none⟩ = some (.slice P N cap) := cell_of_row W7 t 1 _ _ _ b7
          rw [heb] at b6
          have eb7 := t7.heap b6 (by simp)
          have x0 : W7.cell? ⟨eb, 0, none⟩ = some (.string x.nm) := cell_of_row W7 eb 0 _ _ _ eb7
          have x1 : W7.cell? ⟨eb, 1, none⟩ = some (.bool x.face) := cell_of_row W7 eb 1 _ _ _ eb7
          have x2 : W7.cell? ⟨eb, 2, none⟩ = some (.int .i64 s0) := cell_of_row W7 eb 2 _ _ _ eb7
          have x3 : W7.cell? ⟨eb, 3, none⟩ = some (.slice AV L cV) := cell_of_row W7 eb 3 _ _ _ eb7
          have hne1 := World.new_ne W7 ⟨t, 1, none⟩ k2
          have hne2 := World.new_ne W7 ⟨r, 0, none⟩ z0
          have hne3 := World.new_ne W7 ⟨eb, 0, none⟩ x0
          have h7r : r + 2 ≤ W7.heap.size := by have := tt.size; omega
          have HRD : Hid (RdE (fun g => r + 2 ≤ g ∧ (Value.slice P N cap).ownBlock ≠ some g) ((W7.alloc (.cells #[.string x.nm, .bool x.face, .int .i64 s0, .slice AV L cV] 100)).drew) [.string x.nm, .bool x.face, .int .i64 s0, .slice AV L cV] (enOf l x)) := by
            refine Lib.hid ⟨_, by unfold enOf; rw [hE], ?_⟩
            have h1 := rdn_of_own hVR (fun i hi => by obtain ⟨q, hq, _⟩ := hrt.1 i hi; exact ⟨q, hq⟩)
            rw [hL] at h1
            have h2 := h1.turn goodN ((t6.trans' t7).trans' (((Turn.refl [] W7).alloc (.cells #[.string x.nm, .bool x.face, .int .i64 s0, .slice AV L cV] 100)).drew)) (by simp)
            have hre : (enOf l x).rt = rt.map Int.toNat := by unfold enOf; rw [hE]
            rw [hre]
            have hs3 := t3.size
            refine h2.mono goodN (fun g hg _ => ⟨by omega, fun hv => ?_⟩)
            have := (e2.lt hv).1
            have h3 := hg.1
            omega
          have zb := ((Turn.refl [] W7).alloc (.cells #[.string x.nm, .bool x.face, .int .i64 s0, .slice AV L cV] 100)).heap b7 (by simp)
          have zc : (W7.alloc (.cells #[.string x.nm, .bool x.face, .int .i64 s0, .slice AV L cV] 100)).cell? ⟨t, 1, none⟩ = some (.slice P N cap) := cell_of_row _ t 1 _ _ _ zb
          have z0c : (W7.alloc (.cells #[.string x.nm, .bool x.face, .int .i64 s0, .slice AV L cV] 100)).cell? ⟨r, 0, none⟩ = some (.pointer (some ⟨t, 0, none⟩)) := (((Turn.refl [] W7).alloc (.cells #[.string x.nm, .bool x.face, .int .i64 s0, .slice AV L cV] 100)).cell (p := ⟨r, 0, none⟩) (cell_lt z0) (by simp)).trans z0
          have hend : ∀ P8 c8 w8, OwnL 100 4 RdE (fun g => r + 2 ≤ g) w8 (.slice P8 (N + 1) c8) ((l.take j).map (enOf l) ++ [enOf l x]) → Turn (Value.slice P N cap).ownBlock.toList ((W7.alloc (.cells #[.string x.nm, .bool x.face, .int .i64 s0, .slice AV L cV] 100)).drew) w8 → w8.heap[t]? = some (.cells #[.map (some m), .slice P N cap] 82 (0, 0)) →
              Fr l t m (r + 2) W0 (w8.setCell ⟨t, 1, none⟩ (.slice P8 (N + 1) c8)) (j + 1) := fun P8 c8 w8 ho8 ht8 hb8 => by
            have tS : Turn [t] w8 (w8.setCell ⟨t, 1, none⟩ (.slice P8 (N + 1) c8)) := (Turn.refl [t] w8).setCell (.inl (by simp)) _
            refine ⟨_, Go.heap_setCell_same w8 t 1 _ _ (.slice P8 (N + 1) c8) hb8, ?_, ?_, ?_⟩
            · rw [take_snoc hx, List.map_append]
              exact ho8.turn goodE tS (fun g hg => by have := HIN.out.1; simp at hg; omega)
            · rw [e3, hdr, filK]
              simp [okK, hE, hj]
            · refine (((e4.trans' tt).trans' (((Turn.refl [] W7).alloc _).drew)).trans ht8 (fun g hg => .inr ?_)).trans tS (fun g hg => .inl hg)
              have h1 := (e2.lt (g := g) (by simpa using hg)).2
              omega
          have HEnd := Lib.hid hend
          clear hend
          have HZ7 := Lib.hid (And.intro tt (And.intro b7 (And.intro hNN hNj)))
          have hN6 : N ≤ 1000000 := by omega
          clear hE hVR hrt hL t6 b6 hj hfd e1 e3 e4 hx hdr t3 b3 hFd tt b7 eb7 hW7 t7 hlook2 hNN hNj zb
          have E2 := Lib.hid e2
          clear e2
          go_region_law (refine step_appL rfl (.tmp 48) (.tmp 50) 80 rfl _ 100 4 56 (.agg #[.string ⟨#[]⟩, .bool false, .int .i64 0, .slice none 0 0]) RdE goodE (fun g => r + 2 ≤ g) Tryz.underlying80 entry_info rfl (by omega) (by omega) (.slice P N cap) ((l.take j).map (enOf l)) (by simp [Act.eval, Act.put]) (E2.out.turn goodE (HZ7.out.1.trans' (((Turn.refl [] W7).alloc _).drew)) (by simp)) W7.heap.size 1 [.string x.nm, .bool x.face, .int .i64 s0, .slice AV L cV] (enOf l x) (heap_alloc_new W7 _) HRD.out (by simp [Act.eval, Act.put]) (by rw [HZ7.out.2.2.1]; exact hN6) (by simp; omega) ?_
                         intro v8 w8 ho8 ht8
                         obtain ⟨P8, c8, hv8, _, _⟩ := ho8.rdv goodE
                         rw [show ((l.take j).map (enOf l) ++ [enOf l x]).length = N + 1 by rw [List.length_append, HZ7.out.2.2.1]; rfl] at hv8
                         subst hv8
                         have hb8 := ht8.heap ((((Turn.refl [] W7).alloc _).drew).heap HZ7.out.2.1 (by simp)) (fun hg => by have h1 := (E2.out.lt (g := t) (by simpa using hg)).2; have := HIN.out.1; omega)
                         have n1 : w8.cell? ⟨t, 1, none⟩ = some (.slice P N cap) := cell_of_row w8 t 1 _ _ _ hb8
                         have n1f : w8.frozen? ⟨t, 1, none⟩ = false := frozen_of_row w8 t 1 _ _ hb8
                         have n0' : w8.cell? ⟨r, 0, none⟩ = some (.pointer (some ⟨t, 0, none⟩)) := (ht8.cell (p := ⟨r, 0, none⟩) (by simp; omega) (fun hg => by have h1 := (E2.out.lt (g := r) (by simpa using hg)).2; omega)).trans z0c
                         have HO8 := Lib.hid ho8
                         have HT8 := Lib.hid ht8
                         have HB8 := Lib.hid hb8
                         clear ho8 ht8 hb8)
          all_goals
            have HN1 := Lib.hid (HEnd.out _ _ _ HO8.out HT8.out HB8.out)
            clear HO8 HT8 HB8 HEnd
            go_wp2_with fail
            go_roundw
            case rel => exact ⟨j + 1, by omega, by go_num, HN1⟩
            case measure => simp [intOf]; omega
        · have n0 : decide ((j : Int) = (k : Int)) = false := by simp; omega
          have n1 : ¬ ((j : Int) = (k : Int)) := by omega
          go_wp2_with fail
          rw [HW6.out]
          go_quiet (fail)
          go_wp2_with fail
          go_ret
          obtain ⟨hE, hVR, hrt, hL, t6, b6, hj, hfd⟩ := HY.out
          have hf : filK l l 0 = some k := by rw [HX.out.2.2.1, HX.out.2.2.2.2.2.1, filK]; simp [okK, hj, hjk]
          refine ⟨by unfold filI; rw [hf]; rfl, ?_, fun h => by rw [hf] at h; cases h⟩
          exact ((((HT0.out.more (by simp)).trans HX.out.2.2.2.1 (fun g hg => .inl hg)).trans' (HX.out.2.2.2.2.2.2.1.trans' HT5.out)).trans' t6).drewN _
    · obtain rfl : k = n := by omega
      have d1 : decide ((k : Int) < (k : Int)) = false := by simp
      go_wp2_with fail
      go_ret
      have hnn : l.length = k := HN.out
      rw [← hnn, List.drop_length, filK] at e3
      refine ⟨by unfold filI; rw [e3]; rfl, eT, fun _ => ⟨V, e1, ?_⟩⟩
      rw [← hnn, List.take_length] at e2
      exact e2.mono goodE (fun g hg _ => by rw [HRR.out]; omega)
end Go.Proofs.YtbocejiclellfaaGreatDoor
