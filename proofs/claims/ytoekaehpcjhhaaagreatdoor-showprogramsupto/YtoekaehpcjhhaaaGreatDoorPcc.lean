/- class. -/
import Derived.Test.YtoekaehpcjhhaaaGreatDoorPcl
set_option linter.unusedSimpArgs false
set_option linter.unusedVariables false
namespace Go.Proofs.YtoekaehpcjhhaaaGreatDoor
open Go.RowKit

set_option maxHeartbeats 8000000 in
set_option maxRecDepth 100000 in
theorem class_any (T b : Nat) (F : List Nat) (R : List Row) (D : Nat) (B : Nat) (cs : List Value) (c : Cl) (w : World) (h : Sh T w b F R D) (hF : ∀ g ∈ F, B ≤ g) (hE : Env B w) (hc : FtC c) (hr : RdC B w cs c) (hz : D + R.length ≤ 65000000) :
    Calls Tryz.prog 35 #[.pointer (some ⟨b, 0, none⟩), .agg cs.toArray] w fun e w' => e = .returned (.tuple #[]) ∧ Wr T w b F (R ++ ([(D, claT c)] ++ bodyR (D + 1) c ++ [(D, shutT)])) D w' := by
  obtain ⟨A3, c3, A4, c4, A5, c5, A6, c6, I, p, q, rfl, k3, r3, r3B, r4, r5, r6, r7⟩ := hr
  have tA : Turn [] w ((w.alloc (.cells #[.pointer (some ⟨b, 0, none⟩)] 62)).alloc (.cells #[.string c.name, .string c.super, .bool c.face, .slice A3 c.faces.length c3, .slice A4 c.fs.length c4, .slice A5 c.ss.length c5, .slice A6 c.ms.length c6, .pointer I, .int .i64 p, .int .i64 q] 43)) := ((Turn.refl [] w).alloc _).alloc _
  obtain ⟨W, hW⟩ : ∃ W, (w.alloc (.cells #[.pointer (some ⟨b, 0, none⟩)] 62)).alloc (.cells #[.string c.name, .string c.super, .bool c.face, .slice A3 c.faces.length c3, .slice A4 c.fs.length c4, .slice A5 c.ss.length c5, .slice A6 c.ms.length c6, .pointer I, .int .i64 p, .int .i64 q] 43) = W := ⟨_, rfl⟩
  have hg1 : W.heap[w.heap.size]? = some (.cells #[.pointer (some ⟨b, 0, none⟩)] 62 (0, 0)) := by
    rw [← hW]
    exact ((Turn.refl [] _).alloc _).heap (heap_alloc_new w _) (by simp)
  have hg2 : W.heap[w.heap.size + 1]? = some (.cells #[.string c.name, .string c.super, .bool c.face, .slice A3 c.faces.length c3, .slice A4 c.fs.length c4, .slice A5 c.ss.length c5, .slice A6 c.ms.length c6, .pointer I, .int .i64 p, .int .i64 q] 43 (0, 0)) := by
    rw [← hW]
    have := heap_alloc_new (w.alloc (.cells #[.pointer (some ⟨b, 0, none⟩)] 62)) (.cells #[.string c.name, .string c.super, .bool c.face, .slice A3 c.faces.length c3, .slice A4 c.fs.length c4, .slice A5 c.ss.length c5, .slice A6 c.ms.length c6, .pointer I, .int .i64 p, .int .i64 q] 43)
    rwa [World.size_alloc] at this
  have hsz : W.heap.size = w.heap.size + 2 := by rw [← hW]; simp
  rw [hW] at tA
  have hlt := h.lt
  have hn1 : ∀ g, w.heap.size ≤ g → g < w.heap.size + 2 → g ∉ F := fun g h1 h2 hg => by have := hlt.2.2 g hg; omega
  have hcell1 : ∀ w', Turn F W w' → w'.cell? ⟨w.heap.size, 0, none⟩ = some (.pointer (some ⟨b, 0, none⟩)) := fun w' ht => cell_of_row w' _ 0 _ _ _ (ht.heap hg1 (hn1 _ (Nat.le_refl _) (by omega)))
  have hcells : ∀ w', Turn F W w' → ∀ (i : Nat) (v : Value), (#[.string c.name, .string c.super, .bool c.face, .slice A3 c.faces.length c3, .slice A4 c.fs.length c4, .slice A5 c.ss.length c5, .slice A6 c.ms.length c6, .pointer I, .int .i64 p, .int .i64 q] : Array Value)[i]? = some v → w'.cell? ⟨w.heap.size + 1, i, none⟩ = some v := fun w' ht i v hv => (cell_of_row w' _ i _ _ _ (ht.heap hg2 (hn1 _ (by omega) (by omega)))).trans hv
  have hhs := faces_size hc.faces
  have hab : (aboT impK c.faces).size ≤ 8388900 := by
    unfold aboT
    split
    · decide
    · simp only [size_app, sp, impK, sz_lit, List.size_toArray, List.length_cons, List.length_nil]; omega
  have hsu : (supT c.super).size ≤ 1048700 := by
    unfold supT
    split
    · decide
    · unfold aboT
      rw [if_neg (by simp), jn_one]
      have := hc.super
      simp only [size_app, sp, extK, sz_lit, List.size_toArray, List.length_cons, List.length_nil]
      omega
  have HO : Hid (∀ w2, Turn [] W w2 → ∀ w3, Turn [] (w2.alloc (.cells #[.string ⟨#[99, 108, 97, 115, 115, 32]⟩, .string c.name, .string (supT c.super), .string (aboT impK c.faces), .string ⟨#[32, 123]⟩] 9)) w3 → Calls Tryz.prog 36 #[.pointer (some ⟨b, 0, none⟩), .func (.func 55) #[] #[.pointer (some ⟨w.heap.size, 0, none⟩), .pointer (some ⟨w.heap.size + 1, 0, none⟩)], .slice (some ⟨w2.heap.size, 0, none⟩) 5 5] w3 fun e w' => e = .returned (.tuple #[]) ∧ Wr T w3 b F (R ++ [(D, claT c)] ++ bodyR (D + 1) c) D w') := Lib.hid (fun w2 t2 w3 t3 => by
    have tt := (tA.trans' t2).trans' ((bx w2 _ _).trans' t3)
    have tW3 : Turn [] W w3 := t2.trans' ((bx w2 _ _).trans' t3)
    refine open_any T b F R D 55 [.pointer (some ⟨w.heap.size, 0, none⟩), .pointer (some ⟨w.heap.size + 1, 0, none⟩)] (some ⟨w2.heap.size, 0, none⟩) 5 [⟨#[99, 108, 97, 115, 115, 32]⟩, c.name, supT c.super, aboT impK c.faces, openT] (bodyR (D + 1) c) w3 (h.turn' tt) ((sts_new w2 [⟨#[99, 108, 97, 115, 115, 32]⟩, c.name, supT c.super, aboT impK c.faces, openT] _ rfl).turn' t3) (by simp) (by simp) (by have := hc.name; rw [size_cat]; simp [sz_lit, openT]; omega) (by omega) (by omega) enters_class1 ?_
    intro w1 F1 hS hFo hT
    have hF1 : ∀ g ∈ F1, B ≤ g := Foot.above hFo hF (by have := hE.lt; have := tt.size; omega)
    have hTB : Turn F w w1 := (tt.more (by simp)).trans hT (fun g hg => .inl hg)
    have hT2 : Turn F W w1 := (tW3.more (by simp)).trans hT (fun g hg => .inl hg)
    have hnF1 : ∀ g, w.heap.size ≤ g → g < w.heap.size + 2 → g ∉ F1 := fun g h1 h2 hg => by
      rcases hFo g hg with h3 | h3
      · exact hn1 g h1 h2 h3
      · have := tW3.size; omega
    exact class1_any T b F1 _ (D + 1) w.heap.size (w.heap.size + 1) B A4 A5 A6 c4 c5 c6 I c w1 hS hF1 (hE.turn hTB hF) hc (r4.turn hTB hF) (r5.turn hTB hF) (r6.turn hTB hF) (r7.turn hTB hF) (by simp; omega) (hcell1 w1 hT2) (hcells w1 hT2 4 _ rfl) (hcells w1 hT2 5 _ rfl) (hcells w1 hT2 6 _ rfl) (hcells w1 hT2 7 _ rfl) (hnF1 _ (Nat.le_refl _) (by omega)) (hnF1 _ (by omega) (by omega)))
  have HAb := Lib.hid (fun w2 (t2 : Turn [] W w2) => above_any impK A3 c3 c.faces w2 ((r3.turn' tA).turn' t2) k3 hc.faces (by decide))
  have HSu : Hid (∀ w2, Turn [] W w2 → ¬ c.super.size = 0 → Calls Tryz.prog 54 #[.string extK, .slice (some ⟨w2.heap.size, 0, none⟩) 1 1] (w2.alloc (.cells #[.string c.super] 9)) fun e w' => e = .returned (.string (supT c.super)) ∧ Turn [] w2 w') := Lib.hid (fun w2 t2 hne => by
    have tB := bx w2 #[.string c.super] 9
    have := above_any extK (some ⟨w2.heap.size, 0, none⟩) 1 [c.super] _ (sts_new w2 [c.super] _ rfl) (by simp) ⟨by simp, fun f hf => by simp at hf; rw [hf]; exact hc.super⟩ (by decide)
    refine this.mono ?_
    rintro e w3 ⟨rfl, t3⟩
    exact ⟨ret_s (by rw [supT, if_neg hne]), tB.trans' t3⟩)
  have HS0 : Hid (c.super.size = 0 → supT c.super = ⟨#[]⟩) := Lib.hid (fun h0 => by rw [supT, if_pos h0])
  have hlr : (bodyR (D + 1) c).length ≤ 10300000 := by have := bodyR_len (D + 1) hc; omega
  have HZ : Hid ((R ++ [(D, claT c)] ++ bodyR (D + 1) c).length ≤ 1000000000) := Lib.hid (by simp only [List.length_append, List.length_cons, List.length_nil]; omega)
  have HB : Hid (R ++ [(D, claT c)] ++ bodyR (D + 1) c ++ [(D, shutT)] = R ++ ([(D, claT c)] ++ bodyR (D + 1) c ++ [(D, shutT)])) := Lib.hid (by simp only [List.append_assoc])
  obtain ⟨Z, hZZ⟩ : ∃ Z, R ++ ([(D, claT c)] ++ bodyR (D + 1) c ++ [(D, shutT)]) = Z := ⟨_, rfl⟩
  rw [hZZ] at HB ⊢
  clear hZZ
  have HCe := Lib.hid (And.intro hcell1 hcells)
  have HSZ : Hid (W.heap.size = w.heap.size + 1 + 1) := Lib.hid hsz
  have HT := Lib.hid tA
  have HW := Lib.hid hW
  have hmf := mf
  have hbl := hlt.1
  have hgF : w.heap.size ∉ F := hn1 _ (Nat.le_refl _) (by omega)
  have hgF2 : w.heap.size + 1 ∉ F := hn1 _ (by omega) (by omega)
  have hgl : w.heap.size < W.heap.size := by omega
  have hgl2 : w.heap.size + 1 < W.heap.size := by omega
  obtain ⟨AB, hAB⟩ : ∃ q, aboT impK c.faces = q := ⟨_, rfl⟩
  rw [hAB] at HO HAb
  obtain ⟨SU, hSU⟩ : ∃ q, supT c.super = q := ⟨_, rfl⟩
  rw [hSU] at HO HSu HS0
  obtain ⟨cn, hcn⟩ : ∃ q, c.name = q := ⟨_, rfl⟩
  obtain ⟨cu, hcu⟩ : ∃ q, c.super = q := ⟨_, rfl⟩
  obtain ⟨cf, hcf⟩ : ∃ q, c.face = q := ⟨_, rfl⟩
  obtain ⟨nf, hnf⟩ : ∃ q, c.faces.length = q := ⟨_, rfl⟩
  obtain ⟨n4, hn4⟩ : ∃ q, c.fs.length = q := ⟨_, rfl⟩
  obtain ⟨n5, hn5⟩ : ∃ q, c.ss.length = q := ⟨_, rfl⟩
  obtain ⟨n6, hn6⟩ : ∃ q, c.ms.length = q := ⟨_, rfl⟩
  rw [hcn] at HCe HW HO ⊢
  rw [hcu] at HCe HW HSu HS0 ⊢
  rw [hcf] at HCe HW ⊢
  rw [hnf] at HCe HW HAb ⊢
  rw [hn4] at HCe HW ⊢
  rw [hn5] at HCe HW ⊢
  rw [hn6] at HCe HW ⊢
  clear h hF hE hc hz hg1 hg2 tA hW hsz hlt r3 r3B r4 r5 r6 r7 hn1 hlr hcell1 hcells hhs hab hsu hSU hAB hcn hcu hcf hnf hn4 hn5 hn6
  unfold impK at HAb
  unfold extK at HSu
  have m1 := HCe.out.1 W (Turn.refl _ _)
  have m2 := HCe.out.2 W (Turn.refl _ _) 0 _ rfl
  have m3 := HCe.out.2 W (Turn.refl _ _) 3 _ rfl
  have m5 := HCe.out.2 W (Turn.refl _ _) 1 _ rfl
  by_cases hsz0 : cu.size = 0
  · have hce : cu = ⟨#[]⟩ := bytes_eq hsz0
    have hsu : SU = ⟨#[]⟩ := HS0.out hsz0
    subst hce hsu
    have o1 := m1
    have o2 := m2
    have o3 := m3
    have HA1 := Lib.hid (HAb.out W.drew ((Turn.refl [] W).drew))
    go_enter Tryz.func35, Tryz.ntmps35
    go_upto_region 4 with fail
    rw [HW.out]
    go_region_held3 (fun w' => w'.cell? ⟨w.heap.size, 0, none⟩ = some (.pointer (some ⟨b, 0, none⟩)) ∧ w'.cell? ⟨w.heap.size + 1, 0, none⟩ = some (.string cn) ∧ w'.cell? ⟨w.heap.size + 1, 3, none⟩ = some (.slice A3 nf c3))
      (first | exact ⟨o1, o2, o3⟩ | exact ⟨p1, p2, p3⟩ | exact ⟨q1, q2, q3⟩ | go_keep)
      (first
        | (go_at_call 54; (with_reducible refine HA1.out.mono ?_); rintro e w2 ⟨rfl, t2⟩
           have ht2 : Turn [] W w2 := ((Turn.refl [] W).drew).trans' t2
           have HT2 := Lib.hid ht2
           have p1 := HCe.out.1 w2 (ht2.more (by simp))
           have p2 := HCe.out.2 w2 (ht2.more (by simp)) 0 _ rfl
           have p3 := HCe.out.2 w2 (ht2.more (by simp)) 3 _ rfl
           clear t2 ht2)
        | (go_at_call 36; (with_reducible refine (HO.out w2 HT2.out _ (by first | exact Turn.refl [] _ | exact (Turn.refl [] _).drew)).mono ?_); rintro e w4 ⟨rfl, hw4⟩
           have hW4 := Wr.after ((bx w2 _ _)) hw4
           have tF : Turn F W w4 := by
             obtain ⟨F4, _, _, ht4⟩ := hW4
             exact (HT2.out.more (by simp)).trans ht4 (fun g hg => .inl hg)
           have q1 := HCe.out.1 w4 tF
           have q2 := HCe.out.2 w4 tF 0 _ rfl
           have q3 := HCe.out.2 w4 tF 3 _ rfl
           have HW4 := Lib.hid (Wr.after (HT.out.trans' HT2.out) hW4)
           clear hw4 hW4 tF)
        | fail)
    all_goals
      obtain ⟨F4, hs4, hf4, ht4⟩ := HW4.out
      have HC := Lib.hid (shut_any T b F4 _ D w4 hs4 HZ.out)
      have HF4 := Lib.hid (And.intro hf4 ht4)
      clear hs4 hf4 ht4
      go_wp2_with fail
      refine HC.out.mono ?_
      rintro e w5 ⟨rfl, hW5⟩
      have HW5 := Lib.hid hW5
      clear hW5
      go_wp2_with fail
      go_end0
      refine ⟨rfl, ?_⟩
      rw [← HB.out]
      exact Wr.trans HF4.out.1 HF4.out.2 HW5.out
  · have hne := bytes_ne (fun e : cu = ⟨#[]⟩ => hsz0 (by rw [e]; rfl))
    have HCS := Lib.hid (HSu.out W (Turn.refl [] W) hsz0)
    rw [HSZ.out] at HCS
    clear hsz0
    go_enter Tryz.func35, Tryz.ntmps35
    go_wp2_with fail
    rw [HW.out]
    refine HCS.out.mono ?_
    rintro e w6 ⟨rfl, t6⟩
    have HT6 := Lib.hid t6
    clear t6
    go_upto_region 4 with fail
    have o1 := HCe.out.1 w6 (HT6.out.more (by simp))
    have o2 := HCe.out.2 w6 (HT6.out.more (by simp)) 0 _ rfl
    have o3 := HCe.out.2 w6 (HT6.out.more (by simp)) 3 _ rfl
    have HA1 := Lib.hid (HAb.out w6.drew (HT6.out.drew))
    go_region_held3 (fun w' => w'.cell? ⟨w.heap.size, 0, none⟩ = some (.pointer (some ⟨b, 0, none⟩)) ∧ w'.cell? ⟨w.heap.size + 1, 0, none⟩ = some (.string cn) ∧ w'.cell? ⟨w.heap.size + 1, 3, none⟩ = some (.slice A3 nf c3))
      (first | exact ⟨o1, o2, o3⟩ | exact ⟨p1, p2, p3⟩ | exact ⟨q1, q2, q3⟩ | go_keep)
      (first
        | (go_at_call 54; (with_reducible refine HA1.out.mono ?_); rintro e w2 ⟨rfl, t2⟩
           have ht2 : Turn [] W w2 := ((HT6.out).drew).trans' t2
           have HT2 := Lib.hid ht2
           have p1 := HCe.out.1 w2 (ht2.more (by simp))
           have p2 := HCe.out.2 w2 (ht2.more (by simp)) 0 _ rfl
           have p3 := HCe.out.2 w2 (ht2.more (by simp)) 3 _ rfl
           clear t2 ht2)
        | (go_at_call 36; (with_reducible refine (HO.out w2 HT2.out _ (by first | exact Turn.refl [] _ | exact (Turn.refl [] _).drew)).mono ?_); rintro e w4 ⟨rfl, hw4⟩
           have hW4 := Wr.after ((bx w2 _ _)) hw4
           have tF : Turn F W w4 := by
             obtain ⟨F4, _, _, ht4⟩ := hW4
             exact (HT2.out.more (by simp)).trans ht4 (fun g hg => .inl hg)
           have q1 := HCe.out.1 w4 tF
           have q2 := HCe.out.2 w4 tF 0 _ rfl
           have q3 := HCe.out.2 w4 tF 3 _ rfl
           have HW4 := Lib.hid (Wr.after (HT.out.trans' HT2.out) hW4)
           clear hw4 hW4 tF)
        | fail)
    all_goals
      obtain ⟨F4, hs4, hf4, ht4⟩ := HW4.out
      have HC := Lib.hid (shut_any T b F4 _ D w4 hs4 HZ.out)
      have HF4 := Lib.hid (And.intro hf4 ht4)
      clear hs4 hf4 ht4
      go_wp2_with fail
      refine HC.out.mono ?_
      rintro e w5 ⟨rfl, hW5⟩
      have HW5 := Lib.hid hW5
      clear hW5
      go_wp2_with fail
      go_end0
      refine ⟨rfl, ?_⟩
      rw [← HB.out]
      exact Wr.trans HF4.out.1 HF4.out.2 HW5.out
end Go.Proofs.YtoekaehpcjhhaaaGreatDoor
