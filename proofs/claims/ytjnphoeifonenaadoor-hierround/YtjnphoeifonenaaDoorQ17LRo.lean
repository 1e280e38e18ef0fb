/- HierRound. -/
import Derived.Test.YtjnphoeifonenaaDoorQ10LBo
import Derived.Test.YtjnphoeifonenaaDoorQ16Rgp

set_option linter.unusedSimpArgs false
set_option linter.unusedVariables false
set_option maxRecDepth 100000
namespace Go.Proofs.YtjnphoeifonenaaDoor
open Go.RowKit

theorem conv_one (u : Nat) (W : World) : (convert 62 9 (.slice (some ⟨W.heap.size, 0, none⟩) 1 1)).run Tryd.prog (W.alloc (.cells #[.int .u8 (u : Int)] 5)) = .ok (.string ⟨#[UInt8.ofNat u]⟩) (W.alloc (.cells #[.int .u8 (u : Int)] 5)) := by
  have := run_convert_bytes_arg (P := Tryd.prog) (W.alloc (.cells #[.int .u8 (u : Int)] 5)) 62 5 Tryd.underlying62 Tryd.underlying5 W.heap.size 0 1 1 [(u : Int)] rfl (fun i hi => by
    have e : i = 0 := by omega
    subst e
    exact cell_of_row _ _ 0 _ _ _ (heap_alloc_new W _)) 9 Tryd.underlying9
  rw [this]
  rfl
theorem eq_f1 (w : World) : (binOp .eql 36 (.agg #[.int .i64 11, .int .i64 1, .int .i64 7]) (.agg #[.int .i64 11, .int .i64 1, .int .i64 7])).run Tryd.prog w = .ok (.bool true) w := by kernel_rfl
theorem eq_f2 (w : World) : (binOp .eql 36 (.agg #[.int .i64 11, .int .i64 2, .int .i64 7]) (.agg #[.int .i64 11, .int .i64 2, .int .i64 7])).run Tryd.prog w = .ok (.bool true) w := by kernel_rfl
theorem eq_f3 (w : World) : (binOp .eql 36 (.agg #[.int .i64 11, .int .i64 3, .int .i64 7]) (.agg #[.int .i64 11, .int .i64 3, .int .i64 7])).run Tryd.prog w = .ok (.bool true) w := by kernel_rfl
theorem eq_f4 (w : World) : (binOp .eql 36 (.agg #[.int .i64 11, .int .i64 4, .int .i64 7]) (.agg #[.int .i64 11, .int .i64 4, .int .i64 7])).run Tryd.prog w = .ok (.bool true) w := by kernel_rfl
theorem eq_fault2 (m : Nat) (hm : m < 4) (w : World) : (binOp .eql 36 (.agg #[.int .i64 11, .int .i64 ((m : Int) + 1), .int .i64 7]) (.agg #[.int .i64 11, .int .i64 ((m : Int) + 1), .int .i64 7])).run Tryd.prog w = .ok (.bool true) w := by
  have h : m = 0 ∨ m = 1 ∨ m = 2 ∨ m = 3 := by omega
  rcases h with rfl | rfl | rfl | rfl
  · exact eq_f1 w
  · exact eq_f2 w
  · exact eq_f3 w
  · exact eq_f4 w
def pgC (V : Value) : Array Value := #[V, .string ⟨#[]⟩, .string ⟨#[]⟩, .bool false, .bool false, .slice none 0 0, .slice none 0 0, .slice none 0 0, .int .i64 0, .int .i64 0]
theorem ring_len (k m : Nat) (face : Bool) : (ringL k m face).length = m + k := by simp [ringL]
theorem ringZ_len (k m : Nat) (face : Bool) : (ringZ k m face).length = m + k := by simp [ringZ, ringL]
theorem rgT_small (n : Nat) : (rgT n).size ≤ 281474976710656 := by
  have : (rgT n).size = 1 := rfl
  omega
theorem emp_small : (⟨#[]⟩ : ByteArray).size ≤ 281474976710656 := by decide +kernel
theorem rgU_small (k m i : Nat) : (rgU k m i).size ≤ 281474976710656 := by
  unfold rgU
  split
  · decide +kernel
  · exact rgT_small _
theorem ringC_ok (k m : Nat) (face : Bool) (i : Nat) : (ringC k m face i).nm.size ≤ 281474976710656 ∧ (ringC k m face i).sup.size ≤ 281474976710656 ∧ (∀ s ∈ (ringC k m face i).fcs, s.size ≤ 281474976710656) ∧ (ringC k m face i).fcs.length ≤ 999 := by
  refine ⟨rgT_small _, ?_, ?_, ?_⟩
  · unfold ringC
    cases face
    · exact rgU_small _ _ _
    · exact emp_small
  · intro s hs
    unfold ringC at hs
    simp only at hs
    split at hs
    · simp at hs; subst hs; exact rgU_small _ _ _
    · simp at hs
  · unfold ringC
    simp only
    split <;> simp
theorem ring_kok {k m : Nat} (h : m + k ≤ 1000) (face : Bool) : KOk (ringL k m face) where
  len := by rw [ring_len]; exact h
  nm := fun c hc => by
    unfold ringL at hc
    obtain ⟨i, _, rfl⟩ := List.mem_map.1 hc
    exact ringC_ok k m face i
theorem ringZ_kok {k m : Nat} (h : m + k ≤ 1000) (face : Bool) : KOk (ringZ k m face) where
  len := by rw [ringZ_len]; exact h
  nm := fun c hc => by
    unfold ringZ at hc
    rcases List.mem_or_eq_of_mem_set hc with hc | hc
    · exact (ring_kok h face).nm c hc
    · subst hc
      exact ⟨rgT_small _, emp_small, by simp, by simp⟩
theorem nw_rnd {l : List K8} {r F m : Nat} {e : Ending} {w' : World} {c : K8} (h : NwR l r e w') (h1 : filK l l 0 = none) (h2 : clAll (esL l) F l.length = true) (h3 : roundL (esL l) (climbC (esL l) F l.length).d.reverse [] (-1) = (m : Int)) (hc : l[m]? = some c) :
    e = .returned (.tuple #[.pointer none, .agg (ftC 11 c.p c.q)]) := by
  cases h with
  | bad k c hk hc he => rw [h1] at hk; cases hk
  | rnd s a c' hf hs ha hc' he =>
    have := climb_det _ s hs (clAll_of _ h2)
    rw [this, h3] at ha
    have e2 : m = a := by omega
    subst e2
    rw [hc] at hc'
    injection hc' with hc'
    subst hc'
    exact he
  | ok s t m' sz V hf hs ha he hr ht hm =>
    have := climb_det _ s hs (clAll_of _ h2)
    rw [this, h3] at ha
    omega
theorem ring_facts {k m : Nat} (hk : 0 < k ∧ k ≤ 8) (hm : m < 4) (face : Bool) :
    (filK (ringL k m face) (ringL k m face) 0 = none ∧ clAll (esL (ringL k m face)) 200 (ringL k m face).length = true ∧ roundL (esL (ringL k m face)) (climbC (esL (ringL k m face)) 200 (ringL k m face).length).d.reverse [] (-1) = (m : Int)) ∧
    (filK (ringZ k m face) (ringZ k m face) 0 = none ∧ clAll (esL (ringZ k m face)) 200 (ringZ k m face).length = true ∧ roundL (esL (ringZ k m face)) (climbC (esL (ringZ k m face)) 200 (ringZ k m face).length).d.reverse [] (-1) = -1 ∧ (abvL (esL (ringZ k m face)) [(m : Int)]).length = k) := by
  have h := ring_ok ⟨k - 1, by omega⟩ ⟨m, hm⟩ face
  simp only [show k - 1 + 1 = k by omega] at h
  unfold ringOk at h
  simp only [Bool.and_eq_true, decide_eq_true_eq, Option.isNone_iff_eq_none] at h
  rw [ring_len, ringZ_len]
  exact ⟨⟨h.1.1.1, h.1.1.2, h.1.2⟩, h.2.1.1.1, h.2.1.1.2, h.2.1.2, h.2.2⟩
/-- How it stands in the law's loop: i classes lie there. -/
def Rr (W0 wr : World) (pb k m : Nat) (face : Bool) (i : Nat) : Prop :=
  ∃ V, wr.heap[pb]? = some (.cells (pgC V) 30 (0, 0)) ∧ OwnL 51 10 RdC8 (fun g => pb < g) wr V ((ringL k m face).take i) ∧ Turn [] W0 wr
set_option maxHeartbeats 25600000 in
theorem round_law (n fr : Nat) (face : Bool) (w : World) (hn : n < 256) (hf : fr < 256) (hT : Tab w) :
    Calls Tryd.prog 6 #[.int .u8 (n : Int), .int .u8 (fr : Int), .bool face] w fun e w' => e = .returned (.bool true) ∧ Turn [] w w' := by
  obtain ⟨n0, hn0⟩ : ∃ n0, n % 8 = n0 := ⟨_, rfl⟩
  obtain ⟨m, hm⟩ : ∃ m, fr % 4 = m := ⟨_, rfl⟩
  obtain ⟨k, hk⟩ : ∃ k, n0 + 1 = k := ⟨_, rfl⟩
  have hn8 : n0 < 8 := by omega
  have hm4 : m < 4 := by omega
  have hAw := Lib.hid (awake_any w hT)
  have v1 : IntKind.i64.wrap (n : Int) = (n : Int) := wrap_small _ (by omega) (by omega)
  have v2 : IntKind.i64.wrap (fr : Int) = (fr : Int) := wrap_small _ (by omega) (by omega)
  have v3 : Int.tmod (n : Int) 8 = (n0 : Int) := by rw [← hn0]; rfl
  have v4 : Int.tmod (fr : Int) 4 = (m : Int) := by rw [← hm]; rfl
  have v5 : 1 + (n0 : Int) = (k : Int) := by omega
  have v6 : IntKind.i64.wrap (n0 : Int) = (n0 : Int) := wrap_small _ (by omega) (by omega)
  have v7 : IntKind.i64.wrap (m : Int) = (m : Int) := wrap_small _ (by omega) (by omega)
  have v8 : IntKind.i64.wrap (k : Int) = (k : Int) := wrap_small _ (by omega) (by omega)
  have HTb := Lib.hid hT
  clear hn0 hm hT
  go_enter Tryd.func6, Tryd.ntmps6
  go_wp2_with fail
  refine hAw.out.mono ?_
  rintro e w1 ⟨rfl, t1⟩
  have HT1 := Lib.hid t1
  clear t1 hAw
  go_wp2_with fail
  obtain ⟨pb, hpb⟩ : ∃ pb, w1.heap.size = pb := ⟨_, rfl⟩
  obtain ⟨W0, hW0⟩ : ∃ W, w1.alloc (.cells #[.slice none 0 0, .string ⟨#[]⟩, .string ⟨#[]⟩, .bool false, .bool false, .slice none 0 0, .slice none 0 0, .slice none 0 0, .int .i64 0, .int .i64 0] 30) = W := ⟨_, rfl⟩
  have hst : Hid (Rr w1 W0 pb k m face 0) := by
    refine Lib.hid ⟨_, by rw [← hW0, ← hpb]; exact heap_alloc_new w1 _, OwnL.nil _ _ _, ?_⟩
    rw [← hW0]; exact (Turn.refl [] w1).alloc _
  have HPB := Lib.hid hpb
  rw [hpb, hW0]
  clear hpb hW0
  obtain ⟨mk, hmk⟩ : ∃ mk, m + k = mk := ⟨_, rfl⟩
  have u1 : (m : Int) + (k : Int) = (mk : Int) := by omega
  have u2 : IntKind.i64.wrap (mk : Int) = (mk : Int) := wrap_small _ (by omega) (by omega)
  have u3 : 97 + (m : Int) = ((97 + m : Nat) : Int) := by omega
  obtain ⟨am, ham⟩ : ∃ am, 97 + m = am := ⟨_, rfl⟩
  rw [ham] at u3
  have u4 : IntKind.i64.wrap (am : Int) = (am : Int) := wrap_small _ (by omega) (by omega)
  go_loopw [10] (fun v10 wr => ∃ i : Nat, i ≤ mk ∧ v10 = .int .i64 (i : Int) ∧ Hid (Rr w1 wr pb k m face i)) (fun v10 _ => mk - (intOf v10).toNat)
  case atStart => exact ⟨0, Nat.zero_le _, rfl, hst⟩
  case round =>
    obtain ⟨i, hi, rfl, HK⟩ := hrel
    by_cases him : i < mk
    · have d1 : decide ((i : Int) < (mk : Int)) = true := by simp; omega
      have d2 : (i : Int) < (mk : Int) := by omega
      obtain ⟨zi, hzi⟩ : ∃ z, (i : Int) - (m : Int) = z := ⟨_, rfl⟩
      obtain ⟨zj, hzj⟩ : ∃ z, zi + 1 = z := ⟨_, rfl⟩
      obtain ⟨zq, hzq⟩ : ∃ z, Int.tmod zj (k : Int) = z := ⟨_, rfl⟩
      have hqb : -8 < zq ∧ zq < 8 := by
        have h1 := Int.tmod_lt_of_pos zj (show (0 : Int) < (k : Int) by omega)
        have h2 := Int.lt_tmod_of_pos zj (show (0 : Int) < (k : Int) by omega)
        omega
      obtain ⟨uu, huu⟩ : ∃ u : Nat, (am : Int) + zq = (u : Int) := ⟨((am : Int) + zq).toNat, by omega⟩
      have x1 : IntKind.i64.wrap zi = zi := by rw [IntKind.wrap_i64]; omega
      have x2 : IntKind.i64.wrap zj = zj := by rw [IntKind.wrap_i64]; omega
      have x3 : IntKind.i64.wrap zq = zq := by rw [IntKind.wrap_i64]; omega
      have x4 : IntKind.i64.wrap (uu : Int) = (uu : Int) := wrap_small _ (by omega) (by omega)
      have x5 : IntKind.u8.wrap (uu : Int) = (uu : Int) := by rw [IntKind.wrap_u8]; omega
      obtain ⟨ai, hai⟩ : ∃ a, 97 + i = a := ⟨_, rfl⟩
      have y1 : 97 + (i : Int) = (ai : Int) := by omega
      have y2 : IntKind.i64.wrap (ai : Int) = (ai : Int) := wrap_small _ (by omega) (by omega)
      have y3 : IntKind.u8.wrap (ai : Int) = (ai : Int) := by rw [IntKind.wrap_u8]; omega
      have c1 := conv_one uu wr
      have c2 := conv_one ai (wr.alloc (.cells #[.int .u8 (uu : Int)] 5))
      rw [World.size_alloc] at c2
      have HX := Lib.hid (And.intro hai (And.intro hzq (And.intro hzj (And.intro hzi huu))))
      obtain ⟨V, e1, e2, e3⟩ := HK.out
      have hpb : pb < wr.heap.size := (Array.getElem?_eq_some_iff.1 e1).1
      obtain ⟨PV, cV, hVf, _, _⟩ := e2.rdv goodC8
      have hLl : ((ringL k m face).take i).length = i := by rw [List.length_take]; unfold ringL; rw [List.length_map, List.length_range]; omega
      rw [hLl] at hVf
      subst hVf
      have hri : (ringL k m face)[i]? = some (ringC k m face i) := by unfold ringL; rw [List.getElem?_map, List.getElem?_range (by omega)]; rfl
      have HE := Lib.hid (And.intro e1 (And.intro e2 (And.intro e3 (And.intro hLl hri))))
      have w10 : IntKind.i64.wrap ((i : Int) + 1) = (i : Int) + 1 := wrap_small _ (by omega) (by omega)
      clear e1 e2 e3 hLl hri HK
      cases face with
      | true =>
        by_cases hc : i < m
        · have dc : decide ((i : Int) < (m : Int)) = true := by simp; omega
          have tW : Turn [] wr (((wr.alloc (.cells #[.int .u8 (uu : Int)] 5)).alloc (.cells #[.int .u8 (ai : Int)] 5)).alloc (.cells #[.string ⟨#[UInt8.ofNat ai]⟩, .string ⟨#[]⟩, .bool true, .slice none 0 0, .slice none 0 0, .slice none 0 0, .slice none 0 0, .pointer none, .int .i64 ((i : Int) + 1), .int .i64 7] 51)) := by exact (((Turn.refl [] wr).alloc _).alloc _).alloc _
          have pc : World.cell? (((wr.alloc (.cells #[.int .u8 (uu : Int)] 5)).alloc (.cells #[.int .u8 (ai : Int)] 5)).alloc (.cells #[.string ⟨#[UInt8.ofNat ai]⟩, .string ⟨#[]⟩, .bool true, .slice none 0 0, .slice none 0 0, .slice none 0 0, .slice none 0 0, .pointer none, .int .i64 ((i : Int) + 1), .int .i64 7] 51)) ⟨pb, 0, none⟩ = some (.slice PV i cV) := cell_of_row _ pb 0 _ _ _ (tW.heap HE.out.1 (by simp))
          have HTW := Lib.hid tW
          have HOW : Hid (OwnL 51 10 RdC8 (fun g => pb < g) (((wr.alloc (.cells #[.int .u8 (uu : Int)] 5)).alloc (.cells #[.int .u8 (ai : Int)] 5)).alloc (.cells #[.string ⟨#[UInt8.ofNat ai]⟩, .string ⟨#[]⟩, .bool true, .slice none 0 0, .slice none 0 0, .slice none 0 0, .slice none 0 0, .pointer none, .int .i64 ((i : Int) + 1), .int .i64 7] 51)) (.slice PV i cV) ((ringL k m true).take i)) := Lib.hid (HE.out.2.1.turn goodC8 tW (by simp))
          have hrd : RdC8 (fun g => pb < g ∧ (Value.slice PV i cV).ownBlock ≠ some g) (((wr.alloc (.cells #[.int .u8 (uu : Int)] 5)).alloc (.cells #[.int .u8 (ai : Int)] 5)).alloc (.cells #[.string ⟨#[UInt8.ofNat ai]⟩, .string ⟨#[]⟩, .bool true, .slice none 0 0, .slice none 0 0, .slice none 0 0, .slice none 0 0, .pointer none, .int .i64 ((i : Int) + 1), .int .i64 7] 51)) [.string ⟨#[UInt8.ofNat ai]⟩, .string ⟨#[]⟩, .bool true, .slice none 0 0, .slice none 0 0, .slice none 0 0, .slice none 0 0, .pointer none, .int .i64 ((i : Int) + 1), .int .i64 7] (ringC k m true i) := by
            refine ⟨.slice none 0 0, ?_, ?_⟩
            · unfold rgC ringC rgT; simp only [HX.out.1]; simp
            · have hfc : (ringC k m true i).fcs = [] := by unfold ringC; simp; omega
              rw [hfc]; exact RdV.nil _ _ _
          have HRD := Lib.hid hrd
          have hi9 : i ≤ 1000000 := by omega
          clear tW hrd
          go_wp2_with (at_builtin
                       refine wpList_appL rfl (.tmp 72) (.tmp 74) 22 rfl (((wr.alloc (.cells #[.int .u8 (uu : Int)] 5)).alloc (.cells #[.int .u8 (ai : Int)] 5)).alloc (.cells #[.string ⟨#[UInt8.ofNat ai]⟩, .string ⟨#[]⟩, .bool true, .slice none 0 0, .slice none 0 0, .slice none 0 0, .slice none 0 0, .pointer none, .int .i64 ((i : Int) + 1), .int .i64 7] 51)) 51 10 160 _ RdC8 goodC8 (fun g => pb < g) Tryd.underlying22 class_info rfl (by omega) (by omega) (.slice PV i cV) ((ringL k m true).take i) rfl HOW.out _ [.string ⟨#[UInt8.ofNat ai]⟩, .string ⟨#[]⟩, .bool true, .slice none 0 0, .slice none 0 0, .slice none 0 0, .slice none 0 0, .pointer none, .int .i64 ((i : Int) + 1), .int .i64 7] (ringC k m true i) 1 rfl HRD.out (by simp [Act.eval]) (by rw [HE.out.2.2.2.1]; exact hi9) (by simp; omega) ?_
                       intro v6 w6 ho6 ht6 hm6
                       obtain ⟨P6, c6, hv6, _, _⟩ := ho6.rdv goodC8
                       rw [show ((ringL k m true).take i ++ [ringC k m true i]).length = i + 1 by rw [List.length_append, HE.out.2.2.2.1]; rfl] at hv6
                       subst hv6
                       have hb6 := ht6.heap (HTW.out.heap HE.out.1 (by simp)) (fun hg => by have h1 := (HOW.out.lt (g := pb) (by simpa using hg)).2; omega)
                       have n1 : w6.cell? ⟨pb, 0, none⟩ = some (.slice PV i cV) := cell_of_row w6 pb 0 _ _ _ hb6
                       have n1f : w6.frozen? ⟨pb, 0, none⟩ = false := frozen_of_row w6 pb 0 _ _ hb6
                       have HO6 := Lib.hid (And.intro ho6 (And.intro ht6 hb6))
                       clear ho6 ht6 hb6 hm6)
          have HN1 : Hid (Rr w1 (w6.setCell ⟨pb, 0, none⟩ (.slice P6 (i + 1) c6)) pb k m true (i + 1)) := by
            have tS : Turn [pb] w6 (w6.setCell ⟨pb, 0, none⟩ (.slice P6 (i + 1) c6)) := (Turn.refl [pb] w6).setCell (.inl (by simp)) _
            obtain ⟨ho6, ht6, hb6⟩ := HO6.out
            have hpw := HPB.out
            refine Lib.hid ⟨_, rset hb6 rfl, ?_, ?_⟩
            · rw [take_snoc HE.out.2.2.2.2]
              exact ho6.turn goodC8 tS (by simp)
            · refine ((HE.out.2.2.1.trans' HTW.out).trans ht6 (fun g hg => .inr ?_)).trans tS (fun g hg => .inr (by simp at hg; omega))
              have := (HOW.out.lt (g := g) (by simpa using hg)).2
              omega
          clear HO6 HOW HRD HTW n1 n1f pc HE HX
          go_wp2_with fail
          go_roundw
          case rel => exact ⟨i + 1, by omega, by go_num, HN1⟩
          case measure => simp [intOf]; omega
        · have dc : decide ((i : Int) < (m : Int)) = false := by simp; omega
          have hue : uu = 97 + (m + (i - m + 1) % k) := by
            obtain ⟨k1, k2, k3, k4, k5⟩ := HX.out
            have h1 : zj = ((i - m + 1 : Nat) : Int) := by omega
            have h2 : zq = (((i - m + 1) % k : Nat) : Int) := by rw [← k2, h1]; rfl
            omega
          have tW : Turn [] wr ((((wr.alloc (.cells #[.int .u8 (uu : Int)] 5)).alloc (.cells #[.int .u8 (ai : Int)] 5)).alloc (.cells #[.string ⟨#[UInt8.ofNat ai]⟩, .string ⟨#[]⟩, .bool true, .slice (some ⟨wr.heap.size + 1 + 1 + 1, 0, none⟩) 1 1, .slice none 0 0, .slice none 0 0, .slice none 0 0, .pointer none, .int .i64 ((i : Int) + 1), .int .i64 7] 51)).alloc (.cells #[.string ⟨#[UInt8.ofNat uu]⟩] 9)) := by exact ((((Turn.refl [] wr).alloc _).alloc _).alloc _).alloc _
          have pc : World.cell? ((((wr.alloc (.cells #[.int .u8 (uu : Int)] 5)).alloc (.cells #[.int .u8 (ai : Int)] 5)).alloc (.cells #[.string ⟨#[UInt8.ofNat ai]⟩, .string ⟨#[]⟩, .bool true, .slice (some ⟨wr.heap.size + 1 + 1 + 1, 0, none⟩) 1 1, .slice none 0 0, .slice none 0 0, .slice none 0 0, .pointer none, .int .i64 ((i : Int) + 1), .int .i64 7] 51)).alloc (.cells #[.string ⟨#[UInt8.ofNat uu]⟩] 9)) ⟨pb, 0, none⟩ = some (.slice PV i cV) := cell_of_row _ pb 0 _ _ _ (tW.heap HE.out.1 (by simp))
          have HTW := Lib.hid tW
          have HOW : Hid (OwnL 51 10 RdC8 (fun g => pb < g) ((((wr.alloc (.cells #[.int .u8 (uu : Int)] 5)).alloc (.cells #[.int .u8 (ai : Int)] 5)).alloc (.cells #[.string ⟨#[UInt8.ofNat ai]⟩, .string ⟨#[]⟩, .bool true, .slice (some ⟨wr.heap.size + 1 + 1 + 1, 0, none⟩) 1 1, .slice none 0 0, .slice none 0 0, .slice none 0 0, .pointer none, .int .i64 ((i : Int) + 1), .int .i64 7] 51)).alloc (.cells #[.string ⟨#[UInt8.ofNat uu]⟩] 9)) (.slice PV i cV) ((ringL k m true).take i)) := Lib.hid (HE.out.2.1.turn goodC8 tW (by simp))
          have hfb : (((((wr.alloc (.cells #[.int .u8 (uu : Int)] 5)).alloc (.cells #[.int .u8 (ai : Int)] 5)).alloc (.cells #[.string ⟨#[UInt8.ofNat ai]⟩, .string ⟨#[]⟩, .bool true, .slice (some ⟨wr.heap.size + 1 + 1 + 1, 0, none⟩) 1 1, .slice none 0 0, .slice none 0 0, .slice none 0 0, .pointer none, .int .i64 ((i : Int) + 1), .int .i64 7] 51)).alloc (.cells #[.string ⟨#[UInt8.ofNat uu]⟩] 9))).heap[wr.heap.size + 1 + 1 + 1]? = some (.cells #[.string ⟨#[UInt8.ofNat uu]⟩] 9 (0, 0)) := by
            have := heap_alloc_new (((wr.alloc (.cells #[.int .u8 (uu : Int)] 5)).alloc (.cells #[.int .u8 (ai : Int)] 5)).alloc (.cells #[.string ⟨#[UInt8.ofNat ai]⟩, .string ⟨#[]⟩, .bool true, .slice (some ⟨wr.heap.size + 1 + 1 + 1, 0, none⟩) 1 1, .slice none 0 0, .slice none 0 0, .slice none 0 0, .pointer none, .int .i64 ((i : Int) + 1), .int .i64 7] 51)) (.cells #[.string ⟨#[UInt8.ofNat uu]⟩] 9)
            simp only [World.size_alloc] at this
            exact this
          have hrd : RdC8 (fun g => pb < g ∧ (Value.slice PV i cV).ownBlock ≠ some g) ((((wr.alloc (.cells #[.int .u8 (uu : Int)] 5)).alloc (.cells #[.int .u8 (ai : Int)] 5)).alloc (.cells #[.string ⟨#[UInt8.ofNat ai]⟩, .string ⟨#[]⟩, .bool true, .slice (some ⟨wr.heap.size + 1 + 1 + 1, 0, none⟩) 1 1, .slice none 0 0, .slice none 0 0, .slice none 0 0, .pointer none, .int .i64 ((i : Int) + 1), .int .i64 7] 51)).alloc (.cells #[.string ⟨#[UInt8.ofNat uu]⟩] 9)) [.string ⟨#[UInt8.ofNat ai]⟩, .string ⟨#[]⟩, .bool true, .slice (some ⟨wr.heap.size + 1 + 1 + 1, 0, none⟩) 1 1, .slice none 0 0, .slice none 0 0, .slice none 0 0, .pointer none, .int .i64 ((i : Int) + 1), .int .i64 7] (ringC k m true i) := by
            refine ⟨.slice (some ⟨wr.heap.size + 1 + 1 + 1, 0, none⟩) 1 1, ?_, ?_⟩
            · unfold rgC ringC rgT; simp only [HX.out.1]; simp
            · have hfc : (ringC k m true i).fcs = [⟨#[UInt8.ofNat uu]⟩] := by
                unfold ringC rgU rgT; simp [hc, hue] <;> omega
              rw [hfc]
              refine ⟨_, 1, rfl, Nat.le_refl _, .inr ⟨_, rfl, ⟨by omega, fun hv => ?_⟩, (Array.getElem?_eq_some_iff.1 hfb).1, fun j x hx => ?_⟩⟩
              · have := (HE.out.2.1.lt hv).1; omega
              · have hj : j = 0 := by have := (List.getElem?_eq_some_iff.1 hx).1; simp at this; omega
                subst hj
                simp at hx
                subst hx
                refine ⟨[.string ⟨#[UInt8.ofNat uu]⟩], fun q y hy => ?_, rfl⟩
                rw [cell_of_row _ _ _ _ _ _ hfb]
                simpa using hy
          have HRD := Lib.hid hrd
          have hi9 : i ≤ 1000000 := by omega
          clear hue tW hrd hfb
          go_wp2_with (at_builtin
                       refine wpList_appL rfl (.tmp 72) (.tmp 74) 22 rfl ((((wr.alloc (.cells #[.int .u8 (uu : Int)] 5)).alloc (.cells #[.int .u8 (ai : Int)] 5)).alloc (.cells #[.string ⟨#[UInt8.ofNat ai]⟩, .string ⟨#[]⟩, .bool true, .slice (some ⟨wr.heap.size + 1 + 1 + 1, 0, none⟩) 1 1, .slice none 0 0, .slice none 0 0, .slice none 0 0, .pointer none, .int .i64 ((i : Int) + 1), .int .i64 7] 51)).alloc (.cells #[.string ⟨#[UInt8.ofNat uu]⟩] 9)) 51 10 160 _ RdC8 goodC8 (fun g => pb < g) Tryd.underlying22 class_info rfl (by omega) (by omega) (.slice PV i cV) ((ringL k m true).take i) rfl HOW.out _ [.string ⟨#[UInt8.ofNat ai]⟩, .string ⟨#[]⟩, .bool true, .slice (some ⟨wr.heap.size + 1 + 1 + 1, 0, none⟩) 1 1, .slice none 0 0, .slice none 0 0, .slice none 0 0, .pointer none, .int .i64 ((i : Int) + 1), .int .i64 7] (ringC k m true i) 1 rfl HRD.out (by simp [Act.eval]) (by rw [HE.out.2.2.2.1]; exact hi9) (by simp; omega) ?_
                       intro v6 w6 ho6 ht6 hm6
                       obtain ⟨P6, c6, hv6, _, _⟩ := ho6.rdv goodC8
                       rw [show ((ringL k m true).take i ++ [ringC k m true i]).length = i + 1 by rw [List.length_append, HE.out.2.2.2.1]; rfl] at hv6
                       subst hv6
                       have hb6 := ht6.heap (HTW.out.heap HE.out.1 (by simp)) (fun hg => by have h1 := (HOW.out.lt (g := pb) (by simpa using hg)).2; omega)
                       have n1 : w6.cell? ⟨pb, 0, none⟩ = some (.slice PV i cV) := cell_of_row w6 pb 0 _ _ _ hb6
                       have n1f : w6.frozen? ⟨pb, 0, none⟩ = false := frozen_of_row w6 pb 0 _ _ hb6
                       have HO6 := Lib.hid (And.intro ho6 (And.intro ht6 hb6))
                       clear ho6 ht6 hb6 hm6)
          have HN1 : Hid (Rr w1 (w6.setCell ⟨pb, 0, none⟩ (.slice P6 (i + 1) c6)) pb k m true (i + 1)) := by
            have tS : Turn [pb] w6 (w6.setCell ⟨pb, 0, none⟩ (.slice P6 (i + 1) c6)) := (Turn.refl [pb] w6).setCell (.inl (by simp)) _
            obtain ⟨ho6, ht6, hb6⟩ := HO6.out
            have hpw := HPB.out
            refine Lib.hid ⟨_, rset hb6 rfl, ?_, ?_⟩
            · rw [take_snoc HE.out.2.2.2.2]
              exact ho6.turn goodC8 tS (by simp)
            · refine ((HE.out.2.2.1.trans' HTW.out).trans ht6 (fun g hg => .inr ?_)).trans tS (fun g hg => .inr (by simp at hg; omega))
              have := (HOW.out.lt (g := g) (by simpa using hg)).2
              omega
          clear HO6 HOW HRD HTW n1 n1f pc HE HX
          go_wp2_with fail
          go_roundw
          case rel => exact ⟨i + 1, by omega, by go_num, HN1⟩
          case measure => simp [intOf]; omega
      | false =>
        by_cases hc : i < m
        · have dc : decide ((i : Int) < (m : Int)) = true := by simp; omega
          have tW : Turn [] wr (((wr.alloc (.cells #[.int .u8 (uu : Int)] 5)).alloc (.cells #[.int .u8 (ai : Int)] 5)).alloc (.cells #[.string ⟨#[UInt8.ofNat ai]⟩, .string ⟨#[]⟩, .bool false, .slice none 0 0, .slice none 0 0, .slice none 0 0, .slice none 0 0, .pointer none, .int .i64 ((i : Int) + 1), .int .i64 7] 51)) := by exact (((Turn.refl [] wr).alloc _).alloc _).alloc _
          have pc : World.cell? (((wr.alloc (.cells #[.int .u8 (uu : Int)] 5)).alloc (.cells #[.int .u8 (ai : Int)] 5)).alloc (.cells #[.string ⟨#[UInt8.ofNat ai]⟩, .string ⟨#[]⟩, .bool false, .slice none 0 0, .slice none 0 0, .slice none 0 0, .slice none 0 0, .pointer none, .int .i64 ((i : Int) + 1), .int .i64 7] 51)) ⟨pb, 0, none⟩ = some (.slice PV i cV) := cell_of_row _ pb 0 _ _ _ (tW.heap HE.out.1 (by simp))
          have HTW := Lib.hid tW
          have HOW : Hid (OwnL 51 10 RdC8 (fun g => pb < g) (((wr.alloc (.cells #[.int .u8 (uu : Int)] 5)).alloc (.cells #[.int .u8 (ai : Int)] 5)).alloc (.cells #[.string ⟨#[UInt8.ofNat ai]⟩, .string ⟨#[]⟩, .bool false, .slice none 0 0, .slice none 0 0, .slice none 0 0, .slice none 0 0, .pointer none, .int .i64 ((i : Int) + 1), .int .i64 7] 51)) (.slice PV i cV) ((ringL k m false).take i)) := Lib.hid (HE.out.2.1.turn goodC8 tW (by simp))
          have hrd : RdC8 (fun g => pb < g ∧ (Value.slice PV i cV).ownBlock ≠ some g) (((wr.alloc (.cells #[.int .u8 (uu : Int)] 5)).alloc (.cells #[.int .u8 (ai : Int)] 5)).alloc (.cells #[.string ⟨#[UInt8.ofNat ai]⟩, .string ⟨#[]⟩, .bool false, .slice none 0 0, .slice none 0 0, .slice none 0 0, .slice none 0 0, .pointer none, .int .i64 ((i : Int) + 1), .int .i64 7] 51)) [.string ⟨#[UInt8.ofNat ai]⟩, .string ⟨#[]⟩, .bool false, .slice none 0 0, .slice none 0 0, .slice none 0 0, .slice none 0 0, .pointer none, .int .i64 ((i : Int) + 1), .int .i64 7] (ringC k m false i) := by
            refine ⟨.slice none 0 0, ?_, ?_⟩
            · unfold rgC ringC rgU rgT; simp only [HX.out.1, hc]; simp
            · have hfc : (ringC k m false i).fcs = [] := by unfold ringC; simp
              rw [hfc]; exact RdV.nil _ _ _
          have HRD := Lib.hid hrd
          have hi9 : i ≤ 1000000 := by omega
          clear tW hrd
          go_wp2_with (at_builtin
                       refine wpList_appL rfl (.tmp 72) (.tmp 74) 22 rfl (((wr.alloc (.cells #[.int .u8 (uu : Int)] 5)).alloc (.cells #[.int .u8 (ai : Int)] 5)).alloc (.cells #[.string ⟨#[UInt8.ofNat ai]⟩, .string ⟨#[]⟩, .bool false, .slice none 0 0, .slice none 0 0, .slice none 0 0, .slice none 0 0, .pointer none, .int .i64 ((i : Int) + 1), .int .i64 7] 51)) 51 10 160 _ RdC8 goodC8 (fun g => pb < g) Tryd.underlying22 class_info rfl (by omega) (by omega) (.slice PV i cV) ((ringL k m false).take i) rfl HOW.out _ [.string ⟨#[UInt8.ofNat ai]⟩, .string ⟨#[]⟩, .bool false, .slice none 0 0, .slice none 0 0, .slice none 0 0, .slice none 0 0, .pointer none, .int .i64 ((i : Int) + 1), .int .i64 7] (ringC k m false i) 1 rfl HRD.out (by simp [Act.eval]) (by rw [HE.out.2.2.2.1]; exact hi9) (by simp; omega) ?_
                       intro v6 w6 ho6 ht6 hm6
                       obtain ⟨P6, c6, hv6, _, _⟩ := ho6.rdv goodC8
                       rw [show ((ringL k m false).take i ++ [ringC k m false i]).length = i + 1 by rw [List.length_append, HE.out.2.2.2.1]; rfl] at hv6
                       subst hv6
                       have hb6 := ht6.heap (HTW.out.heap HE.out.1 (by simp)) (fun hg => by have h1 := (HOW.out.lt (g := pb) (by simpa using hg)).2; omega)
                       have n1 : w6.cell? ⟨pb, 0, none⟩ = some (.slice PV i cV) := cell_of_row w6 pb 0 _ _ _ hb6
                       have n1f : w6.frozen? ⟨pb, 0, none⟩ = false := frozen_of_row w6 pb 0 _ _ hb6
                       have HO6 := Lib.hid (And.intro ho6 (And.intro ht6 hb6))
                       clear ho6 ht6 hb6 hm6)
          have HN1 : Hid (Rr w1 (w6.setCell ⟨pb, 0, none⟩ (.slice P6 (i + 1) c6)) pb k m false (i + 1)) := by
            have tS : Turn [pb] w6 (w6.setCell ⟨pb, 0, none⟩ (.slice P6 (i + 1) c6)) := (Turn.refl [pb] w6).setCell (.inl (by simp)) _
            obtain ⟨ho6, ht6, hb6⟩ := HO6.out
            have hpw := HPB.out
            refine Lib.hid ⟨_, rset hb6 rfl, ?_, ?_⟩
            · rw [take_snoc HE.out.2.2.2.2]
              exact ho6.turn goodC8 tS (by simp)
            · refine ((HE.out.2.2.1.trans' HTW.out).trans ht6 (fun g hg => .inr ?_)).trans tS (fun g hg => .inr (by simp at hg; omega))
              have := (HOW.out.lt (g := g) (by simpa using hg)).2
              omega
          clear HO6 HOW HRD HTW n1 n1f pc HE HX
          go_wp2_with fail
          go_roundw
          case rel => exact ⟨i + 1, by omega, by go_num, HN1⟩
          case measure => simp [intOf]; omega
        · have dc : decide ((i : Int) < (m : Int)) = false := by simp; omega
          have hue : uu = 97 + (m + (i - m + 1) % k) := by
            obtain ⟨k1, k2, k3, k4, k5⟩ := HX.out
            have h1 : zj = ((i - m + 1 : Nat) : Int) := by omega
            have h2 : zq = (((i - m + 1) % k : Nat) : Int) := by rw [← k2, h1]; rfl
            omega
          have tW : Turn [] wr (((wr.alloc (.cells #[.int .u8 (uu : Int)] 5)).alloc (.cells #[.int .u8 (ai : Int)] 5)).alloc (.cells #[.string ⟨#[UInt8.ofNat ai]⟩, .string ⟨#[UInt8.ofNat uu]⟩, .bool false, .slice none 0 0, .slice none 0 0, .slice none 0 0, .slice none 0 0, .pointer none, .int .i64 ((i : Int) + 1), .int .i64 7] 51)) := by exact (((Turn.refl [] wr).alloc _).alloc _).alloc _
          have pc : World.cell? (((wr.alloc (.cells #[.int .u8 (uu : Int)] 5)).alloc (.cells #[.int .u8 (ai : Int)] 5)).alloc (.cells #[.string ⟨#[UInt8.ofNat ai]⟩, .string ⟨#[UInt8.ofNat uu]⟩, .bool false, .slice none 0 0, .slice none 0 0, .slice none 0 0, .slice none 0 0, .pointer none, .int .i64 ((i : Int) + 1), .int .i64 7] 51)) ⟨pb, 0, none⟩ = some (.slice PV i cV) := cell_of_row _ pb 0 _ _ _ (tW.heap HE.out.1 (by simp))
          have HTW := Lib.hid tW
          have HOW : Hid (OwnL 51 10 RdC8 (fun g => pb < g) (((wr.alloc (.cells #[.int .u8 (uu : Int)] 5)).alloc (.cells #[.int .u8 (ai : Int)] 5)).alloc (.cells #[.string ⟨#[UInt8.ofNat ai]⟩, .string ⟨#[UInt8.ofNat uu]⟩, .bool false, .slice none 0 0, .slice none 0 0, .slice none 0 0, .slice none 0 0, .pointer none, .int .i64 ((i : Int) + 1), .int .i64 7] 51)) (.slice PV i cV) ((ringL k m false).take i)) := Lib.hid (HE.out.2.1.turn goodC8 tW (by simp))
          have hrd : RdC8 (fun g => pb < g ∧ (Value.slice PV i cV).ownBlock ≠ some g) (((wr.alloc (.cells #[.int .u8 (uu : Int)] 5)).alloc (.cells #[.int .u8 (ai : Int)] 5)).alloc (.cells #[.string ⟨#[UInt8.ofNat ai]⟩, .string ⟨#[UInt8.ofNat uu]⟩, .bool false, .slice none 0 0, .slice none 0 0, .slice none 0 0, .slice none 0 0, .pointer none, .int .i64 ((i : Int) + 1), .int .i64 7] 51)) [.string ⟨#[UInt8.ofNat ai]⟩, .string ⟨#[UInt8.ofNat uu]⟩, .bool false, .slice none 0 0, .slice none 0 0, .slice none 0 0, .slice none 0 0, .pointer none, .int .i64 ((i : Int) + 1), .int .i64 7] (ringC k m false i) := by
            refine ⟨.slice none 0 0, ?_, ?_⟩
            · unfold rgC ringC rgU rgT; simp only [HX.out.1, hc, hue]; simp
            · have hfc : (ringC k m false i).fcs = [] := by unfold ringC; simp
              rw [hfc]; exact RdV.nil _ _ _
          have HRD := Lib.hid hrd
          have hi9 : i ≤ 1000000 := by omega
          clear hue tW hrd
          go_wp2_with (at_builtin
                       refine wpList_appL rfl (.tmp 72) (.tmp 74) 22 rfl (((wr.alloc (.cells #[.int .u8 (uu : Int)] 5)).alloc (.cells #[.int .u8 (ai : Int)] 5)).alloc (.cells #[.string ⟨#[UInt8.ofNat ai]⟩, .string ⟨#[UInt8.ofNat uu]⟩, .bool false, .slice none 0 0, .slice none 0 0, .slice none 0 0, .slice none 0 0, .pointer none, .int .i64 ((i : Int) + 1), .int .i64 7] 51)) 51 10 160 _ RdC8 goodC8 (fun g => pb < g) Tryd.underlying22 class_info rfl (by omega) (by omega) (.slice PV i cV) ((ringL k m false).take i) rfl HOW.out _ [.string ⟨#[UInt8.ofNat ai]⟩, .string ⟨#[UInt8.ofNat uu]⟩, .bool false, .slice none 0 0, .slice none 0 0, .slice none 0 0, .slice none 0 0, .pointer none, .int .i64 ((i : Int) + 1), .int .i64 7] (ringC k m false i) 1 rfl HRD.out (by simp [Act.eval]) (by rw [HE.out.2.2.2.1]; exact hi9) (by simp; omega) ?_
                       intro v6 w6 ho6 ht6 hm6
                       obtain ⟨P6, c6, hv6, _, _⟩ := ho6.rdv goodC8
                       rw [show ((ringL k m false).take i ++ [ringC k m false i]).length = i + 1 by rw [List.length_append, HE.out.2.2.2.1]; rfl] at hv6
                       subst hv6
                       have hb6 := ht6.heap (HTW.out.heap HE.out.1 (by simp)) (fun hg => by have h1 := (HOW.out.lt (g := pb) (by simpa using hg)).2; omega)
                       have n1 : w6.cell? ⟨pb, 0, none⟩ = some (.slice PV i cV) := cell_of_row w6 pb 0 _ _ _ hb6
                       have n1f : w6.frozen? ⟨pb, 0, none⟩ = false := frozen_of_row w6 pb 0 _ _ hb6
                       have HO6 := Lib.hid (And.intro ho6 (And.intro ht6 hb6))
                       clear ho6 ht6 hb6 hm6)
          have HN1 : Hid (Rr w1 (w6.setCell ⟨pb, 0, none⟩ (.slice P6 (i + 1) c6)) pb k m false (i + 1)) := by
            have tS : Turn [pb] w6 (w6.setCell ⟨pb, 0, none⟩ (.slice P6 (i + 1) c6)) := (Turn.refl [pb] w6).setCell (.inl (by simp)) _
            obtain ⟨ho6, ht6, hb6⟩ := HO6.out
            have hpw := HPB.out
            refine Lib.hid ⟨_, rset hb6 rfl, ?_, ?_⟩
            · rw [take_snoc HE.out.2.2.2.2]
              exact ho6.turn goodC8 tS (by simp)
            · refine ((HE.out.2.2.1.trans' HTW.out).trans ht6 (fun g hg => .inr ?_)).trans tS (fun g hg => .inr (by simp at hg; omega))
              have := (HOW.out.lt (g := g) (by simpa using hg)).2
              omega
          clear HO6 HOW HRD HTW n1 n1f pc HE HX
          go_wp2_with fail
          go_roundw
          case rel => exact ⟨i + 1, by omega, by go_num, HN1⟩
          case measure => simp [intOf]; omega
    · obtain rfl : i = mk := by omega
      have d1 : decide ((i : Int) < (i : Int)) = false := by simp
      obtain ⟨V, e1, e2, e3⟩ := HK.out
      have htk : (ringL k m face).take i = ringL k m face := List.take_of_length_le (by rw [ring_len]; omega)
      rw [htk] at e2
      obtain ⟨PV, cV, hVf, hcV, hrd⟩ := rdks_of (e2.rdv goodC8)
      have hll : (ringL k m face).length = i := by rw [ring_len]; exact hmk
      rw [hll] at hVf
      subst hVf
      have rf := ring_facts (k := k) (m := m) (by omega) hm4 face
      have HNw := Lib.hid (new_any PV cV wr.heap.size (ringL k m face) (.string ⟨#[]⟩) (.string ⟨#[]⟩) (.bool false) (.bool false) (.slice none 0 0) (.slice none 0 0) (.slice none 0 0) (.int .i64 0) (.int .i64 0) wr hrd (Nat.le_refl _) (ring_kok (by omega) face))
      rw [hll] at HNw
      have pp : ∀ W F, Turn F wr W → pb ∉ F → ∀ (q : Nat) (v : Value), (pgC (.slice PV i cV))[q]? = some v → W.cell? ⟨pb, q, none⟩ = some v := fun W F t hF q v hv => (cell_of_row W pb q _ _ _ (t.heap e1 hF)).trans hv
      have p0 := pp wr [] (Turn.refl _ _) (by simp) 0 _ rfl
      have p1 := pp wr [] (Turn.refl _ _) (by simp) 1 _ rfl
      have p2 := pp wr [] (Turn.refl _ _) (by simp) 2 _ rfl
      have p3 := pp wr [] (Turn.refl _ _) (by simp) 3 _ rfl
      have p4 := pp wr [] (Turn.refl _ _) (by simp) 4 _ rfl
      have p5 := pp wr [] (Turn.refl _ _) (by simp) 5 _ rfl
      have p6 := pp wr [] (Turn.refl _ _) (by simp) 6 _ rfl
      have p7 := pp wr [] (Turn.refl _ _) (by simp) 7 _ rfl
      have p8 := pp wr [] (Turn.refl _ _) (by simp) 8 _ rfl
      have p9 := pp wr [] (Turn.refl _ _) (by simp) 9 _ rfl
      have HP := Lib.hid pp
      have HE := Lib.hid (And.intro e1 (And.intro e2 (And.intro e3 (And.intro hll hrd))))
      have HRF := Lib.hid rf
      clear e1 e2 e3 hll hrd rf pp htk HK hst
      go_wp2_with fail
      refine HNw.out.mono ?_
      rintro e w2 ⟨hN, t2⟩
      have hcm : (ringL k m face)[m]? = some (ringC k m face m) := by unfold ringL; rw [List.getElem?_map, List.getElem?_range (by omega)]; rfl
      have he := nw_rnd hN HRF.out.1.1 HRF.out.1.2.1 HRF.out.1.2.2 hcm
      subst he
      have hpq : (ringC k m face m).p = ((m : Int) + 1) ∧ (ringC k m face m).q = 7 := by unfold ringC; simp
      rw [hpq.1, hpq.2]
      have HT2 := Lib.hid t2
      clear hN t2 hcm hpq p0 p1 p2 p3 p4 p5 p6 p7 p8 p9 HNw
      unfold ftC
      obtain ⟨W3, hW3⟩ : ∃ W, w2.alloc (.cells #[.int .i64 11, .int .i64 ((m : Int) + 1), .int .i64 7] 36) = W := ⟨_, rfl⟩
      have t3 : Turn [] wr W3 := by rw [← hW3]; exact HT2.out.alloc _
      have p0 : W3.cell? ⟨pb, 0, none⟩ = some (.slice PV i cV) := HP.out W3 [] t3 (by simp) 0 _ rfl
      have HW3 := Lib.hid hW3
      have HT3 := Lib.hid t3
      clear hW3 t3
      go_upto_region 18 with fail
      rw [HW3.out]
      obtain ⟨L, hL⟩ : ∃ L, i - 1 = L := ⟨_, rfl⟩
      have hLi : L < i := by omega
      have q1 : (i : Int) - 1 = (L : Int) := by omega
      have q2 : IntKind.i64.wrap (L : Int) = (L : Int) := wrap_small _ (by omega) (by omega)
      have q3 : (L : Int) < (i : Int) := by omega
      have hcL : (ringL k m face)[L]? = some (ringC k m face L) := by unfold ringL; rw [List.getElem?_map, List.getElem?_range (by omega)]; rfl
      have e3W := HE.out.2.1.turn goodC8 HT3.out (by simp)
      obtain ⟨g, cg, hVg, hgl, _, hfro, _⟩ := rdks_set (c' := ⟨⟨#[]⟩, ⟨#[]⟩, face, [], 0, 0⟩) e3W (by rw [HE.out.2.2.2.1]; exact hLi) [.string ⟨#[]⟩, .string ⟨#[]⟩, .bool face, .slice none 0 0, .slice none 0 0, .slice none 0 0, .slice none 0 0, .pointer none, .int .i64 0, .int .i64 0] rfl ⟨none, 0, none, 0, 0, none, 0, 0, none, 0, 0, none, rfl, fun k s hs => by simp at hs⟩ rfl
      rw [HE.out.2.2.2.1] at hVg
      injection hVg with hVg1 _ hVg2
      subst hVg1 hVg2
      obtain ⟨b, off, cs, eA, hb, hbl, hcell, A3, c3, A4, n4, c4, A5, n5, c5, A6, n6, c6, I, rfl, hst⟩ := (HE.out.2.2.2.2.turn HT3.out (by simp)) L _ hcL
      injection eA with eA
      injection eA with eA1 eA2
      subst eA1 eA2
      rw [Nat.zero_add] at hcell
      obtain ⟨x, hx⟩ : ∃ x, ringC k m face L = x := ⟨_, rfl⟩
      rw [hx] at hcell hst
      have e0 : W3.cell? ⟨g, L * 10, none⟩ = some (.string x.nm) := hcell 0 _ rfl
      have e1 := hcell 1 _ rfl
      have e2 := hcell 2 _ rfl
      have e3 := hcell 3 _ rfl
      have e4 := hcell 4 _ rfl
      have e5 := hcell 5 _ rfl
      have e6 := hcell 6 _ rfl
      have e7 := hcell 7 _ rfl
      have e8 := hcell 8 _ rfl
      have e9 := hcell 9 _ rfl
      have HXX := Lib.hid (And.intro hx hst)
      have HFR := Lib.hid hfro
      clear hst hfro hcell e3W hx hcL hb hbl
      go_upto_region 20 with fail
      obtain ⟨h5, hh5⟩ : ∃ h, W3.heap.size = h := ⟨_, rfl⟩
      obtain ⟨W4, hW4⟩ : ∃ W, W3.alloc (.cells #[.string x.nm, .string ⟨#[]⟩, .bool x.face, .slice none 0 0, .slice A4 n4 c4, .slice A5 n5 c5, .slice A6 n6 c6, .pointer I, .int .i64 x.p, .int .i64 x.q] 51) = W := ⟨_, rfl⟩
      rw [hh5, hW4]
      have t4 : Turn [] W3 W4 := by rw [← hW4]; exact (Turn.refl [] W3).alloc _
      have b4 : W4.heap[h5]? = some (.cells #[.string x.nm, .string ⟨#[]⟩, .bool x.face, .slice none 0 0, .slice A4 n4 c4, .slice A5 n5 c5, .slice A6 n6 c6, .pointer I, .int .i64 x.p, .int .i64 x.q] 51 (0, 0)) := by rw [← hW4, ← hh5]; exact heap_alloc_new W3 _
      have z0 : W4.cell? ⟨h5, 0, none⟩ = some (.string x.nm) := cell_of_row W4 h5 0 _ _ _ b4
      have z1 : W4.cell? ⟨h5, 1, none⟩ = some (.string ⟨#[]⟩) := cell_of_row W4 h5 1 _ _ _ b4
      have z2 : W4.cell? ⟨h5, 2, none⟩ = some (.bool x.face) := cell_of_row W4 h5 2 _ _ _ b4
      have z3 : W4.cell? ⟨h5, 3, none⟩ = some (.slice none 0 0) := cell_of_row W4 h5 3 _ _ _ b4
      have z4 : W4.cell? ⟨h5, 4, none⟩ = some (.slice A4 n4 c4) := cell_of_row W4 h5 4 _ _ _ b4
      have z5 : W4.cell? ⟨h5, 5, none⟩ = some (.slice A5 n5 c5) := cell_of_row W4 h5 5 _ _ _ b4
      have z6 : W4.cell? ⟨h5, 6, none⟩ = some (.slice A6 n6 c6) := cell_of_row W4 h5 6 _ _ _ b4
      have z7 : W4.cell? ⟨h5, 7, none⟩ = some (.pointer I) := cell_of_row W4 h5 7 _ _ _ b4
      have z8 : W4.cell? ⟨h5, 8, none⟩ = some (.int .i64 x.p) := cell_of_row W4 h5 8 _ _ _ b4
      have z9 : W4.cell? ⟨h5, 9, none⟩ = some (.int .i64 x.q) := cell_of_row W4 h5 9 _ _ _ b4
      have tt4 := HT3.out.trans' t4
      have p0 : W4.cell? ⟨pb, 0, none⟩ = some (.slice (some ⟨g, 0, none⟩) i cV) := HP.out W4 [] tt4 (by simp) 0 _ rfl
      have k4 : ∀ (q : Nat) (v : Value), W3.cell? ⟨g, L * 10 + q, none⟩ = some v → W4.cell? ⟨g, L * 10 + q, none⟩ = some v := fun q v hv => (t4.cell (p := ⟨g, L * 10 + q, none⟩) hgl (by simp)).trans hv
      have k0 : W4.cell? ⟨g, L * 10, none⟩ = some (.string x.nm) := k4 0 _ e0
      have k1 := k4 1 _ e1
      have k2 := k4 2 _ e2
      have k3 := k4 3 _ e3
      have k5 := k4 5 _ e5
      have k6 := k4 6 _ e6
      have k7 := k4 7 _ e7
      have k8 := k4 8 _ e8
      have k9 := k4 9 _ e9
      have k4 := k4 4 _ e4
      obtain ⟨g', cg', hVg', hgl', _, hfro, hset⟩ := rdks_set (c' := ⟨x.nm, ⟨#[]⟩, x.face, [], x.p, x.q⟩) (HE.out.2.1.turn goodC8 tt4 (by simp)) (by rw [HE.out.2.2.2.1]; exact hLi) [.string x.nm, .string ⟨#[]⟩, .bool x.face, .slice none 0 0, .slice A4 n4 c4, .slice A5 n5 c5, .slice A6 n6 c6, .pointer I, .int .i64 x.p, .int .i64 x.q] rfl ⟨none, 0, A4, n4, c4, A5, n5, c5, A6, n6, c6, I, rfl, fun k s hs => by simp at hs⟩ rfl
      have eg : g = g' := by injection hVg' with e _ _; injection e with e; injection e
      subst eg
      have f0 := hfro (L * 10)
      have f1 := hfro (L * 10 + 1)
      have f2 := hfro (L * 10 + 2)
      have f3 := hfro (L * 10 + 3)
      have f4 := hfro (L * 10 + 4)
      have f5 := hfro (L * 10 + 5)
      have f6 := hfro (L * 10 + 6)
      have f7 := hfro (L * 10 + 7)
      have f8 := hfro (L * 10 + 8)
      have f9 := hfro (L * 10 + 9)
      have HSet := Lib.hid hset
      have HT4 := Lib.hid tt4
      have HT34 := Lib.hid t4
      clear hset hfro hVg' b4 tt4 t4 hW4 hh5 e0 e1 e2 e3 e4 e5 e6 e7 e8 e9
      go_upto_region 21 with fail
      obtain ⟨W5, hW5⟩ : ∃ W, ((((((((((W4.setCell ⟨g, L * 10, none⟩ (.string x.nm)).setCell ⟨g, L * 10 + 1, none⟩ (.string ⟨#[]⟩)).setCell ⟨g, L * 10 + 2, none⟩ (.bool x.face)).setCell ⟨g, L * 10 + 3, none⟩ (.slice none 0 0)).setCell ⟨g, L * 10 + 4, none⟩ (.slice A4 n4 c4)).setCell ⟨g, L * 10 + 5, none⟩ (.slice A5 n5 c5)).setCell ⟨g, L * 10 + 6, none⟩ (.slice A6 n6 c6)).setCell ⟨g, L * 10 + 7, none⟩ (.pointer I)).setCell ⟨g, L * 10 + 8, none⟩ (.int .i64 x.p)).setCell ⟨g, L * 10 + 9, none⟩ (.int .i64 x.q)) = W := ⟨_, rfl⟩
      rw [hW5]
      obtain ⟨hrd5, t5⟩ := HSet.out W5 (by rw [← hW5]; rfl)
      have hzz : (ringL k m face).set L ⟨x.nm, ⟨#[]⟩, x.face, [], x.p, x.q⟩ = ringZ k m face := by
        rw [← HXX.out.1]
        unfold ringZ ringC
        rw [show m + k - 1 = L by omega, show m + k = L + 1 by omega]
      rw [hzz] at hrd5
      have hpg : pb < g := (HE.out.2.1.lt (g := g) rfl).2
      have hlz : (ringZ k m face).length = i := by rw [ringZ_len]; exact hmk
      have HNw := Lib.hid (new_any (some ⟨g, 0, none⟩) cV W5.heap.size (ringZ k m face) (.string ⟨#[]⟩) (.string ⟨#[]⟩) (.bool false) (.bool false) (.slice none 0 0) (.slice none 0 0) (.slice none 0 0) (.int .i64 0) (.int .i64 0) W5 hrd5 (Nat.le_refl _) (ringZ_kok (by omega) face))
      rw [hlz] at HNw
      have tt5 : Turn [g] wr W5 := (HT4.out.more (by simp)).trans t5 (fun y hy => .inl hy)
      have hpF : pb ∉ [g] := by simp; omega
      have p0 : W5.cell? ⟨pb, 0, none⟩ = some (.slice (some ⟨g, 0, none⟩) i cV) := HP.out W5 [g] tt5 hpF 0 _ rfl
      have p1 : W5.cell? ⟨pb, 1, none⟩ = some (.string ⟨#[]⟩) := HP.out W5 [g] tt5 hpF 1 _ rfl
      have p2 : W5.cell? ⟨pb, 2, none⟩ = some (.string ⟨#[]⟩) := HP.out W5 [g] tt5 hpF 2 _ rfl
      have p3 : W5.cell? ⟨pb, 3, none⟩ = some (.bool false) := HP.out W5 [g] tt5 hpF 3 _ rfl
      have p4 : W5.cell? ⟨pb, 4, none⟩ = some (.bool false) := HP.out W5 [g] tt5 hpF 4 _ rfl
      have p5 : W5.cell? ⟨pb, 5, none⟩ = some (.slice none 0 0) := HP.out W5 [g] tt5 hpF 5 _ rfl
      have p6 : W5.cell? ⟨pb, 6, none⟩ = some (.slice none 0 0) := HP.out W5 [g] tt5 hpF 6 _ rfl
      have p7 : W5.cell? ⟨pb, 7, none⟩ = some (.slice none 0 0) := HP.out W5 [g] tt5 hpF 7 _ rfl
      have p8 : W5.cell? ⟨pb, 8, none⟩ = some (.int .i64 0) := HP.out W5 [g] tt5 hpF 8 _ rfl
      have p9 : W5.cell? ⟨pb, 9, none⟩ = some (.int .i64 0) := HP.out W5 [g] tt5 hpF 9 _ rfl
      have HT5 := Lib.hid (And.intro tt5 (And.intro t5 hpg))
      clear hrd5 t5 hzz hlz tt5 hW5 k0 k1 k2 k3 k4 k5 k6 k7 k8 k9 f0 f1 f2 f3 f4 f5 f6 f7 f8 f9 z0 z1 z2 z3 z4 z5 z6 z7 z8 z9
      go_wp2_with fail
      refine HNw.out.mono ?_
      rintro e w6 ⟨hN, t6⟩
      obtain ⟨t, tm, sz, V6, rfl, hrt, hTl, hM⟩ := nw_ok (F := 200) hN HRF.out.2.1 HRF.out.2.2.1 HRF.out.2.2.2.1
      have hok : EsOk (esL (ringZ k m face)) := esL_ok (by rw [ringZ_len]; omega) (fun c hc => ((ringZ_kok (show m + k ≤ 1000 by omega) face).nm c hc).2.2.2)
      obtain ⟨W7, hW7⟩ : ∃ W, w6.alloc (.cells #[.int .i64 0, .int .i64 0, .int .i64 0] 36) = W := ⟨_, rfl⟩
      have t7 : Turn [] w6 W7 := by rw [← hW7]; exact (Turn.refl [] w6).alloc _
      have b3 : W3.heap[w2.heap.size]? = some (.cells #[.int .i64 11, .int .i64 ((m : Int) + 1), .int .i64 7] 36 (0, 0)) := by rw [← HW3.out]; exact heap_alloc_new w2 _
      have hg2 : g < w2.heap.size := by have := (HE.out.2.1.lt (g := g) rfl).1; have := HT2.out.size; omega
      have b7 : W7.heap[w2.heap.size]? = some (.cells #[.int .i64 11, .int .i64 ((m : Int) + 1), .int .i64 7] 36 (0, 0)) := by
        have tt : Turn [g] W3 W7 := (((HT34.out.more (by simp)).trans HT5.out.2.1 (fun y hy => .inl hy)).trans' t6).trans' t7
        exact tt.heap b3 (by simp; omega)
      have r0 : W7.cell? ⟨w2.heap.size, 0, none⟩ = some (.int .i64 11) := cell_of_row W7 _ 0 _ _ _ b7
      have r1 : W7.cell? ⟨w2.heap.size, 1, none⟩ = some (.int .i64 ((m : Int) + 1)) := cell_of_row W7 _ 1 _ _ _ b7
      have r2 : W7.cell? ⟨w2.heap.size, 2, none⟩ = some (.int .i64 7) := cell_of_row W7 _ 2 _ _ _ b7
      have b17 : W7.heap[w6.heap.size]? = some (.cells #[.int .i64 0, .int .i64 0, .int .i64 0] 36 (0, 0)) := by rw [← hW7]; exact heap_alloc_new w6 _
      have s0 : W7.cell? ⟨w6.heap.size, 0, none⟩ = some (.int .i64 0) := cell_of_row W7 _ 0 _ _ _ b17
      have s1 : W7.cell? ⟨w6.heap.size, 1, none⟩ = some (.int .i64 0) := cell_of_row W7 _ 1 _ _ _ b17
      have s2 : W7.cell? ⟨w6.heap.size, 2, none⟩ = some (.int .i64 0) := cell_of_row W7 _ 2 _ _ _ b17
      clear b17
      have hTw : Turn [] w W7 := by
        refine ((((HT1.out.trans' HE.out.2.2.1).trans HT5.out.1 (fun y hy => .inr ?_)).trans' t6).trans' t7)
        simp at hy
        have := HPB.out
        have := HT1.out.size
        have := HT5.out.2.2
        omega
      have hef := eq_fault
      have hef2 := fun W => eq_fault2 m hm4 W
      have tB := (Turn.refl [] W7).alloc (.cells #[.int .i64 (m : Int)] 3)
      have HA := Lib.hid (above_any ((hTl.turn' t7).turn' tB) (fun i => by have := hok.few i; omega) (HTb.out.turn' (hTw.trans' tB)) (some ⟨W7.heap.size, 0, none⟩) 1 1 [(m : Int)] (ints_one W7 3 (m : Int)) rfl (by omega))
      have HTW := Lib.hid (hTw.trans' tB)
      have HW7 := Lib.hid hW7
      have w11 : IntKind.i64.wrap ((m : Int) + 1) = (m : Int) + 1 := wrap_small _ (by omega) (by omega)
      clear hTl hM hok t6 t7 hW7 b3 b7 hTw tB hN hrt p0 p1 p2 p3 p4 p5 p6 p7 p8 p9 HNw hg2
      unfold ftC
      go_upto_region 22 with fail
      rw [HW7.out]
      go_wp2_with fail
      refine HA.out.mono ?_
      rintro e w8 ⟨U8, rfl, hU8, t8⟩
      obtain ⟨A8, c8, hv8, _, hc8⟩ := hU8.form
      rw [HRF.out.2.2.2.2] at hv8
      subst hv8
      have HT8 := Lib.hid (HTW.out.trans' t8)
      have k1 : ((k : Int) == (k : Int)) = true := by simp
      clear hU8 t8 hc8 HA
      go_wp2_with fail
      go_ret
      exact ⟨rfl, HT8.out⟩
end Go.Proofs.YtjnphoeifonenaaDoor
