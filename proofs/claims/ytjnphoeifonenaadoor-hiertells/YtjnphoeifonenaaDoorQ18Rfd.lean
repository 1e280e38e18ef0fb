import Derived.Test.YtjnphoeifonenaaDoorQ08Orp
import Derived.Test.YtjnphoeifonenaaDoorQ06Flt
import Derived.Deep.DeepCutAuto
import Derived.Deep.RegionHeld3
import Derived.BigQuiet
import Derived.Test.YtjnphoeifonenaaDoorQ12Kos

/- The reference's Find; its Right. -/
set_option linter.unusedSimpArgs false
set_option linter.unusedVariables false
set_option maxRecDepth 100000
namespace Go.Proofs.YtjnphoeifonenaaDoor
open Go.RowKit

theorem tx_same (a : ByteArray) : (a.toList == a.toList) = true := by simp
theorem tx_other {a b : ByteArray} (h : a ≠ b) : (a.toList == b.toList) = false := by
  rw [beq_eq_false_iff_ne]
  intro e
  rw [ByteArray.toList_eq, ByteArray.toList_eq] at e
  exact h (ByteArray.ext (by simpa using e))
/-- What Find answers. -/
def fndI (l : List K8) (s : ByteArray) : Int := match fstF l l.length s with
  | some i => (i : Int)
  | none => -1
theorem fstF_next {l : List K8} {i : Nat} {c : K8} {s : ByteArray} (hc : l[i]? = some c) (h : fstF l i s = none) : fstF l (i + 1) s = if c.nm = s then some i else none := by
  rw [fstF_succ hc]
  by_cases e : c.nm = s
  · subst e
    rw [h, if_pos rfl]
    simp [updS]
  · rw [if_neg e]
    split
    · exact h
    · unfold updS
      rw [if_neg (fun h => e h.symm)]
      exact h
theorem fstF_more {l : List K8} {i : Nat} {s : ByteArray} {j : Nat} (h : fstF l i s = some j) (hi : i ≤ l.length) : fstF l l.length s = some j := by
  unfold fstF at h ⊢
  rw [List.take_length]
  conv => lhs; rw [← List.take_append_drop i l]
  rw [List.findIdx?_append, h]
  rfl
set_option maxHeartbeats 6400000 in
theorem rfind_any (A : Option Addr) (c B : Nat) (l : List K8) (m0 m1 m2 m3 m4 m5 m6 m7 m8 : Value) (s : ByteArray) (w : World) (hr : RdKs B w A l) (hl : l.length ≤ 1000) :
    Calls Tryd.prog 18 #[.agg #[.slice A l.length c, m0, m1, m2, m3, m4, m5, m6, m7, m8], .string s] w fun e w' => e = .returned (.int .i64 (fndI l s)) ∧ Turn [] w w' := by
  obtain ⟨n, hn⟩ : ∃ n, l.length = n := ⟨_, rfl⟩
  obtain ⟨r, hrr⟩ : ∃ r, w.heap.size = r := ⟨_, rfl⟩
  obtain ⟨W0, hW0⟩ : ∃ W, w.alloc (.cells #[.slice A n c, m0, m1, m2, m3, m4, m5, m6, m7, m8] 30) = W := ⟨_, rfl⟩
  have t0 : Turn [] w W0 := by rw [← hW0]; exact (Turn.refl [] w).alloc _
  have b0 : W0.heap[r]? = some (.cells #[.slice A n c, m0, m1, m2, m3, m4, m5, m6, m7, m8] 30 (0, 0)) := by rw [← hW0, ← hrr]; exact heap_alloc_new w _
  have p0 : W0.cell? ⟨r, 0, none⟩ = some (.slice A n c) := cell_of_row W0 r 0 _ _ _ b0
  have HR := Lib.hid (hr.turn t0 (by simp))
  have HT0 := Lib.hid t0
  have HW0 := Lib.hid hW0
  have HN := Lib.hid hn
  have HRR := Lib.hid hrr
  rw [hn] at hl ⊢
  clear hr t0 hW0 b0 hn hrr
  go_enter Tryd.func18, Tryd.ntmps18
  go_wp2_with fail
  rw [HRR.out, HW0.out]
  go_loopw [5] (fun v5 wr => ∃ i : Nat, i ≤ n ∧ v5 = .int .i64 (i : Int) ∧ wr = W0 ∧ Hid (fstF l i s = none)) (fun v5 _ => n - (intOf v5).toNat)
  case atStart => exact ⟨0, Nat.zero_le _, rfl, rfl, Lib.hid (by rw [fstF_zero])⟩
  case round =>
    obtain ⟨i, hi, rfl, rfl, HK⟩ := hrel
    by_cases him : i < n
    · have d1 : decide ((i : Int) < (n : Int)) = true := by simp; omega
      have d2 : (i : Int) < (n : Int) := by omega
      obtain ⟨x, hx⟩ := at_lt (show i < l.length by have := HN.out; omega)
      obtain ⟨b, off, cs, rfl, hb, hbl, hcell, A3, c3, A4, n4, c4, A5, n5, c5, A6, n6, c6, I, rfl, hst⟩ := HR.out i x hx
      have e0 : wr.cell? ⟨b, off + i * 10, none⟩ = some (.string x.nm) := hcell 0 _ rfl
      have hnx := fstF_next hx HK.out
      clear hcell hst
      by_cases hs : x.nm = s
      · have e1 := tx_same s
        rw [if_pos hs] at hnx
        have hfi : fndI l s = (i : Int) := by
          unfold fndI
          rw [fstF_more hnx (by have := HN.out; omega)]
        subst hs
        have HF := Lib.hid hfi
        clear hnx hx HK hfi
        go_wp2_with fail
        go_ret
        exact ⟨by rw [HF.out]; rfl, HT0.out⟩
      · have e1 := tx_other hs
        rw [if_neg hs] at hnx
        have HN1 := Lib.hid hnx
        clear hnx hx HK hs
        go_wp2_with fail
        go_roundw
        case rel => exact ⟨i + 1, by omega, by go_num, trivial, HN1⟩
        case measure => simp [intOf]; omega
    · obtain rfl : i = n := by omega
      have d1 : decide ((i : Int) < (i : Int)) = false := by simp
      have hfi : fndI l s = -1 := by
        unfold fndI
        rw [HN.out, HK.out]
      have HF := Lib.hid hfi
      clear hfi
      go_wp2_with fail
      go_ret
      exact ⟨by rw [HF.out]; rfl, HT0.out⟩
end Go.Proofs.YtjnphoeifonenaaDoor

/- The reference's Right. -/
set_option linter.unusedSimpArgs false
set_option linter.unusedVariables false
set_option maxRecDepth 100000
namespace Go.Proofs.YtjnphoeifonenaaDoor
open Go.RowKit

theorem own_raise {w : World} {B B' e sz n : Nat} {v : Value} {xs : List Value} (h : w.ownsRow B e sz v n xs) (hb : ∀ g, v.ownBlock = some g → B' ≤ g) : w.ownsRow B' e sz v n xs := by
  refine ⟨h.1, ?_⟩
  rcases h.2 with hn | ⟨g, cap, cur, rfl, _, rest⟩
  · exact .inl hn
  · exact .inr ⟨g, cap, cur, rfl, hb g rfl, rest⟩
/-- What Right answers. -/
def rtI (l : List K8) (x : K8) : List Int := (if x.sup = ⟨#[]⟩ then [] else [fndI l x.sup]) ++ x.fcs.map (fndI l)
set_option maxHeartbeats 12800000 in
theorem rright_any (A : Option Addr) (c B : Nat) (l : List K8) (m0 m1 m2 m3 m4 m5 m6 m7 m8 : Value) (i : Nat) (x : K8) (w : World) (hr : RdKs B w A l) (hl : l.length ≤ 1000) (hx : l[i]? = some x) (hfl : x.fcs.length ≤ 999) :
    Calls Tryd.prog 24 #[.agg #[.slice A l.length c, m0, m1, m2, m3, m4, m5, m6, m7, m8], .int .i64 (i : Int)] w fun e w' => ∃ U, e = .returned U ∧ OwnI w' w.heap.size U (rtI l x) ∧ Turn [] w w' := by
  obtain ⟨n, hn⟩ : ∃ n, l.length = n := ⟨_, rfl⟩
  obtain ⟨r, hrr⟩ : ∃ r, w.heap.size = r := ⟨_, rfl⟩
  obtain ⟨W0, hW0⟩ : ∃ W, w.alloc (.cells #[.slice A n c, m0, m1, m2, m3, m4, m5, m6, m7, m8] 30) = W := ⟨_, rfl⟩
  have t0 : Turn [] w W0 := by rw [← hW0]; exact (Turn.refl [] w).alloc _
  have s0 : W0.heap.size = r + 1 := by rw [← hW0, ← hrr]; simp
  have b0 : W0.heap[r]? = some (.cells #[.slice A n c, m0, m1, m2, m3, m4, m5, m6, m7, m8] 30 (0, 0)) := by rw [← hW0, ← hrr]; exact heap_alloc_new w _
  have HFd : Hid (∀ W s, Turn [] W0 W → Calls Tryd.prog 18 #[.agg #[.slice A n c, m0, m1, m2, m3, m4, m5, m6, m7, m8], .string s] W fun e w' => e = .returned (.int .i64 (fndI l s)) ∧ Turn [] W w') := Lib.hid fun W s t => by
    rw [← hn]
    exact rfind_any A c B l m0 m1 m2 m3 m4 m5 m6 m7 m8 s W ((hr.turn t0 (by simp)).turn t (by simp)) hl
  have hin : i < n := by rw [← hn]; exact (List.getElem?_eq_some_iff.1 hx).1
  obtain ⟨b, off, cs, rfl, hb, hbl, hcell, A3, c3, A4, n4, c4, A5, n5, c5, A6, n6, c6, I, rfl, hst⟩ := (hr.turn t0 (by simp)) i x hx
  obtain ⟨W1, hW1⟩ : ∃ W, W0.alloc (.cells #[.string x.nm, .string x.sup, .bool x.face, .slice A3 x.fcs.length c3, .slice A4 n4 c4, .slice A5 n5 c5, .slice A6 n6 c6, .pointer I, .int .i64 x.p, .int .i64 x.q] 51) = W := ⟨_, rfl⟩
  have t1 : Turn [] W0 W1 := by rw [← hW1]; exact (Turn.refl [] W0).alloc _
  have b1 : W1.heap[r + 1]? = some (.cells #[.string x.nm, .string x.sup, .bool x.face, .slice A3 x.fcs.length c3, .slice A4 n4 c4, .slice A5 n5 c5, .slice A6 n6 c6, .pointer I, .int .i64 x.p, .int .i64 x.q] 51 (0, 0)) := by rw [← hW1, ← s0]; exact heap_alloc_new W0 _
  have p0 : W0.cell? ⟨r, 0, none⟩ = some (.slice (some ⟨b, off, none⟩) n c) := cell_of_row W0 r 0 _ _ _ b0
  have e0 : W0.cell? ⟨b, off + i * 10, none⟩ = some (.string x.nm) := hcell 0 _ rfl
  have e1 := hcell 1 _ rfl
  have e2 := hcell 2 _ rfl
  have e3 := hcell 3 _ rfl
  have e4 := hcell 4 _ rfl
  have e5 := hcell 5 _ rfl
  have e6 := hcell 6 _ rfl
  have e7 := hcell 7 _ rfl
  have e8 := hcell 8 _ rfl
  have e9 := hcell 9 _ rfl
  have hpc : ∀ W, Turn [] W0 W → ∀ (q : Nat) (v : Value), (#[Value.slice (some ⟨b, off, none⟩) n c, m0, m1, m2, m3, m4, m5, m6, m7, m8] : Array Value)[q]? = some v → W.cell? ⟨r, q, none⟩ = some v := fun W t q v hv => (cell_of_row W r q _ _ _ (t.heap b0 (by simp))).trans hv
  have hcc : ∀ W, Turn [] W1 W → W.cell? ⟨r + 1, 1, none⟩ = some (.string x.sup) ∧ W.cell? ⟨r + 1, 3, none⟩ = some (.slice A3 x.fcs.length c3) := fun W t => ⟨cell_of_row W (r + 1) 1 _ _ _ (t.heap b1 (by simp)), cell_of_row W (r + 1) 3 _ _ _ (t.heap b1 (by simp))⟩
  have hir : (i : Int) < (n : Int) := by omega
  obtain ⟨nf, hnf⟩ : ∃ nf, x.fcs.length = nf := ⟨_, rfl⟩
  rw [hnf] at hW1 hcc hfl
  have HP := Lib.hid hpc
  have HCC := Lib.hid hcc
  have HST := Lib.hid (hst.turn t1 (by simp))
  have HT0 := Lib.hid t0
  have HT1 := Lib.hid t1
  have HW0 := Lib.hid hW0
  have HW1 := Lib.hid hW1
  have HRR := Lib.hid hrr
  have HS0 := Lib.hid s0
  have HNF := Lib.hid hnf
  have z1 : ∀ W, Turn [] W0 W → True := fun _ _ => trivial
  rw [hnf] at e3
  rw [hn]
  clear hr hn hrr hW0 t0 s0 b0 hx hcell hst hW1 t1 b1 hpc hcc hnf z1 hl hb hbl
  go_enter Tryd.func24, Tryd.ntmps24
  go_upto_region 2 with fail
  rw [HRR.out, HW0.out]
  go_upto_region 3 with fail
  rw [HS0.out, HW1.out]
  obtain ⟨z1, z3⟩ := HCC.out W1 (Turn.refl _ _)
  clear e0 e1 e2 e3 e4 e5 e6 e7 e8 e9 p0
  obtain ⟨em, hem⟩ : ∃ em, x.sup.toList.isEmpty = em := ⟨_, rfl⟩
  have HEM : Hid ((x.sup = ⟨#[]⟩) = (em = true)) := Lib.hid (by
    rw [← hem, ByteArray.toList_eq]
    apply propext
    constructor
    · intro h; rw [h]; rfl
    · intro h
      apply ByteArray.ext
      simpa using h)
  go_upto_if 15 with fail
  clear hem
  go_cut [5] (fun v5 w' => Hid (OwnI w' (r + 2) v5 (if x.sup = ⟨#[]⟩ then [] else [fndI l x.sup]) ∧ Turn [] W1 w'))
  case first =>
    have q0 : W1.cell? ⟨r, 0, none⟩ = some (.slice (some ⟨b, off, none⟩) n c) := HP.out W1 HT1.out 0 _ rfl
    have q1 : W1.cell? ⟨r, 1, none⟩ = some m0 := HP.out W1 HT1.out 1 _ rfl
    have q2 : W1.cell? ⟨r, 2, none⟩ = some m1 := HP.out W1 HT1.out 2 _ rfl
    have q3 : W1.cell? ⟨r, 3, none⟩ = some m2 := HP.out W1 HT1.out 3 _ rfl
    have q4 : W1.cell? ⟨r, 4, none⟩ = some m3 := HP.out W1 HT1.out 4 _ rfl
    have q5 : W1.cell? ⟨r, 5, none⟩ = some m4 := HP.out W1 HT1.out 5 _ rfl
    have q6 : W1.cell? ⟨r, 6, none⟩ = some m5 := HP.out W1 HT1.out 6 _ rfl
    have q7 : W1.cell? ⟨r, 7, none⟩ = some m6 := HP.out W1 HT1.out 7 _ rfl
    have q8 : W1.cell? ⟨r, 8, none⟩ = some m7 := HP.out W1 HT1.out 8 _ rfl
    have q9 : W1.cell? ⟨r, 9, none⟩ = some m8 := HP.out W1 HT1.out 9 _ rfl
    have HFx := Lib.hid (HFd.out W1 x.sup HT1.out)
    have s1 : r + 2 ≤ W1.heap.size := by
      rw [← HW1.out]
      have := HS0.out
      simp
      omega
    obtain ⟨z, hz⟩ : ∃ z, fndI l x.sup = z := ⟨_, rfl⟩
    rw [hz] at HFx
    have HZ := Lib.hid hz
    clear hz
    cases em with
    | true =>
      go_wp2_with fail
      go_meet
      rw [if_pos (by rw [HEM.out]; trivial)]
      exact Lib.hid ⟨OwnI.nil _ _, Turn.refl _ _⟩
    | false =>
      go_wp2_with fail
      refine HFx.out.mono ?_
      rintro e w3 ⟨rfl, t3⟩
      have HT3 := Lib.hid t3
      have s3 : r + 2 ≤ w3.heap.size := by have := t3.size; omega
      clear t3
      go_wp2_with (at_builtin
                   refine wpList_app1' rfl (.tmp 16) (.tmp 21) rfl w3 (r + 2) (.slice none 0 0) [] z 1 rfl (OwnI.nil _ _) rfl (by simp) s3 ?_
                   intro v6 w6 ho6 ht6 hm6
                   have HO6 := Lib.hid (And.intro ho6 (And.intro ht6 hm6))
                   clear ho6 ht6 hm6)
      go_meet
      rw [if_neg (by rw [HEM.out]; simp), HZ.out]
      exact Lib.hid ⟨HO6.out.1, HT3.out.trans' HO6.out.2.1⟩
  case rest =>
    obtain ⟨pre, hpre⟩ : ∃ pre, (if x.sup = ⟨#[]⟩ then [] else [fndI l x.sup]) = pre := ⟨_, rfl⟩
    have HPRE := Lib.hid hpre
    have hpl : pre.length ≤ 1 := by rw [← hpre]; split <;> simp
    rw [hpre] at hcut
    clear hpre z1 z3 HEM em
    go_upto_region 5 with fail
    go_wp2_with fail
    go_loopw [5, 7] (fun v5 v7 wr => ∃ k : Nat, k ≤ nf ∧ v7 = .int .i64 (k : Int) ∧ Hid (OwnI wr (r + 2) v5 (pre ++ (x.fcs.take k).map (fndI l)) ∧ Turn [] W1 wr)) (fun _ v7 _ => nf - (intOf v7).toNat)
    case atStart => exact ⟨0, Nat.zero_le _, rfl, by simpa using hcut⟩
    case round =>
      obtain ⟨k, hk, rfl, HO⟩ := hrel
      have z3 : wr.cell? ⟨r + 1, 3, none⟩ = some (.slice A3 nf c3) := (HCC.out wr HO.out.2).2
      by_cases hkn : k < nf
      · have d1 : decide ((k : Int) < (nf : Int)) = true := by simp; omega
        have d2 : (k : Int) < (nf : Int) := by omega
        obtain ⟨f, hf⟩ := at_lt (show k < x.fcs.length by have := HNF.out; omega)
        have tt := HT1.out.trans' HO.out.2
        obtain ⟨fb, foff, rfl, hfb, hfl', hfc⟩ := HST.out k f hf
        have HSS : Hid (∀ w', Turn [] W1 w' → (w'.cell? ⟨r, 0, none⟩ = some (.slice (some ⟨b, off, none⟩) n c) ∧ w'.cell? ⟨r, 1, none⟩ = some m0 ∧ w'.cell? ⟨r, 2, none⟩ = some m1 ∧ w'.cell? ⟨r, 3, none⟩ = some m2 ∧ w'.cell? ⟨r, 4, none⟩ = some m3 ∧ w'.cell? ⟨r, 5, none⟩ = some m4 ∧ w'.cell? ⟨r, 6, none⟩ = some m5 ∧ w'.cell? ⟨r, 7, none⟩ = some m6 ∧ w'.cell? ⟨r, 8, none⟩ = some m7 ∧ w'.cell? ⟨r, 9, none⟩ = some m8 ∧ w'.cell? ⟨r + 1, 3, none⟩ = some (.slice (some ⟨fb, foff, none⟩) nf c3) ∧ w'.cell? ⟨fb, foff + k, none⟩ = some (.string f))) := Lib.hid (fun W t => ⟨HP.out W (HT1.out.trans' t) 0 _ rfl, HP.out W (HT1.out.trans' t) 1 _ rfl, HP.out W (HT1.out.trans' t) 2 _ rfl, HP.out W (HT1.out.trans' t) 3 _ rfl, HP.out W (HT1.out.trans' t) 4 _ rfl, HP.out W (HT1.out.trans' t) 5 _ rfl, HP.out W (HT1.out.trans' t) 6 _ rfl, HP.out W (HT1.out.trans' t) 7 _ rfl, HP.out W (HT1.out.trans' t) 8 _ rfl, HP.out W (HT1.out.trans' t) 9 _ rfl, (HCC.out W t).2, (t.cell (p := ⟨fb, foff + k, none⟩) hfl' (by simp)).trans hfc⟩)
        have hS0 := HSS.out wr HO.out.2
        have hS0' := HSS.out wr.drew HO.out.2.drew
        have HFx := Lib.hid (HFd.out wr.drew f tt.drew)
        obtain ⟨z, hz⟩ : ∃ z, fndI l f = z := ⟨_, rfl⟩
        rw [hz] at HFx
        have HZ := Lib.hid (And.intro hz hf)
        have hsr : r + 2 ≤ wr.heap.size := by
          have := HO.out.2.size
          rw [← HW1.out] at this
          have := HS0.out
          simp at *
          omega
        have HSR := Lib.hid hsr
        obtain ⟨A5v, c5v, hv5, _, _⟩ := HO.out.1.form
        obtain ⟨L5, hL5⟩ : ∃ L5, (pre ++ (x.fcs.take k).map (fndI l)).length = L5 := ⟨_, rfl⟩
        have hL5' : L5 ≤ 1001 := by rw [← hL5]; simp; omega
        rw [hL5] at hv5
        have HL5 := Lib.hid hL5
        have HV5 := Lib.hid hv5
        subst hv5
        clear hfb hfl' hfc hz hsr hL5 hf
        go_upto_region 8 with fail
        go_region_held3 (fun w' => w'.cell? ⟨r, 0, none⟩ = some (.slice (some ⟨b, off, none⟩) n c) ∧ w'.cell? ⟨r, 1, none⟩ = some m0 ∧ w'.cell? ⟨r, 2, none⟩ = some m1 ∧ w'.cell? ⟨r, 3, none⟩ = some m2 ∧ w'.cell? ⟨r, 4, none⟩ = some m3 ∧ w'.cell? ⟨r, 5, none⟩ = some m4 ∧ w'.cell? ⟨r, 6, none⟩ = some m5 ∧ w'.cell? ⟨r, 7, none⟩ = some m6 ∧ w'.cell? ⟨r, 8, none⟩ = some m7 ∧ w'.cell? ⟨r, 9, none⟩ = some m8 ∧ w'.cell? ⟨r + 1, 3, none⟩ = some (.slice (some ⟨fb, foff, none⟩) nf c3) ∧ w'.cell? ⟨fb, foff + k, none⟩ = some (.string f))
          (first | exact hS0 | exact hS0' | exact hS1 | exact hS2 | exact hS6 | go_keep)
          (first
            | (go_at_call 18; (with_reducible refine HFx.out.mono ?_); rintro e w1 ⟨rfl, t1⟩
               have tt1 : Turn [] wr w1 := (Turn.refl [] wr).drew.trans' t1
               have hS1 := HSS.out w1 (HO.out.2.trans' tt1)
               have hS2 := HSS.out (w1.alloc (.cells #[.int .i64 z] 3)) ((HO.out.2.trans' tt1).alloc _)
               have HT1' := Lib.hid tt1
               clear t1 tt1)
            | (refine step_appR rfl (.tmp 30) (.tmp 38) 40 rfl _ 3 (.int .i64 0) 1 8 Tryd.underlying40 int_info rfl (by omega) (.slice A5v L5 c5v) L5 ((pre ++ (x.fcs.take k).map (fndI l)).map (Value.int .i64)) (by simp [Act.eval, Act.put]) (by
                 have h := ownsRow_mono (HO.out.1.turn' (HT1'.out.alloc (.cells #[.int .i64 z] 3))) (Nat.zero_le _)
                 rw [HL5.out] at h
                 exact h) (some ⟨w1.heap.size, 0, none⟩) 1 1 [.int .i64 z] (by simp [Act.eval, Act.put]) (rws_one (heap_alloc_new w1 _)) (by simp [Value.oneCell']) (by simp only [maxLen]; omega) (by omega) ?_
               intro v6 w6 ho6 ht6 hm6
               have tw6 : Turn [] W1 w6 := (HO.out.2.trans' (HT1'.out.alloc _)).trans ht6 (fun g hg => .inr (by have h1 := (HO.out.1.lt g (by simpa using hg)).1; have h2 := HW1.out; subst h2; have := HS0.out; simp; omega))
               have hS6 := HSS.out w6 tw6
               have HO6 := Lib.hid (And.intro ho6 (And.intro ht6 (And.intro hm6 tw6)))
               clear ho6 ht6 hm6 tw6))
        go_wp2_with fail
        go_roundw
        case rel =>
          refine ⟨k + 1, by omega, by go_num, Lib.hid ⟨?_, HO6.out.2.2.2⟩⟩
          rw [take_snoc HZ.out.2, List.map_append, ← List.append_assoc, List.map_cons, List.map_nil, HZ.out.1]
          unfold OwnI
          rw [List.length_append, List.map_append, HL5.out]
          refine own_raise HO6.out.1 (fun g hg => ?_)
          rcases HO6.out.2.2.1 with m | m
          · rw [m] at hg; exact (HO.out.1.lt g hg).1
          · rw [m] at hg; injection hg with hg; have := HSR.out; have := HT1'.out.size; simp at hg; omega
        case measure => simp [intOf]; omega
      · obtain rfl : k = nf := by omega
        have d1 : decide ((k : Int) < (k : Int)) = false := by simp
        have HOE := HO.out
        rw [List.take_of_length_le (by rw [HNF.out]; exact Nat.le_refl _)] at HOE
        obtain ⟨A9, c9, hv9, _, _⟩ := HOE.1.form
        have HOE2 := Lib.hid HOE
        subst hv9
        clear HOE HO
        go_wp2_with fail
        go_ret
        refine ⟨_, rfl, ?_, ?_⟩
        · unfold rtI
          rw [HPRE.out, HRR.out]
          exact HOE2.out.1.mono (by omega)
        · exact (HT0.out.trans' HT1.out).trans' HOE2.out.2
end Go.Proofs.YtjnphoeifonenaaDoor

/- The reference's sound. -/
set_option linter.unusedSimpArgs false
set_option linter.unusedVariables false
set_option maxRecDepth 100000
namespace Go.Proofs.YtjnphoeifonenaaDoor
open Go.RowKit

def faceAt (l : List K8) (z : Int) : Bool := match l[z.toNat]? with
  | some c => c.face
  | none => false
def fcB (l : List K8) (x : K8) (a : Nat) : Bool := match x.fcs[a]? with
  | some f => decide (0 ≤ fndI l f) && faceAt l (fndI l f) && !((x.fcs.take a).any fun g => decide (g = f))
  | none => false
def supOk (l : List K8) (x : K8) : Bool := decide (x.sup = ⟨#[]⟩) || (decide (0 ≤ fndI l x.sup) && !faceAt l (fndI l x.sup))
/-- What sound answers. -/
def sndB (l : List K8) (i : Nat) (x : K8) : Bool := decide (fndI l x.nm = (i : Int)) && supOk l x && (List.range x.fcs.length).all (fcB l x)
theorem fndI_cases (l : List K8) (s : ByteArray) : fndI l s = -1 ∨ ∃ (j : Nat) (y : K8), fndI l s = (j : Int) ∧ l[j]? = some y ∧ y.nm = s := by
  unfold fndI
  cases h : fstF l l.length s with
  | none => exact .inl rfl
  | some j =>
    obtain ⟨_, y, h1, h2⟩ := fstF_lt h
    exact .inr ⟨j, y, rfl, h1, h2⟩
theorem faceAt_at {l : List K8} {j : Nat} {y : K8} (h : l[j]? = some y) : faceAt l (j : Int) = y.face := by
  unfold faceAt
  simp [h]
theorem sndB_nm {l : List K8} {i : Nat} {x : K8} (h : fndI l x.nm ≠ (i : Int)) : sndB l i x = false := by
  unfold sndB
  simp [h]
theorem sndB_sup {l : List K8} {i : Nat} {x : K8} (h : supOk l x = false) : sndB l i x = false := by
  unfold sndB
  simp [h]
theorem sndB_fc {l : List K8} {i a : Nat} {x : K8} (ha : a < x.fcs.length) (h : fcB l x a = false) : sndB l i x = false := by
  unfold sndB
  rw [Bool.and_eq_false_iff]
  right
  rw [List.all_eq_false]
  exact ⟨a, List.mem_range.2 ha, by simp [h]⟩
theorem sndB_true {l : List K8} {i : Nat} {x : K8} (h0 : fndI l x.nm = (i : Int)) (h1 : supOk l x = true) (h2 : ∀ a, a < x.fcs.length → fcB l x a = true) : sndB l i x = true := by
  unfold sndB
  rw [Bool.and_eq_true, Bool.and_eq_true]
  exact ⟨⟨by simpa using h0, h1⟩, List.all_eq_true.2 fun a ha => h2 a (List.mem_range.1 ha)⟩
theorem any_has {l : List ByteArray} {a k : Nat} {f : ByteArray} (h : l[a]? = some f) (hk : a < k) : ((l.take k).any fun g => decide (g = f)) = true := by
  rw [List.any_eq_true]
  exact ⟨f, List.mem_of_getElem? (i := a) (by rw [List.getElem?_take_of_lt hk]; exact h), by simp⟩
theorem any_hasnt {l : List ByteArray} {k : Nat} {f : ByteArray} (h : ∀ q, q < k → l[q]? ≠ some f) : ((l.take k).any fun g => decide (g = f)) = false := by
  rw [List.any_eq_false]
  intro g hg
  obtain ⟨q, hq⟩ := List.mem_iff_getElem?.1 hg
  rw [List.getElem?_take] at hq
  by_cases hqk : q < k
  · rw [if_pos hqk] at hq
    intro e
    have e : g = f := by simpa using e
    exact h q hqk (by rw [hq, e])
  · rw [if_neg hqk] at hq
    cases hq
set_option maxHeartbeats 12800000 in
theorem rsound_any (A : Option Addr) (c B : Nat) (l : List K8) (m0 m1 m2 m3 m4 m5 m6 m7 m8 : Value) (i : Nat) (x : K8) (w : World) (hr : RdKs B w A l) (hl : l.length ≤ 1000) (hx : l[i]? = some x) (hfl : x.fcs.length ≤ 999) :
    Calls Tryd.prog 30 #[.agg #[.slice A l.length c, m0, m1, m2, m3, m4, m5, m6, m7, m8], .int .i64 (i : Int)] w fun e w' => e = .returned (.bool (sndB l i x)) ∧ Turn [] w w' := by
  obtain ⟨n, hn⟩ : ∃ n, l.length = n := ⟨_, rfl⟩
  obtain ⟨r, hrr⟩ : ∃ r, w.heap.size = r := ⟨_, rfl⟩
  obtain ⟨W0, hW0⟩ : ∃ W, w.alloc (.cells #[.slice A n c, m0, m1, m2, m3, m4, m5, m6, m7, m8] 30) = W := ⟨_, rfl⟩
  have t0 : Turn [] w W0 := by rw [← hW0]; exact (Turn.refl [] w).alloc _
  have s0 : W0.heap.size = r + 1 := by rw [← hW0, ← hrr]; simp
  have b0 : W0.heap[r]? = some (.cells #[.slice A n c, m0, m1, m2, m3, m4, m5, m6, m7, m8] 30 (0, 0)) := by rw [← hW0, ← hrr]; exact heap_alloc_new w _
  have HFd : Hid (∀ W s, Turn [] W0 W → Calls Tryd.prog 18 #[.agg #[.slice A n c, m0, m1, m2, m3, m4, m5, m6, m7, m8], .string s] W fun e w' => e = .returned (.int .i64 (fndI l s)) ∧ Turn [] W w') := Lib.hid fun W s t => by
    rw [← hn]
    exact rfind_any A c B l m0 m1 m2 m3 m4 m5 m6 m7 m8 s W ((hr.turn t0 (by simp)).turn t (by simp)) hl
  have hin : i < n := by rw [← hn]; exact (List.getElem?_eq_some_iff.1 hx).1
  have hr0 := hr.turn t0 (by simp)
  obtain ⟨b, off, cs, rfl, hb, hbl, hcell, A3, c3, A4, n4, c4, A5, n5, c5, A6, n6, c6, I, rfl, hst⟩ := hr0 i x hx
  have HFC : Hid (∀ W, Turn [] W0 W → ∀ (j : Nat) (y : K8), l[j]? = some y → W.cell? ⟨b, off + j * 10 + 2, none⟩ = some (.bool y.face) ∧ j < n) := Lib.hid fun W t j y hy => by
    obtain ⟨b', off', cs', e, hb', hbl', hcell', A3', c3', A4', n4', c4', A5', n5', c5', A6', n6', c6', I', rfl, _⟩ := hr0 j y hy
    injection e with e
    injection e with e1 e2
    subst e1 e2
    exact ⟨(t.cell (p := ⟨b, off + j * 10 + 2, none⟩) hbl' (by simp)).trans (hcell' 2 _ rfl), by rw [← hn]; exact (List.getElem?_eq_some_iff.1 hy).1⟩
  obtain ⟨W1, hW1⟩ : ∃ W, W0.alloc (.cells #[.string x.nm, .string x.sup, .bool x.face, .slice A3 x.fcs.length c3, .slice A4 n4 c4, .slice A5 n5 c5, .slice A6 n6 c6, .pointer I, .int .i64 x.p, .int .i64 x.q] 51) = W := ⟨_, rfl⟩
  have t1 : Turn [] W0 W1 := by rw [← hW1]; exact (Turn.refl [] W0).alloc _
  have b1 : W1.heap[r + 1]? = some (.cells #[.string x.nm, .string x.sup, .bool x.face, .slice A3 x.fcs.length c3, .slice A4 n4 c4, .slice A5 n5 c5, .slice A6 n6 c6, .pointer I, .int .i64 x.p, .int .i64 x.q] 51 (0, 0)) := by rw [← hW1, ← s0]; exact heap_alloc_new W0 _
  have p0 : W0.cell? ⟨r, 0, none⟩ = some (.slice (some ⟨b, off, none⟩) n c) := cell_of_row W0 r 0 _ _ _ b0
  have e0 : W0.cell? ⟨b, off + i * 10, none⟩ = some (.string x.nm) := hcell 0 _ rfl
  have e1 := hcell 1 _ rfl
  have e2 := hcell 2 _ rfl
  have e3 := hcell 3 _ rfl
  have e4 := hcell 4 _ rfl
  have e5 := hcell 5 _ rfl
  have e6 := hcell 6 _ rfl
  have e7 := hcell 7 _ rfl
  have e8 := hcell 8 _ rfl
  have e9 := hcell 9 _ rfl
  have hpc : ∀ W, Turn [] W0 W → ∀ (q : Nat) (v : Value), (#[Value.slice (some ⟨b, off, none⟩) n c, m0, m1, m2, m3, m4, m5, m6, m7, m8] : Array Value)[q]? = some v → W.cell? ⟨r, q, none⟩ = some v := fun W t q v hv => (cell_of_row W r q _ _ _ (t.heap b0 (by simp))).trans hv
  have hcc : ∀ W, Turn [] W1 W → W.cell? ⟨r + 1, 0, none⟩ = some (.string x.nm) ∧ W.cell? ⟨r + 1, 1, none⟩ = some (.string x.sup) ∧ W.cell? ⟨r + 1, 3, none⟩ = some (.slice A3 x.fcs.length c3) := fun W t => ⟨cell_of_row W (r + 1) 0 _ _ _ (t.heap b1 (by simp)), cell_of_row W (r + 1) 1 _ _ _ (t.heap b1 (by simp)), cell_of_row W (r + 1) 3 _ _ _ (t.heap b1 (by simp))⟩
  have hir : (i : Int) < (n : Int) := by omega
  obtain ⟨nf, hnf⟩ : ∃ nf, x.fcs.length = nf := ⟨_, rfl⟩
  rw [hnf] at hW1 hcc hfl
  have HP := Lib.hid hpc
  have HCC := Lib.hid hcc
  have HST := Lib.hid (hst.turn t1 (by simp))
  have HT0 := Lib.hid t0
  have HT1 := Lib.hid t1
  have HW0 := Lib.hid hW0
  have HW1 := Lib.hid hW1
  have HRR := Lib.hid hrr
  have HS0 := Lib.hid s0
  have HNF := Lib.hid hnf
  have HN1 : n ≤ 1000 := by rw [← hn]; exact hl
  rw [hnf] at e3
  rw [hn]
  clear hr hr0 hn hrr hW0 t0 s0 b0 hx hcell hst hW1 t1 b1 hpc hcc hnf hl hb hbl
  go_enter Tryd.func30, Tryd.ntmps30
  go_upto_region 1 with fail
  rw [HRR.out, HW0.out]
  go_upto_region 2 with fail
  rw [HS0.out, HW1.out]
  obtain ⟨z0, z1, z3⟩ := HCC.out W1 (Turn.refl _ _)
  clear e0 e1 e2 e3 e4 e5 e6 e7 e8 e9 p0
  have q0 : W1.cell? ⟨r, 0, none⟩ = some (.slice (some ⟨b, off, none⟩) n c) := HP.out W1 HT1.out 0 _ rfl
  have q1 : W1.cell? ⟨r, 1, none⟩ = some m0 := HP.out W1 HT1.out 1 _ rfl
  have q2 : W1.cell? ⟨r, 2, none⟩ = some m1 := HP.out W1 HT1.out 2 _ rfl
  have q3 : W1.cell? ⟨r, 3, none⟩ = some m2 := HP.out W1 HT1.out 3 _ rfl
  have q4 : W1.cell? ⟨r, 4, none⟩ = some m3 := HP.out W1 HT1.out 4 _ rfl
  have q5 : W1.cell? ⟨r, 5, none⟩ = some m4 := HP.out W1 HT1.out 5 _ rfl
  have q6 : W1.cell? ⟨r, 6, none⟩ = some m5 := HP.out W1 HT1.out 6 _ rfl
  have q7 : W1.cell? ⟨r, 7, none⟩ = some m6 := HP.out W1 HT1.out 7 _ rfl
  have q8 : W1.cell? ⟨r, 8, none⟩ = some m7 := HP.out W1 HT1.out 8 _ rfl
  have q9 : W1.cell? ⟨r, 9, none⟩ = some m8 := HP.out W1 HT1.out 9 _ rfl
  have HFx := Lib.hid (HFd.out W1 x.nm HT1.out)
  obtain ⟨z, hz⟩ : ∃ z, fndI l x.nm = z := ⟨_, rfl⟩
  rw [hz] at HFx
  have HZ := Lib.hid hz
  clear hz
  go_wp2_with fail
  refine HFx.out.mono ?_
  rintro e w2 ⟨rfl, t2⟩
  have HT2 := Lib.hid t2
  obtain ⟨_, z1', z3'⟩ := HCC.out w2 t2
  clear q0 q1 q2 q3 q4 q5 q6 q7 q8 q9 z0 z1 z3 HFx t2
  by_cases h0 : z = (i : Int)
  · subst h0
    have d0 : ((i : Int) != (i : Int)) = false := by simp
    have d0' : decide ((i : Int) = (i : Int)) = true := by simp
    obtain ⟨em, hem⟩ : ∃ em, x.sup.toList.isEmpty = em := ⟨_, rfl⟩
    have HEM : Hid ((x.sup = ⟨#[]⟩) = (em = true)) := Lib.hid (by
      rw [← hem, ByteArray.toList_eq]
      apply propext
      constructor
      · intro h; rw [h]; rfl
      · intro h
        apply ByteArray.ext
        simpa using h)
    go_upto_if 23 with fail
    clear hem
    go_cut [] (fun w' => Hid (supOk l x = true ∧ Turn [] W1 w'))
    case first =>
      cases em with
      | true =>
        have hsu : supOk l x = true := by
          have h : x.sup = ⟨#[]⟩ := by rw [HEM.out]
          unfold supOk
          simp [h]
        have HSU := Lib.hid hsu
        clear hsu
        go_wp2_with fail
        go_meet
        exact Lib.hid ⟨HSU.out, HT2.out⟩
      | false =>
        have hne : ¬ x.sup = ⟨#[]⟩ := by rw [HEM.out]; simp
        have HNE := Lib.hid hne
        clear hne
        have q0 : w2.cell? ⟨r, 0, none⟩ = some (.slice (some ⟨b, off, none⟩) n c) := HP.out w2 (HT1.out.trans' HT2.out) 0 _ rfl
        have q1 : w2.cell? ⟨r, 1, none⟩ = some m0 := HP.out w2 (HT1.out.trans' HT2.out) 1 _ rfl
        have q2 : w2.cell? ⟨r, 2, none⟩ = some m1 := HP.out w2 (HT1.out.trans' HT2.out) 2 _ rfl
        have q3 : w2.cell? ⟨r, 3, none⟩ = some m2 := HP.out w2 (HT1.out.trans' HT2.out) 3 _ rfl
        have q4 : w2.cell? ⟨r, 4, none⟩ = some m3 := HP.out w2 (HT1.out.trans' HT2.out) 4 _ rfl
        have q5 : w2.cell? ⟨r, 5, none⟩ = some m4 := HP.out w2 (HT1.out.trans' HT2.out) 5 _ rfl
        have q6 : w2.cell? ⟨r, 6, none⟩ = some m5 := HP.out w2 (HT1.out.trans' HT2.out) 6 _ rfl
        have q7 : w2.cell? ⟨r, 7, none⟩ = some m6 := HP.out w2 (HT1.out.trans' HT2.out) 7 _ rfl
        have q8 : w2.cell? ⟨r, 8, none⟩ = some m7 := HP.out w2 (HT1.out.trans' HT2.out) 8 _ rfl
        have q9 : w2.cell? ⟨r, 9, none⟩ = some m8 := HP.out w2 (HT1.out.trans' HT2.out) 9 _ rfl
        have HFs := Lib.hid (HFd.out w2 x.sup (HT1.out.trans' HT2.out))
        rcases fndI_cases l x.sup with hc | ⟨j, y, hc, hy, _⟩
        · rw [hc] at HFs
          have HB : Hid (sndB l i x = false) := Lib.hid (sndB_sup (by unfold supOk; rw [hc]; simp [HNE.out]))
          clear hc
          go_wp2_with fail
          refine HFs.out.mono ?_
          rintro e w4 ⟨rfl, t4⟩
          have HT4 := Lib.hid t4
          clear t4
          go_wp2_with fail
          go_ret
          exact ⟨by rw [HB.out]; rfl, ((HT0.out.trans' HT1.out).trans' HT2.out).trans' HT4.out⟩
        · rw [hc] at HFs
          obtain ⟨fc, hfc⟩ : ∃ fc, y.face = fc := ⟨_, rfl⟩
          have hsu : supOk l x = !fc := by
            unfold supOk
            rw [hc, faceAt_at hy, hfc]
            simp [HNE.out]
          have HSU := Lib.hid hsu
          have HY := Lib.hid (And.intro hy hfc)
          clear hc hy hfc hsu
          go_wp2_with fail
          refine HFs.out.mono ?_
          rintro e w4 ⟨rfl, t4⟩
          obtain ⟨y2, hjn⟩ := HFC.out w4 ((HT1.out.trans' HT2.out).trans' t4) j y HY.out.1
          rw [HY.out.2] at y2
          have p0 : w4.cell? ⟨r, 0, none⟩ = some (.slice (some ⟨b, off, none⟩) n c) := HP.out w4 ((HT1.out.trans' HT2.out).trans' t4) 0 _ rfl
          have d1 : decide ((j : Int) < 0) = false := by simp
          have d2 : (j : Int) < (n : Int) := by omega
          have HT4 := Lib.hid t4
          clear t4
          cases fc with
          | true =>
            have HB : Hid (sndB l i x = false) := Lib.hid (sndB_sup HSU.out)
            go_wp2_with fail
            go_ret
            exact ⟨by rw [HB.out]; rfl, ((HT0.out.trans' HT1.out).trans' HT2.out).trans' HT4.out⟩
          | false =>
            go_wp2_with fail
            go_meet
            exact Lib.hid ⟨HSU.out, HT2.out.trans' HT4.out⟩
    case rest =>
      clear z1' z3' HEM em
      go_upto_region 8 with fail
      go_wp2_with fail
      go_loopw [7] (fun v7 wr => ∃ k : Nat, k ≤ nf ∧ v7 = .int .i64 (k : Int) ∧ Hid ((∀ a, a < k → fcB l x a = true) ∧ Turn [] W1 wr)) (fun v7 _ => nf - (intOf v7).toNat)
      case atStart => exact ⟨0, Nat.zero_le _, rfl, Lib.hid ⟨fun a ha => absurd ha (Nat.not_lt_zero a), hcut.out.2⟩⟩
      case round =>
        obtain ⟨k, hk, rfl, HO⟩ := hrel
        have z3 : wr.cell? ⟨r + 1, 3, none⟩ = some (.slice A3 nf c3) := (HCC.out wr HO.out.2).2.2
        by_cases hkn : k < nf
        · have d1 : decide ((k : Int) < (nf : Int)) = true := by simp; omega
          have d2 : (k : Int) < (nf : Int) := by omega
          obtain ⟨f, hf⟩ := at_lt (show k < x.fcs.length by have := HNF.out; omega)
          obtain ⟨fb, foff, rfl, hfb, hfl', hfc⟩ := HST.out k f hf
          have HSS : Hid (∀ w', Turn [] W1 w' → (w'.cell? ⟨r, 0, none⟩ = some (.slice (some ⟨b, off, none⟩) n c) ∧ w'.cell? ⟨r, 1, none⟩ = some m0 ∧ w'.cell? ⟨r, 2, none⟩ = some m1 ∧ w'.cell? ⟨r, 3, none⟩ = some m2 ∧ w'.cell? ⟨r, 4, none⟩ = some m3 ∧ w'.cell? ⟨r, 5, none⟩ = some m4 ∧ w'.cell? ⟨r, 6, none⟩ = some m5 ∧ w'.cell? ⟨r, 7, none⟩ = some m6 ∧ w'.cell? ⟨r, 8, none⟩ = some m7 ∧ w'.cell? ⟨r, 9, none⟩ = some m8 ∧ w'.cell? ⟨r + 1, 3, none⟩ = some (.slice (some ⟨fb, foff, none⟩) nf c3) ∧ w'.cell? ⟨fb, foff + k, none⟩ = some (.string f))) := Lib.hid (fun W t => ⟨HP.out W (HT1.out.trans' t) 0 _ rfl, HP.out W (HT1.out.trans' t) 1 _ rfl, HP.out W (HT1.out.trans' t) 2 _ rfl, HP.out W (HT1.out.trans' t) 3 _ rfl, HP.out W (HT1.out.trans' t) 4 _ rfl, HP.out W (HT1.out.trans' t) 5 _ rfl, HP.out W (HT1.out.trans' t) 6 _ rfl, HP.out W (HT1.out.trans' t) 7 _ rfl, HP.out W (HT1.out.trans' t) 8 _ rfl, HP.out W (HT1.out.trans' t) 9 _ rfl, (HCC.out W t).2.2, (t.cell (p := ⟨fb, foff + k, none⟩) hfl' (by simp)).trans hfc⟩)
          have hS0 := HSS.out wr HO.out.2
          have hS0' := HSS.out wr.drew HO.out.2.drew
          have HFx := Lib.hid (HFd.out wr.drew f (HT1.out.trans' HO.out.2.drew))
          have HKF := Lib.hid hf
          have hka : k < x.fcs.length := by have := HNF.out; omega
          have HKA := Lib.hid hka
          clear hfb hfl' hfc hf hka
          rcases fndI_cases l f with hc | ⟨j, y, hc, hy, _⟩
          · rw [hc] at HFx
            have HB : Hid (sndB l i x = false) := Lib.hid (sndB_fc HKA.out (by unfold fcB; rw [HKF.out]; simp [hc]))
            clear hc
            go_upto_region 11 with fail
            go_region_held3 (fun w' => w'.cell? ⟨r, 0, none⟩ = some (.slice (some ⟨b, off, none⟩) n c) ∧ w'.cell? ⟨r, 1, none⟩ = some m0 ∧ w'.cell? ⟨r, 2, none⟩ = some m1 ∧ w'.cell? ⟨r, 3, none⟩ = some m2 ∧ w'.cell? ⟨r, 4, none⟩ = some m3 ∧ w'.cell? ⟨r, 5, none⟩ = some m4 ∧ w'.cell? ⟨r, 6, none⟩ = some m5 ∧ w'.cell? ⟨r, 7, none⟩ = some m6 ∧ w'.cell? ⟨r, 8, none⟩ = some m7 ∧ w'.cell? ⟨r, 9, none⟩ = some m8 ∧ w'.cell? ⟨r + 1, 3, none⟩ = some (.slice (some ⟨fb, foff, none⟩) nf c3) ∧ w'.cell? ⟨fb, foff + k, none⟩ = some (.string f))
              (first | exact hS0 | exact hS0' | exact hS1 | go_keep)
              (first
                | (go_at_call 18; (with_reducible refine HFx.out.mono ?_); rintro e w4 ⟨rfl, t4⟩
                   have tt4 : Turn [] W1 w4 := HO.out.2.drew.trans' t4
                   have hS1 := HSS.out w4 tt4
                   have HT4 := Lib.hid tt4
                   clear t4 tt4))
            go_wp2_with fail
            go_ret
            exact ⟨by rw [HB.out]; rfl, (HT0.out.trans' HT1.out).trans' HT4.out⟩
          · rw [hc] at HFx
            obtain ⟨fc, hfc⟩ : ∃ fc, y.face = fc := ⟨_, rfl⟩
            have hfk : fcB l x k = (fc && !((x.fcs.take k).any fun g => decide (g = f))) := by
              unfold fcB
              rw [HKF.out]
              simp only [hc, faceAt_at hy, hfc]
              simp
            have HFK := Lib.hid hfk
            have HY := Lib.hid (And.intro hy hfc)
            clear hc hy hfc hfk
            go_upto_region 11 with fail
            go_region_held3 (fun w' => w'.cell? ⟨r, 0, none⟩ = some (.slice (some ⟨b, off, none⟩) n c) ∧ w'.cell? ⟨r, 1, none⟩ = some m0 ∧ w'.cell? ⟨r, 2, none⟩ = some m1 ∧ w'.cell? ⟨r, 3, none⟩ = some m2 ∧ w'.cell? ⟨r, 4, none⟩ = some m3 ∧ w'.cell? ⟨r, 5, none⟩ = some m4 ∧ w'.cell? ⟨r, 6, none⟩ = some m5 ∧ w'.cell? ⟨r, 7, none⟩ = some m6 ∧ w'.cell? ⟨r, 8, none⟩ = some m7 ∧ w'.cell? ⟨r, 9, none⟩ = some m8 ∧ w'.cell? ⟨r + 1, 3, none⟩ = some (.slice (some ⟨fb, foff, none⟩) nf c3) ∧ w'.cell? ⟨fb, foff + k, none⟩ = some (.string f))
              (first | exact hS0 | exact hS0' | exact hS1 | go_keep)
              (first
                | (go_at_call 18; (with_reducible refine HFx.out.mono ?_); rintro e w4 ⟨rfl, t4⟩
                   have tt4 : Turn [] W1 w4 := HO.out.2.drew.trans' t4
                   have hS1 := HSS.out w4 tt4
                   have HT4 := Lib.hid tt4
                   clear t4 tt4))
            obtain ⟨y2, hjn⟩ := HFC.out w4 (HT1.out.trans' HT4.out) j y HY.out.1
            rw [HY.out.2] at y2
            have p0 : w4.cell? ⟨r, 0, none⟩ = some (.slice (some ⟨b, off, none⟩) n c) := HP.out w4 (HT1.out.trans' HT4.out) 0 _ rfl
            have d3 : decide ((j : Int) < 0) = false := by simp
            have d4 : (j : Int) < (n : Int) := by omega
            clear hS1 hS0 hS0'
            cases fc with
            | false =>
              have HB : Hid (sndB l i x = false) := Lib.hid (sndB_fc HKA.out HFK.out)
              go_wp2_with fail
              go_ret
              exact ⟨by rw [HB.out]; rfl, (HT0.out.trans' HT1.out).trans' HT4.out⟩
            | true =>
              go_wp2_with fail
              go_loopw [9] (fun v9 wq => ∃ a : Nat, a ≤ k ∧ v9 = .int .i64 (a : Int) ∧ Hid ((∀ q, q < a → x.fcs[q]? ≠ some f) ∧ Turn [] W1 wq)) (fun v9 _ => k - (intOf v9).toNat)
              case atStart => exact ⟨0, Nat.zero_le _, rfl, Lib.hid ⟨fun a ha => absurd ha (Nat.not_lt_zero a), HT4.out⟩⟩
              case round =>
                obtain ⟨a, ha, rfl, HQ⟩ := hrel
                have z3q : wr.cell? ⟨r + 1, 3, none⟩ = some (.slice (some ⟨fb, foff, none⟩) nf c3) := (HCC.out wr HQ.out.2).2.2
                by_cases hak : a < k
                · have d5 : decide ((a : Int) < (k : Int)) = true := by simp; omega
                  have d6 : (a : Int) < (nf : Int) := by omega
                  obtain ⟨g, hg⟩ := at_lt (show a < x.fcs.length by have := HNF.out; omega)
                  obtain ⟨gb, goff, e, hgb, hgl, hgc⟩ := HST.out a g hg
                  injection e with e
                  injection e with e1 e2
                  subst e1 e2
                  have cg : wr.cell? ⟨fb, foff + a, none⟩ = some (.string g) := (HQ.out.2.cell (p := ⟨fb, foff + a, none⟩) hgl (by simp)).trans hgc
                  have cf : wr.cell? ⟨fb, foff + k, none⟩ = some (.string f) := (HSS.out wr HQ.out.2).2.2.2.2.2.2.2.2.2.2.2
                  have HGA := Lib.hid hg
                  clear hg hgb hgl hgc
                  by_cases hgf : g = f
                  · subst hgf
                    have e9 := tx_same g
                    have HB : Hid (sndB l i x = false) := Lib.hid (sndB_fc HKA.out (by rw [HFK.out, any_has HGA.out hak]; rfl))
                    go_upto_region 17 with fail
                    go_quiet (fail)
                    go_wp2_with fail
                    go_ret
                    exact ⟨by rw [HB.out]; rfl, (HT0.out.trans' HT1.out).trans' (HQ.out.2.drewN _)⟩
                  · have e9 := tx_other hgf
                    have HNE : Hid (∀ q, q < a + 1 → x.fcs[q]? ≠ some f) := Lib.hid (fun q hq => by
                      by_cases hqa : q = a
                      · subst hqa
                        rw [HGA.out]
                        intro e
                        injection e with e
                        exact hgf e
                      · exact HQ.out.1 q (by omega))
                    clear hgf
                    go_upto_region 17 with fail
                    go_quiet (fail)
                    go_wp2_with fail
                    go_roundw
                    case rel => exact ⟨a + 1, by omega, by go_num, Lib.hid ⟨HNE.out, HQ.out.2.drewN _⟩⟩
                    case measure => simp [intOf]; omega
                · obtain rfl : a = k := by omega
                  have d5 : decide ((a : Int) < (a : Int)) = false := by simp
                  have HN : Hid (∀ q, q < a + 1 → fcB l x q = true) := Lib.hid (fun q hq => by
                    by_cases hqa : q = a
                    · subst hqa
                      rw [HFK.out, any_hasnt HQ.out.1]
                      rfl
                    · exact HO.out.1 q (by omega))
                  go_wp2_with fail
                  go_roundw
                  case rel => exact ⟨a + 1, by omega, by go_num, Lib.hid ⟨HN.out, HQ.out.2⟩⟩
                  case measure => simp [intOf]; omega
        · obtain rfl : k = nf := by omega
          have d1 : decide ((k : Int) < (k : Int)) = false := by simp
          have HB : Hid (sndB l i x = true) := Lib.hid (sndB_true HZ.out hcut.out.1 (fun a ha => HO.out.1 a (by have := HNF.out; omega)))
          go_wp2_with fail
          go_ret
          exact ⟨by rw [HB.out]; rfl, (HT0.out.trans' HT1.out).trans' HO.out.2⟩
  · have d0 : (z != (i : Int)) = true := by simpa using h0
    have d0' : decide (z = (i : Int)) = false := by simpa using h0
    have HB : Hid (sndB l i x = false) := Lib.hid (sndB_nm (by rw [HZ.out]; exact h0))
    go_wp2_with fail
    go_ret
    exact ⟨by rw [HB.out]; rfl, (HT0.out.trans' HT1.out).trans' HT2.out⟩
end Go.Proofs.YtjnphoeifonenaaDoor

/- The reference's Marks. -/
set_option linter.unusedSimpArgs false
set_option linter.unusedVariables false
set_option maxRecDepth 100000
namespace Go.Proofs.YtjnphoeifonenaaDoor
open Go.RowKit

/-- What lies above i, in one step or more. -/
def Ab1 (Es : List En) (i k : Nat) : Prop := ∃ j ∈ nxE Es i, Up Es j k
theorem count_mark : ∀ (ms : List Bool) (a : Nat), ms[a]? = some false → (ms.set a true).count false + 1 = ms.count false
  | [], a, h => by simp at h
  | b :: t, 0, h => by
    simp at h
    subst h
    simp
  | b :: t, a + 1, h => by
    have := count_mark t a (by simpa using h)
    cases b <;> simp [List.count_cons] <;> omega
/-- Every class that j stands for, or is marked, has all right above it marked. -/
def Cl (Es : List En) (i : Nat) (ms : List Bool) (j : Nat) : Prop := (j = i ∨ ms[j]? = some true) → ∀ a ∈ nxE Es j, ms[a]? = some true
def Snd (Es : List En) (i : Nat) (ms : List Bool) : Prop := ∀ k : Nat, ms[k]? = some true → Ab1 Es i k
theorem mk_done {Es : List En} (hok : EsOk Es) {i : Nat} {ms : List Bool} (hn : ms.length = Es.length) (hi : i < Es.length) (hs : Snd Es i ms) (hc : ∀ j, j < Es.length → Cl Es i ms j) (k : Nat) : ms[k]? = some true ↔ Ab1 Es i k := by
  refine ⟨hs k, ?_⟩
  rintro ⟨j, hj, hu⟩
  have h0 : ms[j]? = some true := hc i hi (.inl rfl) j hj
  have key : ∀ {a k : Nat}, Ua (nxE Es) Es.length [] a k → ms[a]? = some true → ms[k]? = some true := by
    intro a k hu
    induction hu with
    | refl _ _ => exact id
    | step h ha hn' ht ih =>
      intro h0
      exact hc _ h.lt (.inr (ih h0)) _ ha
  exact key hu h0
theorem snd_mark {Es : List En} (hok : EsOk Es) {i j a : Nat} {ms : List Bool} (hs : Snd Es i ms) (hj : j = i ∨ ms[j]? = some true) (ha : a ∈ nxE Es j) : Snd Es i (ms.set a true) := by
  intro k hk
  rw [List.getElem?_set] at hk
  by_cases hka : a = k
  · subst hka
    rcases hj with rfl | hj
    · exact ⟨a, ha, .refl (hok.lt _ a ha) (by simp)⟩
    · obtain ⟨b, hb, hu⟩ := hs j hj
      exact ⟨b, hb, Ua.step hu ha (hok.lt _ a ha) (by simp)⟩
  · rw [if_neg hka] at hk
    exact hs k hk
theorem OwnI.at' {w : World} {r n c : Nat} {A : Option Addr} {l : List Int} (h : OwnI w r (.slice A n c) l) : ∀ (k : Nat) (y : Int), l[k]? = some y → ∃ b off, A = some ⟨b, off, none⟩ ∧ w.cell? ⟨b, off + k, none⟩ = some (.int .i64 y) := fun k y hy => by
  obtain ⟨A', c', e, hI, _⟩ := h.form
  injection e with e1 e2 e3
  subst e1
  obtain ⟨b, off, e, _, hc⟩ := hI k y hy
  exact ⟨b, off, e, hc⟩
/-- At the head: marks so far, and what is left to do. -/
def M1 (Es : List En) (i n r g : Nat) (w wr : World) (v6 : Value) (m : Nat) : Prop := ∃ ms : List Bool, ms.length = n ∧ Snd Es i ms ∧ OwnB wr r (.slice (some ⟨g, 0, none⟩) n n) ms ∧ Turn [] w wr ∧
  ((v6 = .bool true ∧ m = 2 * ms.count false + 1) ∨ (v6 = .bool false ∧ m = 2 * ms.count false ∧ ∀ j, j < n → Cl Es i ms j))
def M2 (Es : List En) (i n r g c0 : Nat) (w wr : World) (v6 : Value) (k : Nat) (ms : List Bool) : Prop := ms.length = n ∧ Snd Es i ms ∧ OwnB wr r (.slice (some ⟨g, 0, none⟩) n n) ms ∧ Turn [] w wr ∧
  ((v6 = .bool true ∧ ms.count false < c0) ∨ (v6 = .bool false ∧ ms.count false = c0 ∧ ∀ j, j < k → Cl Es i ms j))
def M3 (Es : List En) (i n r g c0 q : Nat) (V : Value) (j : Nat) (w wr : World) (v6 : Value) (k : Nat) (ms : List Bool) : Prop := ms.length = n ∧ Snd Es i ms ∧ OwnB wr r (.slice (some ⟨g, 0, none⟩) n n) ms ∧ Turn [] w wr ∧ OwnI wr q V (ofN (nxE Es j)) ∧ (j = i ∨ ms[j]? = some true) ∧
  ((v6 = .bool true ∧ ms.count false < c0) ∨ (v6 = .bool false ∧ ms.count false = c0 ∧ (∀ j', j' < j → Cl Es i ms j') ∧ ∀ p, p < k → ∀ a, (nxE Es j)[p]? = some a → ms[a]? = some true))
theorem M3.done {Es : List En} {i n r g c0 q : Nat} {V : Value} {j : Nat} {w wr : World} {v6 : Value} {k : Nat} {ms : List Bool} (h : M3 Es i n r g c0 q V j w wr v6 k ms) (hk : k = (nxE Es j).length) : M2 Es i n r g c0 w wr v6 (j + 1) ms := by
  obtain ⟨h1, h2, h3, h4, h5, h6, h7⟩ := h
  refine ⟨h1, h2, h3, h4, ?_⟩
  rcases h7 with h7 | ⟨h7, h8, h9, h10⟩
  · exact .inl h7
  · refine .inr ⟨h7, h8, fun j' hj' => ?_⟩
    by_cases e : j' = j
    · subst e
      intro _ a ha
      obtain ⟨p, hp⟩ := List.mem_iff_getElem?.1 ha
      exact h10 p (by rw [hk]; exact (List.getElem?_eq_some_iff.1 hp).1) a hp
    · exact h9 j' (by omega)
theorem M3.skip {Es : List En} {i n r g c0 q : Nat} {V : Value} {j : Nat} {w wr : World} {v6 : Value} {k a : Nat} {ms : List Bool} (h : M3 Es i n r g c0 q V j w wr v6 k ms) (ha : (nxE Es j)[k]? = some a) (hm : ms[a]? = some true) : M3 Es i n r g c0 q V j w wr v6 (k + 1) ms := by
  obtain ⟨h1, h2, h3, h4, h5, h6, h7⟩ := h
  refine ⟨h1, h2, h3, h4, h5, h6, ?_⟩
  rcases h7 with h7 | ⟨h7, h8, h9, h10⟩
  · exact .inl h7
  · refine .inr ⟨h7, h8, h9, fun p hp a' ha' => ?_⟩
    by_cases e : p = k
    · subst e
      rw [ha] at ha'
      injection ha' with ha'
      subst ha'
      exact hm
    · exact h10 p (by omega) a' ha'
theorem M3.mark {Es : List En} {i n r g c0 q : Nat} {V : Value} {j : Nat} {w wr : World} {v6 : Value} {k a : Nat} {ms : List Bool} (h : M3 Es i n r g c0 q V j w wr v6 k ms) (hok : EsOk Es) (ha : (nxE Es j)[k]? = some a) (hm : ms[a]? = some false) (hg : w.heap.size ≤ g) (hq : g < q) :
    M3 Es i n r g c0 q V j w (wr.setCell ⟨g, a, none⟩ (.bool true)) (.bool true) (k + 1) (ms.set a true) := by
  obtain ⟨h1, h2, h3, h4, h5, h6, h7⟩ := h
  have tS : Turn [g] wr (wr.setCell ⟨g, a, none⟩ (.bool true)) := (Turn.refl [g] wr).setCell (.inl (by simp)) _
  have hc := count_mark ms a hm
  refine ⟨by rw [List.length_set]; exact h1, snd_mark hok h2 h6 (List.mem_of_getElem? ha), h3.putAt h1.symm, h4.trans tS (fun x hx => .inr (by simp at hx; omega)), h5.turn tS (fun x hx hh => by have := (h5.lt x hx).1; simp at hh; omega), ?_, .inl ⟨rfl, ?_⟩⟩
  · rcases h6 with h6 | h6
    · exact .inl h6
    · right
      rw [List.getElem?_set]
      by_cases e : a = j
      · subst e
        rw [hm] at h6
        cases h6
      · rw [if_neg e]
        exact h6
  · rcases h7 with ⟨_, h7⟩ | ⟨_, h7, _⟩ <;> omega

set_option maxHeartbeats 25600000 in
theorem rmarks_any (A : Option Addr) (c B : Nat) (l : List K8) (m0 m1 m2 m3 m4 m5 m6 m7 m8 : Value) (i : Nat) (w : World) (hr : RdKs B w A l) (hl : l.length ≤ 1000) (hfl : ∀ x ∈ l, x.fcs.length ≤ 999) (hrt : ∀ j x, l[j]? = some x → rtI l x = ofN (nxE (esL l) j)) (hi : i < l.length) :
    Calls Tryd.prog 31 #[.agg #[.slice A l.length c, m0, m1, m2, m3, m4, m5, m6, m7, m8], .int .i64 (i : Int)] w fun e w' => ∃ g ms, e = .returned (.slice (some ⟨g, 0, none⟩) l.length l.length) ∧ OwnB w' 0 (.slice (some ⟨g, 0, none⟩) l.length l.length) ms ∧ ms.length = l.length ∧ (∀ k : Nat, ms[k]? = some true ↔ Ab1 (esL l) i k) ∧ Turn [] w w' := by
  obtain ⟨n, hn⟩ : ∃ n, l.length = n := ⟨_, rfl⟩
  obtain ⟨r, hrr⟩ : ∃ r, w.heap.size = r := ⟨_, rfl⟩
  obtain ⟨W0, hW0⟩ : ∃ W, w.alloc (.cells #[.slice A n c, m0, m1, m2, m3, m4, m5, m6, m7, m8] 30) = W := ⟨_, rfl⟩
  have t0 : Turn [] w W0 := by rw [← hW0]; exact (Turn.refl [] w).alloc _
  have s0 : W0.heap.size = r + 1 := by rw [← hW0, ← hrr]; simp
  have b0 : W0.heap[r]? = some (.cells #[.slice A n c, m0, m1, m2, m3, m4, m5, m6, m7, m8] 30 (0, 0)) := by rw [← hW0, ← hrr]; exact heap_alloc_new w _
  obtain ⟨Es, hEs⟩ : ∃ Es, esL l = Es := ⟨_, rfl⟩
  have hok : EsOk Es := by rw [← hEs]; exact esL_ok hl hfl
  have hen : Es.length = n := by rw [← hEs, esL_len, hn]
  rw [hEs] at hrt ⊢
  have HRt : Hid (∀ W (j : Nat), Turn [] W0 W → j < n → Calls Tryd.prog 24 #[.agg #[.slice A n c, m0, m1, m2, m3, m4, m5, m6, m7, m8], .int .i64 (j : Int)] W fun e w' => ∃ U, e = .returned U ∧ OwnI w' W.heap.size U (ofN (nxE Es j)) ∧ Turn [] W w') := Lib.hid fun W j t hj => by
    obtain ⟨x, hx⟩ := at_lt (show j < l.length by omega)
    rw [← hn, ← hrt j x hx]
    exact rright_any A c B l m0 m1 m2 m3 m4 m5 m6 m7 m8 j x W ((hr.turn t0 (by simp)).turn t (by simp)) hl hx (hfl x (List.mem_of_getElem? hx))
  have p0 : W0.cell? ⟨r, 0, none⟩ = some (.slice A n c) := cell_of_row W0 r 0 _ _ _ b0
  have hpc : ∀ W, Turn [] W0 W → ∀ (q : Nat) (v : Value), (#[Value.slice A n c, m0, m1, m2, m3, m4, m5, m6, m7, m8] : Array Value)[q]? = some v → W.cell? ⟨r, q, none⟩ = some v := fun W t q v hv => (cell_of_row W r q _ _ _ (t.heap b0 (by simp))).trans hv
  obtain ⟨g, hg⟩ : ∃ g, W0.heap.size = g := ⟨_, rfl⟩
  obtain ⟨W1, hW1⟩ : ∃ W, W0.alloc (.cells (madeCells #[.bool false] n) 4) = W := ⟨_, rfl⟩
  have t1 : Turn [] W0 W1 := by rw [← hW1]; exact (Turn.refl [] W0).alloc _
  have hd1 : OwnB W1 0 (.slice (some ⟨g, 0, none⟩) n n) (List.replicate n false) := by
    have := OwnB.falses W0 0 n (Nat.zero_le _) (by omega)
    rw [Nat.mul_one, hg, hW1] at this
    exact this
  have hmk := fun W : World => make_bools n (by omega) W
  simp only [Nat.mul_one] at hmk
  have hrn : r < W0.heap.size := by omega
  have HSZ : Hid (W0.heap.size = g ∧ g < W1.heap.size) := Lib.hid ⟨hg, by rw [← hW1, ← hg]; simp⟩
  have HM0 : Hid (M1 Es i n 0 g W0 W1 (.bool true) (2 * (List.replicate n false).count false + 1)) := Lib.hid ⟨List.replicate n false, by simp, fun k hk => by rw [List.getElem?_replicate] at hk; (split at hk <;> cases hk), hd1, t1, .inl ⟨rfl, rfl⟩⟩
  have HP := Lib.hid hpc
  have HOK := Lib.hid hok
  have HEN := Lib.hid hen
  have HT0 := Lib.hid t0
  have HW0 := Lib.hid hW0
  have HW1 := Lib.hid hW1
  have HRR := Lib.hid hrr
  have HG := Lib.hid hg
  have hn1 : n ≤ 1000 := by omega
  rw [hn] at hi ⊢
  clear hr hrr hW0 t0 s0 b0 hW1 t1 hd1 hpc hok hen hg hrt hEs hfl hn hl
  go_enter Tryd.func31, Tryd.ntmps31
  go_upto_region 1 with fail
  rw [HRR.out, HW0.out]
  go_upto_region 2 with fail
  rw [HG.out, HW1.out]
  clear hmk p0 hrn
  go_wp2_with fail
  go_loopw [6] (fun v6 wr => ∃ m, Hid (M1 Es i n 0 g W0 wr v6 m)) (fun v6 wr => least (fun m => M1 Es i n 0 g W0 wr v6 m))
  case atStart => exact ⟨_, HM0⟩
  case round =>
    obtain ⟨ma, HMA⟩ := hrel
    have hsp := least_spec (R := fun m => M1 Es i n 0 g W0 wr u6 m) ⟨ma, HMA.out⟩
    obtain ⟨m, hm⟩ : ∃ m, least (fun m => M1 Es i n 0 g W0 wr u6 m) = m := ⟨_, rfl⟩
    rw [hm] at hsp
    have HMM := Lib.hid hm
    clear hm HMA HM0
    obtain ⟨ms0, hms⟩ := hsp
    obtain ⟨a1, a2, a3, a4, ⟨rfl, a5⟩ | ⟨rfl, a5, a6⟩⟩ := hms
    · obtain ⟨c0, hc0⟩ : ∃ c0, ms0.count false = c0 := ⟨_, rfl⟩
      have H20 : Hid (M2 Es i n 0 g c0 W0 wr (.bool false) 0 ms0) := Lib.hid ⟨a1, a2, a3, a4, .inr ⟨rfl, hc0, fun j hj => absurd hj (Nat.not_lt_zero j)⟩⟩
      rw [hc0] at a5
      have HM5 := Lib.hid a5
      clear a1 a2 a3 a4 a5 hc0
      go_wp2_with fail
      go_loopw [6, 7] (fun v6 v7 wr => ∃ (j : Nat) (ms : List Bool), j ≤ n ∧ v7 = .int .i64 (j : Int) ∧ Hid (M2 Es i n 0 g c0 W0 wr v6 j ms)) (fun _ v7 _ => n - (intOf v7).toNat)
      case atStart => exact ⟨0, ms0, Nat.zero_le _, rfl, H20⟩
      case round =>
        obtain ⟨j, ms, hj, rfl, H2⟩ := hrel
        by_cases hjn : j < n
        · have d1 : decide ((j : Int) < (n : Int)) = true := by simp; omega
          have d2 : (j : Int) < (n : Int) := by omega
          have d2' : j < n := hjn
          obtain ⟨mb, hmb⟩ := at_lt (show j < ms.length by rw [H2.out.1]; exact hjn)
          have cm : wr.cell? ⟨g, j, none⟩ = some (.bool mb) := H2.out.2.2.1.at.1 j mb hmb
          have tt := H2.out.2.2.2.1
          by_cases hji : j = i
          · subst hji
            have d6 : ((j : Int) != (j : Int)) = false := by simp
            have HJ : Hid (j = j ∨ ms[j]? = some true) := Lib.hid (.inl rfl)
            have HMB := Lib.hid hmb
            clear hmb
            have q0 : wr.cell? ⟨r, 0, none⟩ = some (.slice A n c) := HP.out wr (tt) 0 _ rfl
            have q1 : wr.cell? ⟨r, 1, none⟩ = some m0 := HP.out wr (tt) 1 _ rfl
            have q2 : wr.cell? ⟨r, 2, none⟩ = some m1 := HP.out wr (tt) 2 _ rfl
            have q3 : wr.cell? ⟨r, 3, none⟩ = some m2 := HP.out wr (tt) 3 _ rfl
            have q4 : wr.cell? ⟨r, 4, none⟩ = some m3 := HP.out wr (tt) 4 _ rfl
            have q5 : wr.cell? ⟨r, 5, none⟩ = some m4 := HP.out wr (tt) 5 _ rfl
            have q6 : wr.cell? ⟨r, 6, none⟩ = some m5 := HP.out wr (tt) 6 _ rfl
            have q7 : wr.cell? ⟨r, 7, none⟩ = some m6 := HP.out wr (tt) 7 _ rfl
            have q8 : wr.cell? ⟨r, 8, none⟩ = some m7 := HP.out wr (tt) 8 _ rfl
            have q9 : wr.cell? ⟨r, 9, none⟩ = some m8 := HP.out wr (tt) 9 _ rfl
            obtain ⟨q, hq⟩ : ∃ q, wr.heap.size = q := ⟨_, rfl⟩
            have HRx := Lib.hid (HRt.out wr j tt hjn)
            rw [hq] at HRx
            have HGQ : Hid (g < q) := Lib.hid (by
              have h1 := H2.out.2.2.1.lt g rfl
              omega)
            clear hq tt
            go_wp2_with fail
            refine HRx.out.mono ?_
            rintro e w4 ⟨U, rfl, hU, t4⟩
            obtain ⟨AU, cU, hUe, _, _⟩ := hU.form
            obtain ⟨N, hN⟩ : ∃ N, (nxE Es j).length = N := ⟨_, rfl⟩
            have hNo : (ofN (nxE Es j)).length = N := by unfold ofN; rw [List.length_map, hN]
            rw [hNo] at hUe
            have H30 : Hid (M3 Es j n 0 g c0 q (.slice AU N cU) j W0 w4 u6 0 ms) := by
              obtain ⟨x1, x2, x3, x4, x5⟩ := H2.out
              refine Lib.hid ⟨x1, x2, x3.turn' t4, x4.trans' t4, by rw [← hUe]; exact hU, .inl rfl, ?_⟩
              rcases x5 with x5 | ⟨x5, x6, x7⟩
              · exact .inl x5
              · exact .inr ⟨x5, x6, x7, fun p hp => absurd hp (Nat.not_lt_zero p)⟩
            subst hUe
            have hN1 : N ≤ 1000 := by rw [← hN]; exact HOK.out.few j
            have HNN := Lib.hid hN
            clear hU t4 hN hNo q0 q1 q2 q3 q4 q5 q6 q7 q8 q9 cm HRx
            go_wp2_with fail
            go_loopw [6, 9] (fun v6 v9 wr => ∃ (k : Nat) (ms : List Bool), k ≤ N ∧ v9 = .int .i64 (k : Int) ∧ Hid (M3 Es j n 0 g c0 q (.slice AU N cU) j W0 wr v6 k ms)) (fun _ v9 _ => N - (intOf v9).toNat)
            case atStart => exact ⟨0, ms, Nat.zero_le _, rfl, H30⟩
            case round =>
              obtain ⟨k, mt, hk, rfl, H3⟩ := hrel
              by_cases hkN : k < N
              · have d3 : decide ((k : Int) < (N : Int)) = true := by simp; omega
                have d4 : (k : Int) < (N : Int) := by omega
                obtain ⟨a, ha⟩ := at_lt (show k < (nxE Es j).length by rw [HNN.out]; exact hkN)
                obtain ⟨ab, aoff, rfl, ca⟩ := H3.out.2.2.2.2.1.at' k (a : Int) (by unfold ofN; simp [ha])
                have han : a < n := by have := HOK.out.lt j a (List.mem_of_getElem? ha); rw [HEN.out] at this; exact this
                have d5 : (a : Int) < (n : Int) := by omega
                obtain ⟨ba, hba⟩ := at_lt (show a < mt.length by rw [H3.out.1]; exact han)
                have cb : wr.cell? ⟨g, a, none⟩ = some (.bool ba) := H3.out.2.2.1.at.1 a ba hba
                have cbf : wr.frozen? ⟨g, a, none⟩ = false := H3.out.2.2.1.at.2 a
                have HAA := Lib.hid (And.intro ha hba)
                clear ha hba
                cases ba with
                | true =>
                  have HN3 : Hid (M3 Es j n 0 g c0 q (.slice (some ⟨ab, aoff, none⟩) N cU) j W0 wr u6 (k + 1) mt) := Lib.hid (H3.out.skip HAA.out.1 HAA.out.2)
                  go_wp2_with fail
                  go_roundw
                  case rel => exact ⟨k + 1, mt, by omega, by go_num, HN3⟩
                  case measure => simp [intOf]; omega
                | false =>
                  have HN3 : Hid (M3 Es j n 0 g c0 q (.slice (some ⟨ab, aoff, none⟩) N cU) j W0 (wr.setCell ⟨g, a, none⟩ (.bool true)) (.bool true) (k + 1) (mt.set a true)) := Lib.hid (H3.out.mark HOK.out HAA.out.1 HAA.out.2 (by have := HSZ.out.1; omega) HGQ.out)
                  go_wp2_with fail
                  go_roundw
                  case rel => exact ⟨k + 1, _, by omega, by go_num, HN3⟩
                  case measure => simp [intOf]; omega
              · obtain rfl : k = N := by omega
                have d3 : decide ((k : Int) < (k : Int)) = false := by simp
                have HN2 : Hid (M2 Es j n 0 g c0 W0 wr u6 (j + 1) mt) := Lib.hid (H3.out.done HNN.out.symm)
                go_wp2_with fail
                go_roundw
                case rel => exact ⟨j + 1, mt, by omega, by go_num, HN2⟩
                case measure => simp [intOf]; omega
          · have d6 : ((j : Int) != (i : Int)) = true := by simp; omega
            have d6' : decide ((j : Int) = (i : Int)) = false := by simp; omega
            cases mb with
            | true =>
              have HJ : Hid (j = i ∨ ms[j]? = some true) := Lib.hid (.inr hmb)
              have HMB := Lib.hid hmb
              clear hmb
              have q0 : wr.cell? ⟨r, 0, none⟩ = some (.slice A n c) := HP.out wr (tt) 0 _ rfl
              have q1 : wr.cell? ⟨r, 1, none⟩ = some m0 := HP.out wr (tt) 1 _ rfl
              have q2 : wr.cell? ⟨r, 2, none⟩ = some m1 := HP.out wr (tt) 2 _ rfl
              have q3 : wr.cell? ⟨r, 3, none⟩ = some m2 := HP.out wr (tt) 3 _ rfl
              have q4 : wr.cell? ⟨r, 4, none⟩ = some m3 := HP.out wr (tt) 4 _ rfl
              have q5 : wr.cell? ⟨r, 5, none⟩ = some m4 := HP.out wr (tt) 5 _ rfl
              have q6 : wr.cell? ⟨r, 6, none⟩ = some m5 := HP.out wr (tt) 6 _ rfl
              have q7 : wr.cell? ⟨r, 7, none⟩ = some m6 := HP.out wr (tt) 7 _ rfl
              have q8 : wr.cell? ⟨r, 8, none⟩ = some m7 := HP.out wr (tt) 8 _ rfl
              have q9 : wr.cell? ⟨r, 9, none⟩ = some m8 := HP.out wr (tt) 9 _ rfl
              obtain ⟨q, hq⟩ : ∃ q, wr.heap.size = q := ⟨_, rfl⟩
              have HRx := Lib.hid (HRt.out wr j tt hjn)
              rw [hq] at HRx
              have HGQ : Hid (g < q) := Lib.hid (by
                have h1 := H2.out.2.2.1.lt g rfl
                omega)
              clear hq tt
              go_wp2_with fail
              refine HRx.out.mono ?_
              rintro e w4 ⟨U, rfl, hU, t4⟩
              obtain ⟨AU, cU, hUe, _, _⟩ := hU.form
              obtain ⟨N, hN⟩ : ∃ N, (nxE Es j).length = N := ⟨_, rfl⟩
              have hNo : (ofN (nxE Es j)).length = N := by unfold ofN; rw [List.length_map, hN]
              rw [hNo] at hUe
              have H30 : Hid (M3 Es i n 0 g c0 q (.slice AU N cU) j W0 w4 u6 0 ms) := by
                obtain ⟨x1, x2, x3, x4, x5⟩ := H2.out
                refine Lib.hid ⟨x1, x2, x3.turn' t4, x4.trans' t4, by rw [← hUe]; exact hU, HJ.out, ?_⟩
                rcases x5 with x5 | ⟨x5, x6, x7⟩
                · exact .inl x5
                · exact .inr ⟨x5, x6, x7, fun p hp => absurd hp (Nat.not_lt_zero p)⟩
              subst hUe
              have hN1 : N ≤ 1000 := by rw [← hN]; exact HOK.out.few j
              have HNN := Lib.hid hN
              clear hU t4 hN hNo q0 q1 q2 q3 q4 q5 q6 q7 q8 q9 cm HRx
              go_wp2_with fail
              go_loopw [6, 9] (fun v6 v9 wr => ∃ (k : Nat) (ms : List Bool), k ≤ N ∧ v9 = .int .i64 (k : Int) ∧ Hid (M3 Es i n 0 g c0 q (.slice AU N cU) j W0 wr v6 k ms)) (fun _ v9 _ => N - (intOf v9).toNat)
              case atStart => exact ⟨0, ms, Nat.zero_le _, rfl, H30⟩
              case round =>
                obtain ⟨k, mt, hk, rfl, H3⟩ := hrel
                by_cases hkN : k < N
                · have d3 : decide ((k : Int) < (N : Int)) = true := by simp; omega
                  have d4 : (k : Int) < (N : Int) := by omega
                  obtain ⟨a, ha⟩ := at_lt (show k < (nxE Es j).length by rw [HNN.out]; exact hkN)
                  obtain ⟨ab, aoff, rfl, ca⟩ := H3.out.2.2.2.2.1.at' k (a : Int) (by unfold ofN; simp [ha])
                  have han : a < n := by have := HOK.out.lt j a (List.mem_of_getElem? ha); rw [HEN.out] at this; exact this
                  have d5 : (a : Int) < (n : Int) := by omega
                  obtain ⟨ba, hba⟩ := at_lt (show a < mt.length by rw [H3.out.1]; exact han)
                  have cb : wr.cell? ⟨g, a, none⟩ = some (.bool ba) := H3.out.2.2.1.at.1 a ba hba
                  have cbf : wr.frozen? ⟨g, a, none⟩ = false := H3.out.2.2.1.at.2 a
                  have HAA := Lib.hid (And.intro ha hba)
                  clear ha hba
                  cases ba with
                  | true =>
                    have HN3 : Hid (M3 Es i n 0 g c0 q (.slice (some ⟨ab, aoff, none⟩) N cU) j W0 wr u6 (k + 1) mt) := Lib.hid (H3.out.skip HAA.out.1 HAA.out.2)
                    go_wp2_with fail
                    go_roundw
                    case rel => exact ⟨k + 1, mt, by omega, by go_num, HN3⟩
                    case measure => simp [intOf]; omega
                  | false =>
                    have HN3 : Hid (M3 Es i n 0 g c0 q (.slice (some ⟨ab, aoff, none⟩) N cU) j W0 (wr.setCell ⟨g, a, none⟩ (.bool true)) (.bool true) (k + 1) (mt.set a true)) := Lib.hid (H3.out.mark HOK.out HAA.out.1 HAA.out.2 (by have := HSZ.out.1; omega) HGQ.out)
                    go_wp2_with fail
                    go_roundw
                    case rel => exact ⟨k + 1, _, by omega, by go_num, HN3⟩
                    case measure => simp [intOf]; omega
                · obtain rfl : k = N := by omega
                  have d3 : decide ((k : Int) < (k : Int)) = false := by simp
                  have HN2 : Hid (M2 Es i n 0 g c0 W0 wr u6 (j + 1) mt) := Lib.hid (H3.out.done HNN.out.symm)
                  go_wp2_with fail
                  go_roundw
                  case rel => exact ⟨j + 1, mt, by omega, by go_num, HN2⟩
                  case measure => simp [intOf]; omega
            | false =>
              have HN2 : Hid (M2 Es i n 0 g c0 W0 wr u6 (j + 1) ms) := by
                obtain ⟨x1, x2, x3, x4, x5⟩ := H2.out
                refine Lib.hid ⟨x1, x2, x3, x4, ?_⟩
                rcases x5 with x5 | ⟨x5, x6, x7⟩
                · exact .inl x5
                · refine .inr ⟨x5, x6, fun j' hj' => ?_⟩
                  by_cases e : j' = j
                  · subst e
                    rintro (h | h)
                    · exact absurd h hji
                    · rw [hmb] at h; cases h
                  · exact x7 j' (by omega)
              clear tt
              go_wp2_with fail
              go_roundw
              case rel => exact ⟨j + 1, ms, by omega, by go_num, HN2⟩
              case measure => simp [intOf]; omega
        · obtain rfl : j = n := by omega
          have d1 : decide ((j : Int) < (j : Int)) = false := by simp
          have HN1 : Hid (∃ m', m' < m ∧ M1 Es i j 0 g W0 wr u6 m') := by
            obtain ⟨x1, x2, x3, x4, x5⟩ := H2.out
            have h5 := HM5.out
            rcases x5 with ⟨x5, x6⟩ | ⟨x5, x6, x7⟩
            · exact Lib.hid ⟨2 * ms.count false + 1, by omega, ms, x1, x2, x3, x4, .inl ⟨x5, rfl⟩⟩
            · exact Lib.hid ⟨2 * ms.count false, by omega, ms, x1, x2, x3, x4, .inr ⟨x5, rfl, x7⟩⟩
          go_wp2_with fail
          go_roundw
          case rel => obtain ⟨m', _, h⟩ := HN1.out; exact ⟨m', Lib.hid h⟩
          case measure =>
            obtain ⟨m', hlt', h⟩ := HN1.out
            rw [HMM.out]
            exact Nat.lt_of_le_of_lt (least_le h) hlt'
    · have HD := Lib.hid (And.intro a1 (And.intro a2 (And.intro a3 (And.intro a4 a6))))
      clear a1 a2 a3 a4 a5 a6
      go_wp2_with fail
      go_ret
      refine ⟨g, ms0, rfl, HD.out.2.2.1, HD.out.1, fun k => ?_, HT0.out.trans' HD.out.2.2.2.1⟩
      exact mk_done HOK.out (by rw [HEN.out]; exact HD.out.1) (by rw [HEN.out]; exact hi) HD.out.2.1 (fun j hj => HD.out.2.2.2.2 j (by rw [← HEN.out]; exact hj)) k
end Go.Proofs.YtjnphoeifonenaaDoor

/- The reference's sound and Right against what fill lays: plain. -/
set_option linter.unusedSimpArgs false
set_option linter.unusedVariables false
set_option maxRecDepth 100000
namespace Go.Proofs.YtjnphoeifonenaaDoor
open Go.RowKit

theorem fnd_true {l : List K8} {s : ByteArray} {f : Bool} : (fndR l s f).2 = true ↔ (0 ≤ fndI l s ∧ faceAt l (fndI l s) = f) := by
  unfold fndR fndI
  cases h : fstF l l.length s with
  | none => simp
  | some i =>
    obtain ⟨_, y, hy, _⟩ := fstF_lt h
    simp [faceAt, hy]
theorem fnd_num {l : List K8} {s : ByteArray} {f : Bool} (h : 0 ≤ fndI l s) : (fndR l s f).1 = fndI l s := by
  unfold fndR fndI at *
  cases hf : fstF l l.length s with
  | none => rw [hf] at h; simp at h
  | some i => rfl
theorem fndI_inj {l : List K8} {s g : ByteArray} (h : 0 ≤ fndI l s) (e : fndI l s = fndI l g) : g = s := by
  rcases fndI_cases l s with h1 | ⟨j, y, h1, hy, hs⟩
  · omega
  · rcases fndI_cases l g with h2 | ⟨k, z, h2, hz, hg⟩
    · omega
    · have : j = k := by omega
      subst this
      rw [hy] at hz
      injection hz with hz
      rw [← hg, ← hs, hz]
theorem fndI_lt {l : List K8} (s : ByteArray) : fndI l s < (l.length : Int) := by
  rcases fndI_cases l s with h1 | ⟨j, y, h1, hy, hs⟩
  · omega
  · have := (List.getElem?_eq_some_iff.1 hy).1
    omega
/-- The faces, one behind another. -/
def fcsOk (l : List K8) : List ByteArray → List ByteArray → Bool
  | _, [] => true
  | pre, s :: ss => (decide (0 ≤ fndI l s) && faceAt l (fndI l s) && !(pre.any fun g => decide (g = s))) && fcsOk l (pre ++ [s]) ss
theorem facR_is {l : List K8} (hl : l.length ≤ 1000) : ∀ (ss pre : List ByteArray) (st rt : List Int), (∀ y, y ∈ st ↔ ∃ g ∈ pre, y = fndI l g) → facR l ss st rt = if fcsOk l pre ss = true then some (rt ++ ss.map (fndI l)) else none
  | [], pre, st, rt, h => by simp [facR, fcsOk]
  | s :: ss, pre, st, rt, h => by
    unfold facR fcsOk
    by_cases h0 : 0 ≤ fndI l s
    · rw [fnd_num h0]
      have hlt := fndI_lt (l := l) s
      have hb : hasB st (fndI l s) = (pre.any fun g => decide (g = s)) := by
        rw [Bool.eq_iff_iff, hasB_iff, h, List.any_eq_true]
        constructor
        · rintro ⟨g, hg, e⟩
          exact ⟨g, hg, by simpa using fndI_inj h0 e⟩
        · rintro ⟨g, hg, e⟩
          exact ⟨g, hg, by rw [show g = s by simpa using e]⟩
      rw [hb]
      have ih := facR_is hl ss (pre ++ [s]) (putL st (fndI l s)) (rt ++ [fndI l s]) (fun y => by
        rw [mem_putL, h]
        constructor
        · rintro (⟨g, hg, e⟩ | ⟨e, _⟩)
          · exact ⟨g, by simp [hg], e⟩
          · exact ⟨s, by simp, e⟩
        · rintro ⟨g, hg, e⟩
          rw [List.mem_append] at hg
          rcases hg with hg | hg
          · exact .inl ⟨g, hg, e⟩
          · rw [List.mem_singleton.1 hg] at e
            refine .inr ⟨e, ?_⟩
            unfold okB
            simp
            omega)
      rw [ih]
      by_cases hf : faceAt l (fndI l s) = true
      · have ht : (fndR l s true).2 = true := fnd_true.2 ⟨h0, hf⟩
        cases hp : (pre.any fun g => decide (g = s)) with
        | true => simp [hp]
        | false =>
          rw [if_pos ⟨ht, rfl⟩]
          simp [h0, hf]
      · have ht : ¬ (fndR l s true).2 = true := fun h => hf (fnd_true.1 h).2
        rw [if_neg (fun h => ht h.1)]
        simp [hf]
    · have ht : ¬ (fndR l s true).2 = true := fun h => h0 (fnd_true.1 h).1
      rw [if_neg (fun h => ht h.1)]
      simp [h0]
theorem fcsOk_iff {l : List K8} : ∀ (ss pre : List ByteArray), fcsOk l pre ss = true ↔ ∀ (a : Nat) (f : ByteArray), ss[a]? = some f → (decide (0 ≤ fndI l f) && faceAt l (fndI l f) && !((pre ++ ss.take a).any fun g => decide (g = f))) = true
  | [], pre => by simp [fcsOk]
  | s :: ss, pre => by
    unfold fcsOk
    rw [Bool.and_eq_true, fcsOk_iff ss (pre ++ [s])]
    constructor
    · rintro ⟨h1, h2⟩ a f hf
      cases a with
      | zero =>
        simp only [List.getElem?_cons_zero] at hf
        injection hf with hf
        subst hf
        simpa using h1
      | succ a =>
        rw [List.getElem?_cons_succ] at hf
        have := h2 a f hf
        rw [List.append_assoc] at this
        exact this
    · intro h
      refine ⟨by simpa using h 0 s rfl, fun a f hf => ?_⟩
      have := h (a + 1) f (by rw [List.getElem?_cons_succ]; exact hf)
      rw [List.append_assoc]
      exact this
theorem fcs_all {l : List K8} {x : K8} : (List.range x.fcs.length).all (fcB l x) = fcsOk l [] x.fcs := by
  rw [Bool.eq_iff_iff, fcsOk_iff, List.all_eq_true]
  constructor
  · intro h a f hf
    have := h a (List.mem_range.2 (List.getElem?_eq_some_iff.1 hf).1)
    unfold fcB at this
    rw [hf] at this
    exact this
  · intro h a ha
    obtain ⟨f, hf⟩ := at_lt (List.mem_range.1 ha)
    have := h a f hf
    unfold fcB
    rw [hf]
    exact this
theorem ent_is {l : List K8} (hl : l.length ≤ 1000) (x : K8) : entR8 l x = if (supOk l x && fcsOk l [] x.fcs) = true then some (if x.sup = ⟨#[]⟩ then -1 else fndI l x.sup, rtI l x) else none := by
  unfold entR8 supOk rtI
  have h0 : ∀ y, y ∈ ([] : List Int) ↔ ∃ g ∈ ([] : List ByteArray), y = fndI l g := by simp
  by_cases hs : x.sup = ⟨#[]⟩
  · rw [if_pos hs, facR_is hl x.fcs [] [] [] h0]
    cases hc : fcsOk l [] x.fcs <;> simp [hs]
  · rw [if_neg hs]
    by_cases h1 : 0 ≤ fndI l x.sup
    · cases hf : faceAt l (fndI l x.sup) with
      | true =>
        rw [if_neg (fun h => by have := (fnd_true.1 h).2; rw [hf] at this; cases this)]
        simp [hs]
      | false =>
        rw [if_pos (fnd_true.2 ⟨h1, hf⟩), fnd_num h1, facR_is hl x.fcs [] [] _ h0]
        cases hc : fcsOk l [] x.fcs <;> simp [hs, h1]
    · rw [if_neg (fun h => h1 (fnd_true.1 h).1)]
      simp [hs, h1]
theorem okK_is {l : List K8} (hl : l.length ≤ 1000) (i : Nat) (x : K8) : okK l i x = sndB l i x := by
  have hn : decide (fstF l l.length x.nm = some i) = decide (fndI l x.nm = (i : Int)) := by
    unfold fndI
    cases h : fstF l l.length x.nm with
    | none => simp
    | some j => simp; omega
  unfold okK sndB
  rw [ent_is hl, hn, fcs_all]
  cases supOk l x <;> cases fcsOk l [] x.fcs <;> simp
theorem rt_is {l : List K8} (hl : l.length ≤ 1000) {i : Nat} {x : K8} (h : sndB l i x = true) (hx : l[i]? = some x) : rtI l x = ofN (nxE (esL l) i) := by
  have he : entR8 l x = some (if x.sup = ⟨#[]⟩ then -1 else fndI l x.sup, rtI l x) := by
    rw [ent_is hl, if_pos]
    unfold sndB at h
    rw [fcs_all] at h
    simp only [Bool.and_eq_true] at h ⊢
    exact ⟨h.1.2, h.2⟩
  rw [nxE_esL hx]
  unfold enOf
  rw [he]
  unfold ofN
  rw [List.map_map]
  conv => lhs; rw [← List.map_id (rtI l x)]
  refine List.map_congr_left fun y hy => ?_
  obtain ⟨j, e, _⟩ := (entR8_nat he).1 y hy
  simp [e]
end Go.Proofs.YtjnphoeifonenaaDoor
