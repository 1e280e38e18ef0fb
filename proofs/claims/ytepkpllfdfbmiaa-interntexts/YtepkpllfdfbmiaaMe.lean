/- The table's methods on tuples: New, Id, Find, Tuple, Len. -/
import Derived.Test.YtepkpllfdfbmiaaId
set_option linter.unusedSimpArgs false
set_option linter.unusedVariables false
namespace Go.Proofs.Ytepkpllfdfbmiaa
open Go.RowKit Go.Maps

/-- A slice of ints that may be nil. -/
def Arg (w : World) (A : Option Addr) (ns : List Int) (c : Nat) : Prop := Ints w A ns ∧ Wf ns ∧ (A = none → ns.length = 0 ∧ c = 0)
theorem Arg.turn' {w w' : World} {A : Option Addr} {ns : List Int} {c : Nat} (h : Arg w A ns c) (t : Turn [] w w') : Arg w' A ns c := ⟨h.1.below t, h.2⟩

theorem new_any (w : World) : Calls Try.prog 7 #[] w fun e w' => ∃ b, e = .returned (.pointer (some ⟨b, 0, none⟩)) ∧ Tt w' b [b] [] [] ∧ w.heap.size ≤ b ∧ Turn [] w w' := by
  go_enter Try.func7, Try.ntmps7
  go_wp2_with fail
  go_ret
  refine ⟨w.heap.size, rfl, ⟨⟨.map none, .slice none 0 0, .map none, .slice none 0 0, heap_alloc_new w _, by simp, by simp, .inl ⟨rfl, rfl⟩, World.ownsRow_nil _ _ _ _, .inl ⟨rfl, rfl⟩, World.ownsRow_nil _ _ _ _, by simp, by simp [Value.ownBlock], by simp, by simp [Value.ownBlock], by simp⟩, OkN.nil, OkS.nil⟩, Nat.le_refl _, (Turn.refl _ _).alloc _⟩

theorem id_any (b : Nat) (F : List Nat) (Ns : List (List Int)) (S : List ByteArray) (A : Option Addr) (ns : List Int) (c : Nat) (w : World) (h : Tt w b F Ns S) (hA : Arg w A ns c) (hl : Ns.length ≤ 1000000) :
    Calls Try.prog 8 #[.pointer (some ⟨b, 0, none⟩), .slice A ns.length c] w fun e w' => e = .returned (.int .i64 (idN Ns ns)) ∧ ∃ F', Tt w' b F' (idL Ns ns) S ∧ Foot w.heap.size F F' ∧ Turn F w w' := by
  have H := Lib.hid h
  have HA := Lib.hid hA
  clear h hA
  go_enter Try.func8, Try.ntmps8
  go_wp2_with fail
  refine (tupleNumber_any b F Ns S A ns c _ H.out HA.out.1 HA.out.2.1 HA.out.2.2 hl).mono ?_
  rintro e w1 ⟨rfl, hx⟩
  have HX := Lib.hid hx
  clear hx
  go_wp2_with fail
  go_ret
  exact ⟨rfl, HX.out⟩

theorem len_any (b : Nat) (F : List Nat) (Ns : List (List Int)) (S : List ByteArray) (w : World) (h : Tt w b F Ns S) :
    Calls Try.prog 10 #[.pointer (some ⟨b, 0, none⟩)] w fun e w' => e = .returned (.int .i64 (Ns.length : Int)) ∧ w = w' := by
  have hK := count_any b F (Ns.map tup) S w h.1 h.2.1.nine
  rw [List.length_map] at hK
  have HK := Lib.hid hK
  clear h hK
  go_enter Try.func10, Try.ntmps10
  go_wp2_with fail
  refine HK.out.mono ?_
  rintro e w1 ⟨rfl, rfl⟩
  go_wp2_with fail
  go_ret
  exact ⟨rfl, rfl⟩

/-- What Find tells. -/
def fdN (Ns : List (List Int)) (ns : List Int) : Nat := if 8 < ns.length then 0 else fnd Ns ns
def fdB (Ns : List (List Int)) (ns : List Int) : Bool := if 8 < ns.length then false else inB Ns ns

set_option maxHeartbeats 1600000 in
theorem findTuple_any (b : Nat) (F : List Nat) (Ns : List (List Int)) (S : List ByteArray) (A : Option Addr) (ns : List Int) (c : Nat) (w : World) (h : Tt w b F Ns S) (hA : Arg w A ns c) :
    Calls Try.prog 24 #[.pointer (some ⟨b, 0, none⟩), .slice A ns.length c] w fun e w' => e = .returned (.tuple #[.int .i64 (fdN Ns ns : Int), .bool (fdB Ns ns)]) ∧ Turn [] w w' := by
  have H := Lib.hid h
  have HA := Lib.hid hA
  clear h hA
  by_cases h8 : 8 < ns.length
  · have HI : Hid (fdN Ns ns = 0 ∧ fdB Ns ns = false) := Lib.hid ⟨if_pos h8, if_pos h8⟩
    rw [HI.out.1, HI.out.2]
    go_enter Try.func24, Try.ntmps24
    go_wp2_with fail
    refine (tupleOf_no A ns.length c _ h8).mono ?_
    rintro e w1 ⟨rfl, ht1⟩
    have HT1 := Lib.hid ht1
    clear ht1
    rw [show tV zeroT = .agg #[.int .i64 0, .int .i64 0, .int .i64 0, .int .i64 0, .int .i64 0, .int .i64 0, .int .i64 0, .int .i64 0, .int .i64 0] from rfl]
    go_wp2_with fail
    go_ret2
    exact ⟨rfl, HT1.out.alloc _⟩
  · have hn : ns.length ≤ 8 := by omega
    have HI : Hid (fdN Ns ns = fnd Ns ns ∧ fdB Ns ns = inB Ns ns) := Lib.hid ⟨if_neg h8, if_neg h8⟩
    rw [HI.out.1, HI.out.2]
    have HG : Hid (Gd (tup ns)) := Lib.hid ⟨tup_length hn, HA.out.2.1.tup hn⟩
    obtain ⟨b0, b1, b2, b3, b4, b5, b6, b7, b8, hb⟩ := nine (tup_length hn)
    have HB := Lib.hid hb
    clear hb
    go_enter Try.func24, Try.ntmps24
    go_wp2_with fail
    refine (tupleOf_yes A ns c _ HA.out.1 hn HA.out.2.2).mono ?_
    rintro e w1 ⟨rfl, ht1⟩
    have HT1 := Lib.hid ht1
    clear ht1
    rw [HB.out, tV9]
    have hK := number_keep b F (Ns.map tup) S b0 b1 b2 b3 b4 b5 b6 b7 b8 w1 (H.out.1.turn' HT1.out) H.out.2.1.nodup (by rw [← HB.out]; exact HG.out)
    rw [← HB.out, inB_tup, fnd_tup H.out.2.1] at hK
    have HK := Lib.hid hK
    clear hK
    go_wp2_with fail
    go_region_held3 (fun w' => w'.cell? ⟨w1.heap.size, 0, none⟩ = some (.int .i64 b0) ∧ w'.cell? ⟨w1.heap.size, 1, none⟩ = some (.int .i64 b1) ∧ w'.cell? ⟨w1.heap.size, 2, none⟩ = some (.int .i64 b2) ∧ w'.cell? ⟨w1.heap.size, 3, none⟩ = some (.int .i64 b3) ∧ w'.cell? ⟨w1.heap.size, 4, none⟩ = some (.int .i64 b4) ∧ w'.cell? ⟨w1.heap.size, 5, none⟩ = some (.int .i64 b5) ∧ w'.cell? ⟨w1.heap.size, 6, none⟩ = some (.int .i64 b6) ∧ w'.cell? ⟨w1.heap.size, 7, none⟩ = some (.int .i64 b7) ∧ w'.cell? ⟨w1.heap.size, 8, none⟩ = some (.int .i64 b8))
      (first | exact hn2 | go_keep)
      (first
        | (go_at_call 29; (with_reducible refine HK.out.mono ?_); rintro e w2 ⟨rfl, ht2, hn2⟩))
    have HT2 := Lib.hid (HT1.out.trans' ht2)
    clear ht2 hn2
    go_wp2_with fail
    go_ret2
    exact ⟨rfl, HT2.out⟩

theorem find_any (b : Nat) (F : List Nat) (Ns : List (List Int)) (S : List ByteArray) (A : Option Addr) (ns : List Int) (c : Nat) (w : World) (h : Tt w b F Ns S) (hA : Arg w A ns c) :
    Calls Try.prog 13 #[.pointer (some ⟨b, 0, none⟩), .slice A ns.length c] w fun e w' => e = .returned (.tuple #[.int .i64 (fdN Ns ns : Int), .bool (fdB Ns ns)]) ∧ Turn [] w w' := by
  have H := Lib.hid h
  have HA := Lib.hid hA
  clear h hA
  go_enter Try.func13, Try.ntmps13
  go_wp2_with fail
  refine (findTuple_any b F Ns S A ns c _ H.out HA.out).mono ?_
  rintro e w1 ⟨rfl, hx⟩
  have HX := Lib.hid hx
  clear hx
  go_wp2_with fail
  go_ret2
  exact ⟨rfl, HX.out⟩

theorem zeroT_tup : zeroT = tup [] := rfl
/-- The tuple of a number; none, if there is none. -/
def tpl (Ns : List (List Int)) (id : Int) : List Int := if id < 0 then [] else (Ns[id.toNat]?).getD []

set_option maxHeartbeats 1600000 in
theorem tuple_walk (b : Nat) (F : List Nat) (Ns : List (List Int)) (S : List ByteArray) (id : Int) (ns : List Int) (q : Bool) (w : World) (hn : ns.length ≤ 8)
    (hK : Calls Try.prog 22 #[.pointer (some ⟨b, 0, none⟩), .int .i64 id] w fun e w' => e = .returned (.tuple #[tV (tup ns), .bool q]) ∧ Turn [] w w') :
    Calls Try.prog 11 #[.pointer (some ⟨b, 0, none⟩), .int .i64 id] w fun e w' => ∃ v, e = .returned v ∧ OwnI w' w.heap.size v ns ∧ Turn [] w w' := by
  have HK := Lib.hid hK
  clear hK
  obtain ⟨b0, b1, b2, b3, b4, b5, b6, b7, b8, hb⟩ := nine (tup_length hn)
  have HB := Lib.hid hb
  clear hb
  go_enter Try.func11, Try.ntmps11
  go_wp2_with fail
  refine HK.out.mono ?_
  rintro e w1 ⟨rfl, ht1⟩
  have HT1 := Lib.hid ht1
  clear ht1
  rw [HB.out, tV9]
  go_wp2_with fail
  have hA := all_any ns (w1.alloc (.cells #[.int .i64 b0, .int .i64 b1, .int .i64 b2, .int .i64 b3, .int .i64 b4, .int .i64 b5, .int .i64 b6, .int .i64 b7, .int .i64 b8] 61)) hn
  rw [HB.out, tV9] at hA
  (with_reducible refine hA.mono ?_)
  clear hA
  rintro e w2 ⟨v, rfl, ho, ht2⟩
  have ta := HT1.out.alloc (.cells #[.int .i64 b0, .int .i64 b1, .int .i64 b2, .int .i64 b3, .int .i64 b4, .int .i64 b5, .int .i64 b6, .int .i64 b7, .int .i64 b8] 61)
  have HO := Lib.hid (ho.mono ta.size)
  have HT2 := Lib.hid (ta.trans' ht2)
  clear ho ht2 ta
  go_wp2_with fail
  go_ret
  exact ⟨_, rfl, HO.out, HT2.out⟩

theorem tuple_any (b : Nat) (F : List Nat) (Ns : List (List Int)) (S : List ByteArray) (id : Int) (w : World) (h : Tt w b F Ns S) (hl : Ns.length ≤ 1000000) :
    Calls Try.prog 11 #[.pointer (some ⟨b, 0, none⟩), .int .i64 id] w fun e w' => ∃ v, e = .returned v ∧ OwnI w' w.heap.size v (tpl Ns id) ∧ Turn [] w w' := by
  by_cases hid : id < 0 ∨ (Ns.length : Int) ≤ id
  · have e : tpl Ns id = [] := by
      unfold tpl
      by_cases h0 : id < 0
      · rw [if_pos h0]
      · rw [if_neg h0, List.getElem?_eq_none (by omega)]
        rfl
    rw [e]
    refine tuple_walk b F Ns S id [] false w (by simp) ?_
    rw [← zeroT_tup]
    exact thing_no b F (Ns.map tup) S id w h.1 h.2.1.nine (by rw [List.length_map]; exact hid)
  · obtain ⟨i, rfl⟩ : ∃ i : Nat, id = (i : Int) := ⟨id.toNat, by omega⟩
    have hi : i < Ns.length := by omega
    have e : tpl Ns (i : Int) = Ns[i] := by
      unfold tpl
      rw [if_neg (by omega), Int.toNat_natCast, List.getElem?_eq_getElem hi]
      rfl
    rw [e]
    exact tuple_walk b F Ns S i Ns[i] true w (h.2.1.2 _ (List.getElem_mem hi)).1 (thing_yes b F (Ns.map tup) S i (tup Ns[i]) w h.1 h.2.1.nine (by rw [List.getElem?_map, List.getElem?_eq_getElem hi]; rfl) (by simpa using hl))
end Go.Proofs.Ytepkpllfdfbmiaa
