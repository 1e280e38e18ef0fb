/- answer, call: rows of returns and calls. -/
import Derived.Test.YtoekaehpcjhhaaaGreatDoorSts
set_option linter.unusedSimpArgs false
set_option linter.unusedVariables false
namespace Go.Proofs.YtoekaehpcjhhaaaGreatDoor
open Go.RowKit

theorem sz_lit (a : Array UInt8) : (⟨a⟩ : ByteArray).size = a.size := rfl
theorem sts_new (w : World) (xs : List ByteArray) (C : Array Value) (hC : C = (xs.map Value.string).toArray) : Sts (w.alloc (.cells C 9)) (some ⟨w.heap.size, 0, none⟩) xs := by
  subst hC
  refine ⟨by simp, .inr ⟨_, 0, rfl, by simp, fun j u hj => ?_⟩⟩
  rw [cell_of_row _ w.heap.size _ _ _ _ (heap_alloc_new w _), Nat.zero_add]
  simpa using hj

/-- put of texts that were laid in a new slice. -/
theorem put_new (T b : Nat) (F : List Nat) (R : List Row) (D : Nat) (xs : List ByteArray) (C : Array Value) (hC : C = (xs.map Value.string).toArray) (w : World) (h : Sh T w b F R D) (hn : xs.length ≤ 1000) (hl : (cat xs).size ≤ 140737488355328) (hR : R.length ≤ 1000000000) :
    Calls Tryz.prog 56 #[.pointer (some ⟨b, 0, none⟩), .slice (some ⟨w.heap.size, 0, none⟩) xs.length xs.length] (w.alloc (.cells C 9)) fun e w' => e = .returned (.tuple #[]) ∧ Wr T w b F (R ++ [(D, cat xs)]) D w' := by
  have tA : Turn [] w (w.alloc (.cells C 9)) := (Turn.refl [] w).alloc _
  refine (put_any T b F R D _ _ xs _ (h.turn' tA) (sts_new w xs C hC) (Nat.le_refl _) (by omega) hl hR).mono ?_
  rintro e w1 ⟨rfl, hW⟩
  exact ⟨rfl, Wr.after tA hW⟩

theorem toList_inj {a b : ByteArray} (h : a.toList = b.toList) : a = b := by
  rw [ByteArray.toList_eq, ByteArray.toList_eq] at h
  exact bs_inj h
theorem bytes_t {a b : ByteArray} (h : a = b) : (a.toList == b.toList) = true := by simp [h]
theorem bytes_f {a b : ByteArray} (h : a ≠ b) : (a.toList == b.toList) = false := by
  simpa using fun e => h (toList_inj e)
theorem bytes_ne {a : ByteArray} (h : a ≠ ⟨#[]⟩) : a.toList.isEmpty = false := by
  have := bytes_f h
  simpa using this
theorem bytes_eq {s : ByteArray} (h : s.size = 0) : s = ⟨#[]⟩ := by
  apply bs_inj
  have : (bs s).length = 0 := by rw [← size_bs]; exact h
  rw [List.eq_nil_of_length_eq_zero this]
  rfl

set_option maxHeartbeats 1000000 in
theorem answer_any (T b : Nat) (F : List Nat) (R : List Row) (D : Nat) (x : ByteArray) (w : World) (h : Sh T w b F R D) (hx : x.size ≤ 1000) (hR : R.length ≤ 1000000000) :
    Calls Tryz.prog 82 #[.pointer (some ⟨b, 0, none⟩), .string x] w fun e w' => e = .returned (.tuple #[]) ∧ Wr T w b F (R ++ [(D, retT x)]) D w' := by
  have HS := Lib.hid h
  by_cases h0 : x.size = 0
  · obtain rfl := bytes_eq h0
    have HP := Lib.hid (put_new T b F R D [⟨#[114, 101, 116, 117, 114, 110, 59]⟩] _ rfl w h (by simp) (by rw [size_cat]; decide) hR)
    clear h
    go_enter Tryz.func82, Tryz.ntmps82
    go_wp2_with fail
    refine HP.out.mono ?_
    rintro e w1 ⟨rfl, hW⟩
    have HW := Lib.hid hW
    clear hW
    go_wp2_with fail
    go_end0
    exact ⟨rfl, HW.out⟩
  · have HP := Lib.hid (put_new T b F R D [⟨#[114, 101, 116, 117, 114, 110, 32]⟩, x, ⟨#[59]⟩] _ rfl w h (by simp) (by rw [size_cat]; simp [sz_lit]; omega) hR)
    have hb := bytes_ne (fun e : x = ⟨#[]⟩ => h0 (by rw [e]; rfl))
    have H0 := Lib.hid h0
    clear h h0 hx
    go_enter Tryz.func82, Tryz.ntmps82
    go_wp2_with fail
    refine HP.out.mono ?_
    rintro e w1 ⟨rfl, hW⟩
    have HW := Lib.hid hW
    clear hW
    go_wp2_with fail
    go_end0
    refine ⟨rfl, ?_⟩
    rw [retT, if_neg H0.out]
    exact HW.out

theorem sum_le (l : List ByteArray) (k : Nat) (h : ∀ a ∈ l, a.size ≤ k) : (l.map (·.size)).sum ≤ l.length * k := by
  induction l with
  | nil => simp
  | cons a l ih =>
    have := h a (by simp)
    have := ih (fun b hb => h b (by simp [hb]))
    simp only [List.map_cons, List.sum_cons, List.length_cons, Nat.add_mul, Nat.one_mul]
    omega

set_option maxHeartbeats 4000000 in
set_option maxRecDepth 100000 in
theorem call_any (T b : Nat) (F : List Nat) (R : List Row) (D : Nat) (d : Int) (x y z t f : ByteArray) (ag : List ByteArray) (n : Int) (A1 A3 A4 : Option Addr) (c1 l3 c3 l4 c4 : Nat) (ln cl : Int) (A2 : Option Addr) (c2 : Nat) (cal : List ByteArray) (w : World)
    (h : Sh T w b F R D) (hx : x.size ≤ 1000) (ha : ag.length ≤ 1000 ∧ ∀ a ∈ ag, a.size ≤ 1000) (hac : ag.length ≤ c1) (h1 : Sts w A1 ag) (h2 : Sts w A2 cal) (hc2 : cal.length ≤ c2) (hcn : cal.length ≤ 1000) (hcs : (cat cal).size ≤ 1000000) (hR : R.length ≤ 1000000000) :
    Calls Tryz.prog 80 #[.pointer (some ⟨b, 0, none⟩), .agg #[.int .i64 d, .string x, .string y, .string z, .string t, .string f, .slice A1 ag.length c1, .int .i64 n, .slice A3 l3 c3, .slice A4 l4 c4, .int .i64 ln, .int .i64 cl], .slice A2 cal.length c2] w
      fun e w' => e = .returned (.tuple #[]) ∧ Wr T w b F (R ++ [(D, callT x cal ag)]) D w' := by
  obtain ⟨C, hC⟩ : ∃ C : Array Value, #[.int .i64 d, .string x, .string y, .string z, .string t, .string f, .slice A1 ag.length c1, .int .i64 n, .slice A3 l3 c3, .slice A4 l4 c4, .int .i64 ln, .int .i64 cl] = C := ⟨_, rfl⟩
  have tA : Turn [] w (w.alloc (.cells C 38)) := (Turn.refl [] w).alloc _
  have hjs : (jn ag ⟨#[44, 32]⟩).size ≤ 2000000 := by
    have := size_jn_le ag ⟨#[44, 32]⟩ 1000 2 ha.2 (by decide)
    have h3 : ag.length * (1000 + 2) ≤ 1000 * 1002 := Nat.mul_le_mul ha.1 (by omega)
    omega
  have hts : (tgt x).size ≤ 1003 := by
    unfold tgt
    split
    · decide
    · rw [size_bs, bs_append, List.length_append, ← size_bs]
      have : (bs ⟨#[32, 61, 32]⟩).length = 3 := rfl
      omega
  have HJ1 : Hid (∀ W, Sts W A2 cal → Calls Tryz.prog 32 #[.slice A2 cal.length c2, .string ⟨#[]⟩] W fun e w' => e = .returned (.string (cat cal)) ∧ Turn [] W w') := Lib.hid (fun W hW => by
    have := join_any A2 c2 cal ⟨#[]⟩ W hW hc2 (by omega) (by rw [jn_none]; omega)
    rwa [jn_none] at this)
  have HJ2 : Hid (∀ W, Sts W A1 ag → Calls Tryz.prog 32 #[.slice A1 ag.length c1, .string ⟨#[44, 32]⟩] W fun e w' => e = .returned (.string (jn ag ⟨#[44, 32]⟩)) ∧ Turn [] W w') := Lib.hid (fun W hW => join_any A1 c1 ag ⟨#[44, 32]⟩ W hW hac (by omega) (by omega))
  have HP : Hid (∀ W, Sh T W b F R D → Calls Tryz.prog 56 #[.pointer (some ⟨b, 0, none⟩), .slice (some ⟨W.heap.size, 0, none⟩) 5 5] (W.alloc (.cells #[.string (tgt x), .string (cat cal), .string ⟨#[40]⟩, .string (jn ag ⟨#[44, 32]⟩), .string ⟨#[41, 59]⟩] 9)) fun e w' => e = .returned (.tuple #[]) ∧ Wr T W b F (R ++ [(D, callT x cal ag)]) D w') :=
    Lib.hid (fun W hW => put_new T b F R D [tgt x, cat cal, ⟨#[40]⟩, jn ag ⟨#[44, 32]⟩, ⟨#[41, 59]⟩] _ rfl W hW (by simp) (by rw [size_cat]; simp [sz_lit]; omega) hR)
  have HS := Lib.hid h
  have H1 := Lib.hid h1
  have H2 := Lib.hid h2
  have hbl := h.lt.1
  have hbF := Lib.hid h.lt
  have cell6 : (w.alloc (.cells C 38)).cell? ⟨w.heap.size, 6, none⟩ = some (.slice A1 ag.length c1) := by rw [cell_of_row _ _ _ _ _ _ (heap_alloc_new w _), ← hC]; rfl
  rw [← hC] at cell6
  have HX := Lib.hid hC
  clear hC h h1 h2 tA hjs hts hac hc2 hcn hcs ha HX C
  by_cases h0 : x.size = 0
  · obtain rfl := bytes_eq h0
    rw [show tgt ⟨#[]⟩ = ⟨#[]⟩ from rfl] at HP
    clear h0 hx
    go_enter Tryz.func80, Tryz.ntmps80
    go_wp2_with fail
    go_region_held3 (fun w' => w'.cell? ⟨w.heap.size, 6, none⟩ = some (.slice A1 ag.length c1))
      (first | exact k1 | exact k2 | exact k3 | go_keep)
      (first
        | (go_at_call 56; (with_reducible refine (HP.out w2 (by exact HSw2.out)).mono ?_); rintro e w3 ⟨rfl, hW3⟩
           have k3 : w3.cell? ⟨w.heap.size, 6, none⟩ = some (.slice A1 ag.length c1) := by
             obtain ⟨F3, _, _, hT3⟩ := hW3
             exact (hT3.cell (p := ⟨w.heap.size, 6, none⟩) (Nat.lt_of_lt_of_le hsz2 (Nat.le_refl _)) (fun hg => Nat.lt_irrefl _ (hbF.out.2.2 _ hg))).trans k2
           have HW3 := Lib.hid hW3
           clear hW3)
        | (go_at_call 32; (with_reducible refine (HJ1.out _ (by exact H2.out.turn' (((Turn.refl [] w).alloc _).drew))).mono ?_); rintro e w1 ⟨rfl, t1⟩
           have T1 : Turn [] w w1 := (((Turn.refl [] w).alloc _).drew).trans' t1
           have hsz1 : w.heap.size < w1.heap.size := by have := t1.size; simp at this; omega
           have k1 : w1.cell? ⟨w.heap.size, 6, none⟩ = some (.slice A1 ag.length c1) := by
             rw [t1.cell (p := ⟨w.heap.size, 6, none⟩) (by simp) (by simp)]
             exact cell6
           have HT1 := Lib.hid T1
           clear t1 T1)
        | (go_at_call 32; (with_reducible refine (HJ2.out w1 (by exact H1.out.turn' HT1.out)).mono ?_); rintro e w2 ⟨rfl, t2⟩
           have hsz2 : w.heap.size < w2.heap.size := Nat.lt_of_lt_of_le hsz1 t2.size
           have k2 : w2.cell? ⟨w.heap.size, 6, none⟩ = some (.slice A1 ag.length c1) := (t2.cell (p := ⟨w.heap.size, 6, none⟩) hsz1 (by simp)).trans k1
           have HT2 := Lib.hid (HT1.out.trans' t2)
           have HSw2 := Lib.hid (HS.out.turn' HT2.out)
           clear t2))
    go_wp2_with fail
    go_end0
    exact ⟨rfl, Wr.after HT2.out HW3.out⟩
  · have hb := bytes_ne (fun e : x = ⟨#[]⟩ => h0 (by rw [e]; rfl))
    have hadd : x.size + 3 ≤ 9223372036854775807 := by omega
    rw [show tgt x = x ++ ⟨#[32, 61, 32]⟩ by rw [tgt, if_neg h0]] at HP
    clear h0 hx
    go_enter Tryz.func80, Tryz.ntmps80
    go_wp2_with fail
    go_region_held3 (fun w' => w'.cell? ⟨w.heap.size, 6, none⟩ = some (.slice A1 ag.length c1))
      (first | exact k1 | exact k2 | exact k3 | go_keep)
      (first
        | (go_at_call 56; (with_reducible refine (HP.out w2 (by exact HSw2.out)).mono ?_); rintro e w3 ⟨rfl, hW3⟩
           have k3 : w3.cell? ⟨w.heap.size, 6, none⟩ = some (.slice A1 ag.length c1) := by
             obtain ⟨F3, _, _, hT3⟩ := hW3
             exact (hT3.cell (p := ⟨w.heap.size, 6, none⟩) (Nat.lt_of_lt_of_le hsz2 (Nat.le_refl _)) (fun hg => Nat.lt_irrefl _ (hbF.out.2.2 _ hg))).trans k2
           have HW3 := Lib.hid hW3
           clear hW3)
        | (go_at_call 32; (with_reducible refine (HJ1.out _ (by exact H2.out.turn' (((Turn.refl [] w).alloc _).drew))).mono ?_); rintro e w1 ⟨rfl, t1⟩
           have T1 : Turn [] w w1 := (((Turn.refl [] w).alloc _).drew).trans' t1
           have hsz1 : w.heap.size < w1.heap.size := by have := t1.size; simp at this; omega
           have k1 : w1.cell? ⟨w.heap.size, 6, none⟩ = some (.slice A1 ag.length c1) := by
             rw [t1.cell (p := ⟨w.heap.size, 6, none⟩) (by simp) (by simp)]
             exact cell6
           have HT1 := Lib.hid T1
           clear t1 T1)
        | (go_at_call 32; (with_reducible refine (HJ2.out w1 (by exact H1.out.turn' HT1.out)).mono ?_); rintro e w2 ⟨rfl, t2⟩
           have hsz2 : w.heap.size < w2.heap.size := Nat.lt_of_lt_of_le hsz1 t2.size
           have k2 : w2.cell? ⟨w.heap.size, 6, none⟩ = some (.slice A1 ag.length c1) := (t2.cell (p := ⟨w.heap.size, 6, none⟩) hsz1 (by simp)).trans k1
           have HT2 := Lib.hid (HT1.out.trans' t2)
           have HSw2 := Lib.hid (HS.out.turn' HT2.out)
           clear t2))
    go_wp2_with fail
    go_end0
    exact ⟨rfl, Wr.after HT2.out HW3.out⟩
theorem Wr.cell {T : Nat} {w : World} {b : Nat} {F : List Nat} {R : List Row} {D : Nat} {w' : World} (h : Wr T w b F R D w') {g o : Nat} (hg : g < w.heap.size) (hF : g ∉ F) : w'.cell? ⟨g, o, none⟩ = w.cell? ⟨g, o, none⟩ := by
  obtain ⟨_, _, _, ht⟩ := h
  exact ht.cell (p := ⟨g, o, none⟩) hg hF
end Go.Proofs.YtoekaehpcjhhaaaGreatDoor
