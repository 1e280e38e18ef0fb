/- What measures: one octet and all that may stand behind it. -/
import Derived.Test.YthdoihemjndmlaaDoorOc
set_option linter.unusedSimpArgs false
set_option linter.unusedVariables false
namespace Go.Proofs.YthdoihemjndmlaaDoor
open Go.RowKit

theorem bytes_eq {a b : ByteArray} (h : a.toList = b.toList) : a = b := by
  rw [ByteArray.toList_eq, ByteArray.toList_eq] at h
  exact ByteArray.ext (by simpa using h)
theorem bytes_t {a b : ByteArray} (h : a = b) : (a.toList == b.toList) = true := by simp [h]
theorem bytes_f {a b : ByteArray} (h : a ≠ b) : (a.toList == b.toList) = false := by
  simpa using fun e => h (bytes_eq e)

theorem bytes_ne {a : ByteArray} (h : a ≠ ⟨#[]⟩) : a.toList.isEmpty = false := by
  have := bytes_f h
  simpa using this

theorem Oct.but {w : World} {b : Nat} {G : List Nat} {v : Value} {p : UInt8 → Bool} (hb : b < w.heap.size) (hc : w.cell? ⟨b, 0, none⟩ = some v) (hv : Oct w G v p) :
    Oct w (b :: G) (.func (.func 39) #[] #[.pointer (some ⟨b, 0, none⟩)]) (fun c => !p c) := by
  refine ⟨?_, 39, [.pointer (some ⟨b, 0, none⟩)], rfl, enters_of Tryd.func39 (by kernel_rfl) rfl, fun w' h c => ?_⟩
  · intro g hg
    rcases List.mem_cons.1 hg with rfl | hg
    · exact hb
    · exact hv.1 g hg
  · refine but_any b G v p c w' ?_ ?_
    · rw [World.cell?_of_block (h b (by simp))]
      exact hc
    · obtain ⟨hG, k, caps, rfl, hen, hk⟩ := hv
      have hG' : ∀ g ∈ G, w'.heap[g]? = w.heap[g]? := fun g hg => h g (List.mem_cons_of_mem _ hg)
      refine ⟨fun g hg => ?_, k, caps, rfl, hen, fun w2 h2 c => hk w2 (fun g hg => (h2 g hg).trans (hG' g hg)) c⟩
      have := hG' g hg
      have hl := hG g hg
      rw [Array.getElem?_eq_getElem hl] at this
      exact (Array.getElem?_eq_some_iff.1 this).1

theorem Oct.alike {w w' : World} {G : List Nat} {v : Value} {p : UInt8 → Bool} (hv : Oct w G v p) (h : ∀ g ∈ G, w'.heap[g]? = w.heap[g]?) : Oct w' G v p := by
  obtain ⟨hG, k, caps, rfl, hen, hk⟩ := hv
  refine ⟨fun g hg => ?_, k, caps, rfl, hen, fun w2 h2 c => hk w2 (fun g hg => (h2 g hg).trans (h g hg)) c⟩
  have := h g hg
  have hl := hG g hg
  rw [Array.getElem?_eq_getElem hl] at this
  exact (Array.getElem?_eq_some_iff.1 this).1
theorem Oct.turn {w w' : World} {F G : List Nat} {v : Value} {p : UInt8 → Bool} (hv : Oct w G v p) (t : Turn F w w') (hn : ∀ g ∈ G, g ∉ F) : Oct w' G v p :=
  hv.alike fun g hg => t.block g (hv.1 g hg) (hn g hg)

/-- The value v is a function that measures texts by f; it reads the blocks G alone. -/
def Msr (w : World) (G : List Nat) (v : Value) (f : List UInt8 → Nat) : Prop :=
  (∀ g ∈ G, g < w.heap.size) ∧ ∃ (k : Nat) (caps : List Value), v = .func (.func k) #[] caps.toArray ∧ (∀ (args : Array Value) (W : World), (callFunc k args).run Tryd.prog W = .ok (.enter k args) W) ∧
    ∀ w' : World, (∀ g ∈ G, w'.heap[g]? = w.heap[g]?) → ∀ s : ByteArray, s.size ≤ 1000000 →
      Calls Tryd.prog k (Value.string s :: caps).toArray w' fun e w'' => e = .returned (.int .i64 (f s.data.toList : Int)) ∧ ∃ m, w'' = w'.drewN m
theorem Msr.alike {w w' : World} {G : List Nat} {v : Value} {f : List UInt8 → Nat} (hv : Msr w G v f) (h : ∀ g ∈ G, w'.heap[g]? = w.heap[g]?) : Msr w' G v f := by
  obtain ⟨hG, k, caps, rfl, hen, hk⟩ := hv
  refine ⟨fun g hg => ?_, k, caps, rfl, hen, fun w2 h2 c => hk w2 (fun g hg => (h2 g hg).trans (h g hg)) c⟩
  have := h g hg
  have hl := hG g hg
  rw [Array.getElem?_eq_getElem hl] at this
  exact (Array.getElem?_eq_some_iff.1 this).1
theorem Msr.turn {w w' : World} {F G : List Nat} {v : Value} {f : List UInt8 → Nat} (hv : Msr w G v f) (t : Turn F w w') (hn : ∀ g ∈ G, g ∉ F) : Msr w' G v f :=
  hv.alike fun g hg => t.block g (hv.1 g hg) (hn g hg)

def runN (p q : UInt8 → Bool) : List UInt8 → Nat
  | [] => 0
  | c :: r => if p c then 1 + (r.takeWhile q).length else 0

theorem takeWhile_len (q : UInt8 → Bool) : ∀ (r : List UInt8) (j : Nat), (∀ i y, i < j → r[i]? = some y → q y = true) → j ≤ r.length → (∀ y, r[j]? = some y → q y = false) → (r.takeWhile q).length = j := by
  intro r
  induction r with
  | nil => intro j _ h _; simp at h; simp [h]
  | cons y r ih =>
    intro j h1 h2 h3
    cases j with
    | zero => simp [h3 y rfl]
    | succ j =>
      have := h1 0 y (by omega) rfl
      simp [this]
      exact ih j (fun i z hi hz => h1 (i + 1) z (by omega) (by simpa using hz)) (by simpa using h2) (fun z hz => h3 z (by simpa using hz))

theorem data_get {s : ByteArray} {k : Nat} (h : k < s.size) : s.data.toList[k]? = some (s[k]'h) := by
  rw [Array.getElem?_toList, Array.getElem?_eq_getElem (by simpa using h)]
  rfl

set_option maxHeartbeats 1600000 in
theorem run_any (b1 b2 : Nat) (G1 G2 : List Nat) (v1 v2 : Value) (p q : UInt8 → Bool) (s : ByteArray) (w : World) (c1 : w.cell? ⟨b1, 0, none⟩ = some v1) (c2 : w.cell? ⟨b2, 0, none⟩ = some v2)
    (h1 : Oct w G1 v1 p) (h2 : Oct w G2 v2 q) (hs : s.size ≤ 1000000) :
    Calls Tryd.prog 36 #[.string s, .pointer (some ⟨b1, 0, none⟩), .pointer (some ⟨b2, 0, none⟩)] w fun e w' => e = .returned (.int .i64 (runN p q s.data.toList : Int)) ∧ ∃ m, w' = w.drewN m := by
  obtain ⟨hG1, k1, caps1, rfl, hen1, hk1⟩ := h1
  obtain ⟨hG2, k2, caps2, rfl, hen2, hk2⟩ := h2
  have HK1 := Lib.hid hk1
  have HK2 := Lib.hid hk2
  clear hk1 hk2 hG1 hG2
  by_cases h0 : s = ⟨#[]⟩
  · subst h0
    go_enter Tryd.func36, Tryd.ntmps36
    go_wp2_with fail
    go_quiet (fail)
    go_wp2_with fail
    go_ret
    exact ⟨rfl, _, rfl⟩
  · have e0 := bytes_ne h0
    have hpos : 0 < s.size := by
      rcases Nat.eq_zero_or_pos s.size with h | h
      · exact absurd (ByteArray.ext (Array.eq_empty_of_size_eq_zero h)) h0
      · exact h
    have hi0 : (0 : Int) < (s.size : Int) := by omega
    clear h0
    go_enter Tryd.func36, Tryd.ntmps36
    go_wp2_with fail
    go_quiet (refine Calls.quiet_of (HK1.out (w.drewN _) (fun _ _ => rfl) s[0]))
    have ET : s.data.toList = s[0] :: s.data.toList.drop 1 := by
      have := data_get hpos
      cases hd : s.data.toList with
      | nil => rw [hd] at this; simp at this
      | cons a r => rw [hd] at this; simp at this; simp [this]
    have HET := Lib.hid ET
    clear ET
    cases hp : p s[0] with
    | false =>
      go_wp2_with fail
      go_ret
      refine ⟨ret_int ?_, _, rfl⟩
      rw [HET.out]
      simp [runN, hp]
    | true =>
      go_wp2_with fail
      have hw0 : ∃ m, w.drewN nq = w.drewN m := ⟨_, rfl⟩
      go_loopw [5] (fun ti wr => ∃ k : Nat, 1 ≤ k ∧ k ≤ s.size ∧ ti = .int .i64 (k : Int) ∧ Hid (∀ i y, i + 1 < k → s.data.toList[i + 1]? = some y → q y = true) ∧ wr.cell? ⟨b2, 0, none⟩ = some (.func (.func k2) #[] caps2.toArray) ∧ Hid (∃ m, wr = w.drewN m)) (fun ti _ => s.size - (intOf ti).toNat)
      case atStart => exact ⟨1, Nat.le_refl _, hpos, rfl, Lib.hid (fun i y hi => by omega), c2, Lib.hid hw0⟩
      case round =>
        obtain ⟨k, hk1, hks, rfl, HA, c2r, HW⟩ := hrel
        by_cases hlt : k < s.size
        · have hi1 : (k : Int) < (s.size : Int) := by omega
          have hi2 : 0 ≤ (k : Int) := by omega
          have hdt : decide ((k : Int) < (s.size : Int)) = true := by simpa using hi1
          go_wp2_with fail
          go_quiet (refine Calls.quiet_of (HK2.out (wr.drewN _) (fun g _ => by obtain ⟨m, e⟩ := HW.out; rw [e]; rfl) s[k]))
          have hdg := data_get hlt
          have HD := Lib.hid hdg
          clear hdg
          cases hq : q s[k] with
          | false =>
            go_wp2_with fail
            go_ret
            obtain ⟨m, e⟩ := HW.out
            subst e
            refine ⟨ret_int ?_, _, World.drewN_drewN _ _ _⟩
            rw [HET.out]
            simp only [runN, hp, if_true]
            rw [takeWhile_len q (s.data.toList.drop 1) (k - 1)]
            · omega
            · intro i y hi hy
              rw [List.getElem?_drop] at hy
              exact HA.out i y (by omega) (by rw [← hy]; congr 1; omega)
            · rw [List.length_drop, ← Lib.size_eq]
              omega
            · intro y hy
              rw [List.getElem?_drop, show 1 + (k - 1) = k by omega, HD.out] at hy
              cases hy
              exact hq
          | true =>
            go_wp2_with fail
            obtain ⟨m, e⟩ := HW.out
            subst e
            go_roundw
            · refine ⟨k + 1, by omega, by omega, by simp, Lib.hid ?_, c2, Lib.hid ⟨_, World.drewN_drewN _ _ _⟩⟩
              intro i y hi hy
              by_cases hik : i + 1 = k
              · rw [hik, HD.out] at hy
                cases hy
                exact hq
              · exact HA.out i y (by omega) hy
            · simp [intOf]
              omega
        · have hdf : decide ((k : Int) < (s.size : Int)) = false := by simp; omega
          obtain rfl : k = s.size := by omega
          go_wp2_with fail
          go_quiet (fail)
          go_wp2_with fail
          go_ret
          obtain ⟨m, e⟩ := HW.out
          subst e
          refine ⟨ret_int ?_, _, World.drewN_drewN _ _ _⟩
          rw [HET.out]
          simp only [runN, hp, if_true]
          rw [takeWhile_len q (s.data.toList.drop 1) (s.size - 1)]
          · omega
          · intro i y hi hy
            rw [List.getElem?_drop] at hy
            exact HA.out i y (by omega) (by rw [← hy]; congr 1; omega)
          · rw [List.length_drop, ← Lib.size_eq]
            omega
          · intro y hy
            rw [List.getElem?_drop, show 1 + (s.size - 1) = s.size by omega, Lib.size_eq, List.getElem?_eq_none (Nat.le_refl _)] at hy
            cases hy
end Go.Proofs.YthdoihemjndmlaaDoor
