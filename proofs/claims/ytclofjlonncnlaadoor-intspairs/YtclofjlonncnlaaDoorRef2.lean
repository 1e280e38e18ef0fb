/- The reference's Put, Of and Minus. -/
import Derived.Test.YtclofjlonncnlaaDoorRef
set_option linter.unusedSimpArgs false
set_option linter.unusedVariables false
namespace Go.Proofs.YtclofjlonncnlaaDoor
open Go.RowKit

theorem okB_lo {x : Int} (h : okB x = true) : 0 ≤ x ∧ x < 1048576 := by simpa [okB] using h
set_option maxHeartbeats 400000 in
theorem put_out (A : Option Addr) (n c : Nat) (l : List Int) (x : Int) (w : World) (h : Ints w A l) (hn : n = l.length) (hl : n ≤ 100000) (hx : okB x = false) :
    Calls Tryd.prog 10 #[.slice A n c, .int .i64 x] w fun e w' => e = .returned (.slice A n c) ∧ w = w' := by
  have HN := Lib.hid hn
  have H := Lib.hid h
  clear hn h
  by_cases h0 : x < 0
  · have hd : decide (x < 0) = true := by simpa using h0
    go_enter Tryd.func10, Tryd.ntmps10
    go_wp2
    go_ret
    exact ⟨rfl, rfl⟩
  · have hd : decide (x < 0) = false := by simpa using h0
    have h1 : decide (1048575 < x) = true := by simp [okB] at hx ⊢; omega
    have HX := Lib.hid hx
    clear hx
    go_enter Tryd.func10, Tryd.ntmps10
    go_wp2
    go_ret
    exact ⟨rfl, rfl⟩

set_option maxHeartbeats 400000 in
theorem put_has (A : Option Addr) (n c : Nat) (l : List Int) (x : Int) (w : World) (h : Ints w A l) (hn : n = l.length) (hl : n ≤ 100000) (hx : okB x = true) (hh : hasB l x = true) :
    Calls Tryd.prog 10 #[.slice A n c, .int .i64 x] w fun e w' => e = .returned (.slice A n c) ∧ w = w' := by
  have HN := Lib.hid hn
  have H := Lib.hid h
  obtain ⟨h0, h1⟩ := okB_lo hx
  have hd : decide (x < 0) = false := by simpa using h0
  have hd1 : decide (1048575 < x) = false := by simp; omega
  have HH := Lib.hid hh
  clear hn h hx hh
  go_enter Tryd.func10, Tryd.ntmps10
  go_wp2_with (go_at_call 14; refine (refHas_any A n c l x _ H.out HN.out (by omega)).mono ?_; rw [HH.out]; rintro e w' ⟨rfl, rfl⟩)
  go_ret
  exact ⟨rfl, rfl⟩

def PutPost (w : World) (l : List Int) (x : Int) (e : Ending) (w' : World) : Prop := ∃ v', e = .returned v' ∧ OwnI w' w.heap.size v' (putL l x) ∧ Turn [] w w'
set_option maxHeartbeats 1000000 in
theorem put_new (A : Option Addr) (n c : Nat) (l : List Int) (x : Int) (w : World) (h : Ints w A l) (hn : n = l.length) (hnc : n ≤ c) (hl : n ≤ 100000) (hx : okB x = true) (hh : hasB l x = false) :
    Calls Tryd.prog 10 #[.slice A n c, .int .i64 x] w (PutPost w l x) := by
  have HN := Lib.hid hn
  have H := Lib.hid h
  obtain ⟨h0, h1⟩ := okB_lo hx
  have hd : decide (x < 0) = false := by simpa using h0
  have hd1 : decide (1048575 < x) = false := by simp; omega
  have HH := Lib.hid hh
  have HX := Lib.hid hx
  clear hn h hx hh
  go_enter Tryd.func10, Tryd.ntmps10
  go_wp2_with (go_at_call 14; refine (refHas_any A n c l x _ H.out HN.out (by omega)).mono ?_; rw [HH.out]; rintro e w' ⟨rfl, rfl⟩)
  go_loopw [5, 6] (fun o i wr => ∃ k : Nat, k ≤ n ∧ i = .int .i64 k ∧ OwnI wr w.heap.size o (l.take k) ∧ (∀ y ∈ l.take k, y < x) ∧ Turn [] w wr) (fun _ i _ => n - (intOf i).toNat)
  case atStart => exact ⟨0, Nat.zero_le _, rfl, by simpa using OwnI.nil w _, by simp, Turn.refl _ _⟩
  case round =>
    obtain ⟨k, hk, rfl, ho, hy, ht⟩ := hrel
    have HO := Lib.hid ho
    have HT := Lib.hid ht
    have HY := Lib.hid hy
    clear ho ht hy
    have hlk : (l.take k).length = k := by have := HN.out; simp; omega
    have HLK := Lib.hid hlk
    clear hlk
    have hsz : w.heap.size ≤ wr.heap.size := HT.out.size
    by_cases hlt : k < n
    · obtain ⟨y, hy⟩ := at_lt (show k < l.length by have := HN.out; omega)
      obtain ⟨b, off, rfl, hb, hcell⟩ := (H.out.below HT.out) k y hy
      have HYk := Lib.hid hy
      clear hy
      by_cases hc : y < x
      · go_wp2_with (at_builtin; (refine wpList_app1 rfl (.tmp 31) (.tmp 36) rfl wr w.heap.size u5 (l.take k) y _ rfl HO.out rfl (by have := HLK.out; omega) hsz ?_); intro v1 w1 hv1 ht1 hat1)
        go_roundw
        case rel => exact ⟨k + 1, by omega, by go_num, by rw [take_snoc HYk.out]; exact hv1, by
          rw [take_snoc HYk.out]
          intro z hz
          rcases List.mem_append.1 hz with hz | hz
          · exact HY.out z hz
          · have : z = y := by simpa using hz
            omega, HT.out.trans ht1 (by
              intro g hg
              exact .inr ((HO.out.lt g (by simpa using hg)).1))⟩
        case measure => simp [intOf]; omega
      · have hck : ¬ c = k := by omega
        go_wp2_with (first
          | (at_builtin; (refine wpList_app1 rfl (.tmp 40) (.tmp 42) rfl wr w.heap.size u5 (l.take k) x _ rfl HO.out rfl (by have := HLK.out; omega) hsz ?_; intro v1 w1 hv1 ht1 hat1)
             have HV1 := Lib.hid hv1
             have HT1 := Lib.hid (HT.out.trans ht1 (fun g hg => .inr ((HO.out.lt g (by simpa using hg)).1)))
             clear hv1 ht1 hat1)
          | (at_builtin; (refine wpList_appAll rfl (.tmp 44) (.tmp 47) rfl w1 w.heap.size v1 (l.take k ++ [x]) (l.drop k) _ _ _ rfl HV1.out rfl ((H.out.below HT1.out).drop k) (by have := HN.out; simp; omega) (by have := HLK.out; simp; omega) (by have := HN.out; simp; omega) HT1.out.size ?_); intro v2 w2 hv2 ht2 hat2))
        go_ret
        refine ⟨v2, rfl, ?_, HT1.out.trans ht2 (fun g hg => .inr ((HV1.out.lt g (by simpa using hg)).1))⟩
        rw [putL_yes (k := k) (by simp [HX.out, HH.out]) (by have := HN.out; omega) HY.out (fun z hz => by
          have := HYk.out.symm.trans hz
          injection this with e
          omega)]
        exact hv2
    · obtain rfl : k = n := by omega
      have hdrop : l.drop k = [] := by have := HN.out; simp; omega
      have HD := Lib.hid hdrop
      clear hdrop
      by_cases hck : c = k
      · go_wp2_with (first
          | (at_builtin; (refine wpList_app1 rfl (.tmp 40) (.tmp 42) rfl wr w.heap.size u5 (l.take k) x _ rfl HO.out rfl (by have := HLK.out; omega) hsz ?_; intro v1 w1 hv1 ht1 hat1)
             have HV1 := Lib.hid hv1
             have HT1 := Lib.hid (HT.out.trans ht1 (fun g hg => .inr ((HO.out.lt g (by simpa using hg)).1)))
             clear hv1 ht1 hat1)
          | (at_builtin; (refine wpList_appAll rfl (.tmp 44) (.tmp 47) rfl w1 w.heap.size v1 (l.take k ++ [x]) [] _ _ _ rfl HV1.out rfl (Ints.nil _ _) (by simp) (by have := HLK.out; simp; omega) (by simp) HT1.out.size ?_); intro v2 w2 hv2 ht2 hat2))
        go_ret
        refine ⟨v2, rfl, ?_, HT1.out.trans ht2 (fun g hg => .inr ((HV1.out.lt g (by simpa using hg)).1))⟩
        rw [putL_yes (k := k) (by simp [HX.out, HH.out]) (by have := HN.out; omega) HY.out (fun z hz => by
          have := (List.getElem?_eq_some_iff.1 hz).1
          have := HN.out
          omega), HD.out]
        exact hv2
      · go_wp2_with (first
          | (at_builtin; (refine wpList_app1 rfl (.tmp 40) (.tmp 42) rfl wr w.heap.size u5 (l.take k) x _ rfl HO.out rfl (by have := HLK.out; omega) hsz ?_; intro v1 w1 hv1 ht1 hat1)
             have HV1 := Lib.hid hv1
             have HT1 := Lib.hid (HT.out.trans ht1 (fun g hg => .inr ((HO.out.lt g (by simpa using hg)).1)))
             clear hv1 ht1 hat1)
          | (at_builtin; (refine wpList_appAll rfl (.tmp 44) (.tmp 47) rfl w1 w.heap.size v1 (l.take k ++ [x]) [] _ _ _ rfl HV1.out rfl (Ints.nil _ _) (by simp) (by have := HLK.out; simp; omega) (by simp) HT1.out.size ?_); intro v2 w2 hv2 ht2 hat2))
        go_ret
        refine ⟨v2, rfl, ?_, HT1.out.trans ht2 (fun g hg => .inr ((HV1.out.lt g (by simpa using hg)).1))⟩
        rw [putL_yes (k := k) (by simp [HX.out, HH.out]) (by have := HN.out; omega) HY.out (fun z hz => by
          have := (List.getElem?_eq_some_iff.1 hz).1
          have := HN.out
          omega), HD.out]
        exact hv2

theorem length_putL_le (l : List Int) (x : Int) : (putL l x).length ≤ l.length + 1 := by
  unfold putL
  split
  · have h := congrArg List.length (List.takeWhile_append_dropWhile (p := (· < x)) (l := l))
    simp only [List.length_append, List.length_cons] at h ⊢
    omega
  · omega
/-- Put, whatever it is given: the list with a number more; memory as it was, but for what is new. -/
theorem put_any (B : Nat) (v : Value) (l : List Int) (x : Int) (w : World) (h : OwnI w B v l) (hB : B ≤ w.heap.size) (hl : l.length ≤ 100000) :
    Calls Tryd.prog 10 #[v, .int .i64 x] w fun e w' => ∃ v', e = .returned v' ∧ OwnI w' B v' (putL l x) ∧ Turn [] w w' := by
  obtain ⟨A, c, rfl, hi, hc⟩ := h.form
  cases hx : okB x
  · refine (put_out A _ c l x w hi rfl hl hx).mono ?_
    rintro e w' ⟨rfl, rfl⟩
    exact ⟨_, rfl, by rw [putL_no (by simp [hx])]; exact h, Turn.refl _ _⟩
  · cases hh : hasB l x
    · refine (put_new A _ c l x w hi rfl hc hl hx hh).mono ?_
      rintro e w' ⟨v', rfl, ho, ht⟩
      exact ⟨v', rfl, ho.mono hB, ht⟩
    · refine (put_has A _ c l x w hi rfl hl hx hh).mono ?_
      rintro e w' ⟨rfl, rfl⟩
      exact ⟨_, rfl, by rw [putL_no (by simp [hx, hh])]; exact h, Turn.refl _ _⟩

def ofL (ns : List Int) : List Int := ns.foldl putL []
theorem ofL_snoc {ns : List Int} {k : Nat} {y : Int} (h : ns[k]? = some y) : ofL (ns.take (k + 1)) = putL (ofL (ns.take k)) y := by
  rw [take_snoc h]; simp [ofL, List.foldl_append]
theorem length_foldl_putL (ns l : List Int) : (ns.foldl putL l).length ≤ l.length + ns.length := by
  induction ns generalizing l with
  | nil => simp
  | cons x t ih =>
    have h1 := ih (putL l x)
    have h2 := length_putL_le l x
    simp only [List.foldl_cons, List.length_cons]
    omega
theorem length_ofL (ns : List Int) : (ofL ns).length ≤ ns.length := by simpa [ofL] using length_foldl_putL ns []
def OwnedPost (w : World) (B : Nat) (l : List Int) (e : Ending) (w' : World) : Prop := ∃ v', e = .returned v' ∧ OwnI w' B v' l ∧ Turn [] w w'
set_option maxHeartbeats 400000 in
theorem refOf_any (A : Option Addr) (n c : Nat) (ns : List Int) (w : World) (h : Ints w A ns) (hn : n = ns.length) (hl : n ≤ 100000) :
    Calls Tryd.prog 18 #[.slice A n c] w (OwnedPost w w.heap.size (ofL ns)) := by
  have HN := Lib.hid hn
  have H := Lib.hid h
  clear hn h
  go_enter Tryd.func18, Tryd.ntmps18
  go_wp2
  go_loopw [3, 4] (fun o i wr => ∃ k : Nat, k ≤ n ∧ i = .int .i64 k ∧ OwnI wr w.heap.size o (ofL (ns.take k)) ∧ Turn [] w wr) (fun _ i _ => n - (intOf i).toNat)
  case atStart => exact ⟨0, Nat.zero_le _, rfl, by simpa [ofL] using OwnI.nil w _, Turn.refl _ _⟩
  case round =>
    obtain ⟨k, hk, rfl, ho, ht⟩ := hrel
    have HO := Lib.hid ho
    have HT := Lib.hid ht
    clear ho ht
    by_cases hlt : k < n
    · obtain ⟨y, hy⟩ := at_lt (show k < ns.length by have := HN.out; omega)
      obtain ⟨b, off, rfl, hb, hcell⟩ := (H.out.below HT.out) k y hy
      have HYk := Lib.hid hy
      clear hy
      have hlen : (ofL (ns.take k)).length ≤ 100000 := by
        have := length_ofL (ns.take k)
        simp at this
        omega
      go_wp2_with (go_at_call 10; refine (put_any w.heap.size u3 (ofL (ns.take k)) y _ HO.out HT.out.size hlen).mono ?_; rintro e w' ⟨v', rfl, ho1, ht1⟩)
      go_roundw
      case rel => exact ⟨k + 1, by omega, by go_num, by rw [ofL_snoc HYk.out]; exact ho1, HT.out.trans' ht1⟩
      case measure => simp [intOf]; omega
    · go_wp2
      go_ret
      refine ⟨u3, rfl, ?_, HT.out⟩
      have := HO.out
      rw [List.take_of_length_le (by have := HN.out; omega)] at this
      exact this

def minusL (a b : List Int) : List Int := a.filter (fun x => !hasB b x)
theorem minusL_snoc {a b : List Int} {k : Nat} {y : Int} (h : a[k]? = some y) : minusL (a.take (k + 1)) b = if hasB b y then minusL (a.take k) b else minusL (a.take k) b ++ [y] := by
  rw [take_snoc h]
  cases hb : hasB b y <;> simp [minusL, List.filter_append, hb]
set_option maxHeartbeats 400000 in
theorem refMinus_any (A A' : Option Addr) (n m c d : Nat) (l t : List Int) (w : World) (h : Ints w A l) (h' : Ints w A' t) (hn : n = l.length) (hm : m = t.length) (hl : n ≤ 100000) (hl' : m ≤ 100000) :
    Calls Tryd.prog 21 #[.slice A n c, .slice A' m d] w (OwnedPost w w.heap.size (minusL l t)) := by
  have HN := Lib.hid hn
  have HM := Lib.hid hm
  have H := Lib.hid h
  have H' := Lib.hid h'
  clear hn h hm h'
  go_enter Tryd.func21, Tryd.ntmps21
  go_wp2
  go_loopw [5, 6] (fun o i wr => ∃ k : Nat, k ≤ n ∧ i = .int .i64 k ∧ OwnI wr w.heap.size o (minusL (l.take k) t) ∧ Turn [] w wr) (fun _ i _ => n - (intOf i).toNat)
  case atStart => exact ⟨0, Nat.zero_le _, rfl, by simpa [minusL] using OwnI.nil w _, Turn.refl _ _⟩
  case round =>
    obtain ⟨k, hk, rfl, ho, ht⟩ := hrel
    have HO := Lib.hid ho
    have HT := Lib.hid ht
    clear ho ht
    have hsz : w.heap.size ≤ wr.heap.size := HT.out.size
    by_cases hlt : k < n
    · obtain ⟨y, hy⟩ := at_lt (show k < l.length by have := HN.out; omega)
      obtain ⟨b, off, rfl, hb, hcell⟩ := (H.out.below HT.out) k y hy
      have HYk := Lib.hid hy
      clear hy
      have hlen : (minusL (l.take k) t).length ≤ 100000 := by
        have := List.length_filter_le (fun x => !hasB t x) (l.take k)
        simp only [List.length_take] at this
        unfold minusL
        omega
      cases hh : hasB t y
      · have HH := Lib.hid hh
        clear hh
        go_wp2_with (first
          | (go_at_call 14; refine (refHas_any A' m d t y _ (H'.out.below HT.out) HM.out (by omega)).mono ?_; rw [HH.out]; rintro e w' ⟨rfl, rfl⟩)
          | (at_builtin; refine wpList_app1 rfl (.tmp 20) (.tmp 25) rfl wr w.heap.size u5 (minusL (l.take k) t) y _ rfl HO.out rfl (by omega) hsz ?_; intro v1 w1 hv1 ht1 hat1))
        go_roundw
        case rel => exact ⟨k + 1, by omega, by go_num, by rw [minusL_snoc HYk.out, HH.out]; exact hv1, HT.out.trans ht1 (fun g hg => .inr ((HO.out.lt g (by simpa using hg)).1))⟩
        case measure => simp [intOf]; omega
      · have HH := Lib.hid hh
        clear hh
        go_wp2_with (first
          | (go_at_call 14; refine (refHas_any A' m d t y _ (H'.out.below HT.out) HM.out (by omega)).mono ?_; rw [HH.out]; rintro e w' ⟨rfl, rfl⟩))
        go_roundw
        case rel => exact ⟨k + 1, by omega, by go_num, by rw [minusL_snoc HYk.out, HH.out]; exact HO.out, HT.out⟩
        case measure => simp [intOf]; omega
    · go_wp2
      go_ret
      refine ⟨u5, rfl, ?_, HT.out⟩
      have := HO.out
      rw [List.take_of_length_le (by have := HN.out; omega)] at this
      exact this
end Go.Proofs.YtclofjlonncnlaaDoor
