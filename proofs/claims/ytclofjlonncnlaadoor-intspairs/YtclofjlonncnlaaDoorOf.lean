/- Sets: Add of whatever number; Of. -/
import Derived.Test.YtclofjlonncnlaaDoorTh2
set_option linter.unusedSimpArgs false
set_option linter.unusedVariables false
namespace Go.Proofs.YtclofjlonncnlaaDoor
open Go.RowKit

/-- A new slice lies where the old one lay, or in new memory. -/
def Moved (w : World) (v v' : Value) : Prop := v'.ownBlock = v.ownBlock ∨ ∃ g, v'.ownBlock = some g ∧ w.heap.size ≤ g
theorem Moved.refl (w : World) (v : Value) : Moved w v v := .inl rfl
def AddsPost (b : Nat) (v : Value) (rs : List Row) (n : Int) (w : World) (e : Ending) (w' : World) : Prop :=
  e = .returned (.bool (okB n && !hasB (nums rs) n)) ∧ ∃ v' rs', SetAt w' b v' rs' ∧ nums rs' = putL (nums rs) n ∧ Turn (b :: v.ownBlock.toList) w w' ∧ Moved w v v'
theorem total_put {rs ss : List Row} {n : Nat} (h : Ok rs) (p : Put rs ss n) (hn : n < 1048576) (hh : hasN rs n = false) : total ss = total rs + 1 := by
  have h1 := congrArg List.length (p.nums h hn)
  rw [length_putL, hasB_nums h hn, hh, nums_length, nums_length] at h1
  have : okB n = true := by simp [okB]; omega
  simpa [this] using h1
theorem split_row {rs : List Row} {k : Nat} {r : Row} (h : rs[k]? = some r) : rs = rs.take k ++ r :: rs.drop (k + 1) := by
  obtain ⟨hk, rfl⟩ := List.getElem?_eq_some_iff.1 h
  rw [List.getElem_cons_drop, List.take_append_drop]
theorem set_row {rs : List Row} {k : Nat} {r s : Row} (h : rs[k]? = some r) : rs.set k s = rs.take k ++ s :: rs.drop (k + 1) := by
  obtain ⟨hk, _⟩ := List.getElem?_eq_some_iff.1 h
  exact List.set_eq_take_append_cons_drop.trans (by rw [if_pos hk])
theorem insR_set (rs : List Row) (k : Nat) (r s : Row) (h : k ≤ rs.length) : (insR rs k r).set k s = insR rs k s := by
  unfold insR
  rw [List.set_append_right _ _ (by rw [List.length_take]; omega), List.length_take, Nat.min_eq_left h, Nat.sub_self]
  rfl
theorem cut_sides {rs : List Row} {t k : Nat} (hc : Cut rs t k) (ha : Asc rs) (hm : hasRow rs t = false) : (∀ r ∈ rs.take k, r.at_ < t) ∧ (∀ r ∈ rs.drop k, t < r.at_) := by
  have hno : ∀ r ∈ rs, r.at_ ≠ t := no_row hc ha ((hit_eq hc ha).trans hm)
  constructor
  · intro r hr
    obtain ⟨i, hi⟩ := List.getElem?_of_mem hr
    rw [List.getElem?_take] at hi
    split at hi
    · exact hc.lo i r (by assumption) hi
    · cases hi
  · intro r hr
    obtain ⟨i, hi⟩ := List.getElem?_of_mem hr
    rw [List.getElem?_drop] at hi
    have h1 := hc.hi (k + i) r (by omega) hi
    have h2 := hno r (List.mem_of_getElem? hi)
    omega
theorem bit_known (n : Nat) (hn : n < 1048576) : BitAt n (n % 256 / 64) (2 ^ (n % 64)) := fun W => bitOf_walk n W hn
theorem add_any (b : Nat) (v : Value) (rs : List Row) (n : Int) (w : World) (h : SetAt w b v rs) : Calls Tryd.prog 11 #[.pointer (some ⟨b, 0, none⟩), .int .i64 n] w (AddsPost b v rs n w) := by
  cases hok : okB n
  · refine (add_out b n w hok).mono ?_
    rintro e w' ⟨rfl, rfl⟩
    exact ⟨by rw [hok]; rfl, v, rs, h, by rw [putL_no (by simp [hok])], Turn.refl _ _, Moved.refl _ _⟩
  · obtain ⟨h0, h1⟩ := okB_lo hok
    obtain ⟨m, rfl⟩ := Int.eq_ofNat_of_zero_le h0
    have hm : m < 1048576 := by omega
    have hb := hasB_nums h.ok hm
    cases hh : hasN rs m
    · have hret : (okB (m : Int) && !hasB (nums rs) m) = true := by rw [hok, hb, hh]; rfl
      obtain ⟨A, c, hv, _, _⟩ := h.rows.form
      cases hr : hasRow rs (m / 256)
      · subst hv
        refine (add_new b A rs.length c rs m _ _ w h hm hh rfl hr (by omega) (pow_lt64 m) (bit_known m hm)).mono ?_
        rintro e w' ⟨rfl, k, v', hk, hblk, hown, ht, hmv⟩
        obtain ⟨hA, hC⟩ := cut_sides hk h.ok.asc hr
        have hp : Put rs (insR rs k ((newRow (m / 256)).put m)) m := by
          have hok' := h.ok
          rw [← List.take_append_drop k rs] at hok'
          have := put_ins hok' hm hA hC
          rwa [List.take_append_drop] at this
        have hrows : (insR rs k (newRow (m / 256))).set k ((newRow (m / 256)).setWord (m % 256 / 64) (2 ^ (m % 64))) = insR rs k ((newRow (m / 256)).put m) := by
          rw [insR_set _ _ _ _ hk.le]
          unfold Row.put
          rw [newRow_word, Nat.zero_or]
        rw [hrows] at hown
        have htot := total_put h.ok hp hm hh
        refine ⟨by rw [hret], v', _, ⟨?_, hown, hp.ok⟩, hp.nums h.ok hm, ht, hmv⟩
        rw [htot]
        exact hblk
      · have hg : ∃ g, v = .slice (some ⟨g, 0, none⟩) rs.length c := by
          rcases h.rows.2 with ⟨_, h0⟩ | ⟨g, cap, cur, e, _⟩
          · rw [List.eq_nil_of_length_eq_zero h0] at hr
            simp [hasRow] at hr
          · rw [e] at hv
            injection hv with e1 e2 e3
            exact ⟨g, by rw [e, e3]⟩
        obtain ⟨g, rfl⟩ := hg
        refine (add_found b g rs.length c rs m _ _ w h hm hh rfl hr (by omega) (pow_lt64 m) (bit_known m hm)).mono ?_
        rintro e w' ⟨rfl, k, r, v', hk, hrk, hra, hblk, hown, ht, rfl⟩
        have hp : Put rs (rs.set k (r.put m)) m := by
          have hok' := h.ok
          rw [split_row hrk] at hok'
          have := put_set hok' hra
          rw [← split_row hrk] at this
          rwa [set_row hrk]
        have htot := total_put h.ok hp hm hh
        refine ⟨by rw [hret], _, rs.set k (r.put m), ⟨?_, hown, hp.ok⟩, hp.nums h.ok hm, ht, Moved.refl _ _⟩
        rw [htot]
        exact hblk
    · refine (add_has b v rs m w h hm hh).mono ?_
      rintro e w' ⟨rfl, ht⟩
      exact ⟨by rw [hok, hb, hh]; rfl, v, rs, h.turn' ht, by rw [putL_no (by rw [hb, hh]; simp)], ht.more (by simp), Moved.refl _ _⟩

/-- A new set: its block, its slice and its rows are new. -/
def NewSet (w : World) (l : List Int) (e : Ending) (w' : World) : Prop :=
  ∃ b v rs, e = .returned (.pointer (some ⟨b, 0, none⟩)) ∧ SetAt w' b v rs ∧ nums rs = l ∧ w.heap.size ≤ b ∧ (∀ g, v.ownBlock = some g → w.heap.size ≤ g) ∧ Turn [] w w'
set_option maxHeartbeats 1000000 in
theorem of_any (A : Option Addr) (n c : Nat) (ns : List Int) (w : World) (h : Ints w A ns) (hn : n = ns.length) (hl : n ≤ 100000) :
    Calls Tryd.prog 9 #[.slice A n c] w (NewSet w (ofL ns)) := by
  have HN := Lib.hid hn
  have H := Lib.hid h
  clear hn h
  go_enter Tryd.func9, Tryd.ntmps9
  go_wp2
  go_loopw [10] (fun i wr => ∃ (k : Nat) (v : Value) (rs : List Row), k ≤ n ∧ i = .int .i64 k ∧ SetAt wr w.heap.size v rs ∧ nums rs = ofL (ns.take k) ∧ (∀ g, v.ownBlock = some g → w.heap.size ≤ g) ∧ Turn [] w wr) (fun i _ => n - (intOf i).toNat)
  case atStart => exact ⟨0, .slice none 0 0, [], Nat.zero_le _, rfl, ⟨heap_alloc_new w _, World.ownsRow_nil _ _ _ _, Ok.nil⟩, by simp [nums, ofL], by simp [Value.ownBlock], (Turn.refl _ _).alloc _⟩
  case round =>
    obtain ⟨k, v, rs, hk, rfl, hs, hnu, hv, ht⟩ := hrel
    have HS := Lib.hid hs
    have HNu := Lib.hid hnu
    have HV := Lib.hid hv
    have HT := Lib.hid ht
    clear hs hnu hv ht
    by_cases hlt : k < n
    · obtain ⟨y, hy⟩ := at_lt (show k < ns.length by have := HN.out; omega)
      obtain ⟨b, off, rfl, hb, hcell⟩ := (H.out.below HT.out) k y hy
      have HYk := Lib.hid hy
      clear hy
      go_wp2_with (go_at_call 11; refine (add_any w.heap.size v rs y _ HS.out).mono ?_; rintro e w' ⟨rfl, v', rs', hs', hnu', ht', hm'⟩; have HS' := Lib.hid hs'; have HNu' := Lib.hid hnu'; have HT' := Lib.hid ht'; have HM' := Lib.hid hm'; clear hs' hnu' ht' hm')
      go_roundw
      case rel =>
        refine ⟨k + 1, v', rs', by omega, by go_num, HS'.out, ?_, ?_, ?_⟩
        · rw [HNu'.out, HNu.out, ofL_snoc HYk.out]
        · intro g hg
          rcases HM'.out with e | ⟨g', e, hge⟩
          · exact HV.out g (by rw [← e]; exact hg)
          · rw [e] at hg
            injection hg with hg
            subst hg
            exact Nat.le_trans HT.out.size hge
        · refine HT.out.trans HT'.out (fun g hg => ?_)
          rcases List.mem_cons.1 hg with e | e
          · exact .inr (by omega)
          · exact .inr (HV.out g (by simpa using e))
      case measure => simp [intOf]; omega
    · go_wp2
      go_ret
      refine ⟨w.heap.size, v, rs, rfl, HS.out, ?_, Nat.le_refl _, HV.out, HT.out⟩
      rw [HNu.out, List.take_of_length_le (by have := HN.out; omega)]
end Go.Proofs.YtclofjlonncnlaaDoor
