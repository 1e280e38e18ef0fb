/- The reference's Join, to, further. -/
import Derived.Test.YtoekaehpcjhhaaaGreatDoorStm
set_option linter.unusedSimpArgs false
set_option linter.unusedVariables false
namespace Go.Proofs.YtoekaehpcjhhaaaGreatDoor
open Go.RowKit

theorem jn_nil (sep : ByteArray) : jn [] sep = ⟨#[]⟩ := rfl
theorem jn_one (x sep : ByteArray) : jn [x] sep = x := by
  apply bs_inj
  rw [bs_jn, List.map_cons, List.map_nil, Lib.join_one]
theorem joinTail_append (sep : List UInt8) (l m : List (List UInt8)) : Lib.joinTail sep (l ++ m) = Lib.joinTail sep l ++ Lib.joinTail sep m := by
  simp [Lib.joinTail]
theorem jn_snoc {l : List ByteArray} (h : l ≠ []) (x sep : ByteArray) : jn (l ++ [x]) sep = jn l sep ++ sep ++ x := by
  apply bs_inj
  cases l with
  | nil => exact absurd rfl h
  | cons a l =>
    rw [bs_append, bs_append, bs_jn, bs_jn, List.map_append, List.map_cons, List.cons_append, Lib.join_cons, Lib.join_cons, joinTail_append]
    simp [Lib.joinTail]
theorem jn_take_le (l : List ByteArray) (k : Nat) (sep : ByteArray) : (jn (l.take k) sep).size ≤ (jn l sep).size := by
  rw [size_bs, size_bs, bs_jn, bs_jn, List.map_take]
  cases l with
  | nil => simp
  | cons a l =>
    cases k with
    | zero => simp [Lib.join_nil]
    | succ k =>
      rw [List.map_cons, List.take_succ_cons, Lib.join_cons, Lib.join_cons]
      conv => rhs; rw [← List.take_append_drop k (l.map bs), joinTail_append]
      simp
theorem jn_succ {l : List ByteArray} {k : Nat} {x : ByteArray} (h : l[k]? = some x) (sep : ByteArray) : jn (l.take (k + 1)) sep = if k = 0 then x else jn (l.take k) sep ++ sep ++ x := by
  rw [take_snoc h]
  by_cases h0 : k = 0
  · rw [if_pos h0]; subst h0; rw [List.take_zero]; exact jn_one x sep
  · rw [if_neg h0]
    refine jn_snoc (fun e => ?_) x sep
    have := (List.getElem?_eq_some_iff.1 h).1
    have h2 : (l.take k).length = 0 := by rw [e]; rfl
    rw [List.length_take] at h2
    omega
theorem size_app (a b : ByteArray) : (a ++ b).size = a.size + b.size := by rw [size_bs, bs_append, List.length_append, ← size_bs, ← size_bs]

theorem ret_s {a b : ByteArray} (h : a = b) : Ending.returned (.string a) = .returned (.string b) := by rw [h]

set_option maxHeartbeats 2000000 in
theorem rjoin_any (A : Option Addr) (c : Nat) (xs : List ByteArray) (sep : ByteArray) (w : World) (h : Sts w A xs) (hn : xs.length ≤ 1000000000) (hl : (jn xs sep).size ≤ 2305843009213693952) :
    Calls Tryz.prog 13 #[.slice A xs.length c, .string sep] w fun e w' => e = .returned (.string (jn xs sep)) ∧ w = w' := by
  have H := Lib.hid h
  obtain ⟨n, hnn⟩ : ∃ n, xs.length = n := ⟨_, rfl⟩
  have HN := Lib.hid hnn
  rw [hnn] at hn ⊢
  clear h hnn
  go_enter Tryz.func13, Tryz.ntmps13
  go_wp2_with fail
  go_loop [5, 6] (fun s i => ∃ (k : Nat) (S : ByteArray), k ≤ n ∧ i = .int .i64 (k : Int) ∧ s = .string S ∧ Hid (S = jn (xs.take k) sep)) (fun _ i => n - (intOf i).toNat)
  case atStart => exact ⟨0, _, Nat.zero_le _, rfl, rfl, Lib.hid rfl⟩
  case round =>
    obtain ⟨k, S, hk, rfl, rfl, HSk⟩ := hrel
    have hS : S.size ≤ 2305843009213693952 := by rw [HSk.out]; exact Nat.le_trans (jn_take_le xs k sep) hl
    by_cases hlt : k < n
    · obtain ⟨x, hx⟩ := at_lt (l := xs) (k := k) (by rw [HN.out]; exact hlt)
      obtain ⟨g, off, rfl, hg, hc⟩ := H.out.at hx
      have hnext := jn_take_le xs (k + 1) sep
      have HX := Lib.hid (jn_succ hx sep)
      by_cases h0 : k = 0
      · have hx1 : x.size ≤ 2305843009213693952 := by rw [HX.out, if_pos h0] at hnext; exact Nat.le_trans hnext hl
        have hS0 : S.size + x.size ≤ 9223372036854775807 := by omega
        have HK0 := Lib.hid h0
        have HS0 : Hid (S ++ x = x) := Lib.hid (by
          rw [HSk.out, h0, List.take_zero, jn_nil]
          apply bs_inj
          rw [bs_append]
          rfl)
        subst h0
        have hc0 : w.cell? ⟨g, off, none⟩ = some (.string x) := hc
        clear hx hnext
        go_wp2_with fail
        go_round
        case rel => exact ⟨1, _, by omega, by go_num, rfl, Lib.hid (by rw [HX.out, if_pos rfl, HS0.out])⟩
        case measure => simp [intOf]; omega
      · have h2 : (S ++ sep).size + x.size ≤ 2305843009213693952 := by
          rw [HX.out, if_neg h0, ← HSk.out, size_app] at hnext
          omega
        have h1 : S.size + sep.size ≤ 2305843009213693952 := by rw [size_app] at h2; omega
        have h1' : S.size + sep.size ≤ 9223372036854775807 := by omega
        have h2' : (S ++ sep).size + x.size ≤ 9223372036854775807 := by omega
        have hk0 : 0 < k := by omega
        have hk0I : (0 : Int) < (k : Int) := by omega
        have H0 := Lib.hid h0
        clear hx hnext h0 h1 h2
        go_wp2_with fail
        go_round
        case rel => exact ⟨k + 1, _, by omega, by go_num, rfl, Lib.hid (by rw [HX.out, if_neg H0.out, ← HSk.out])⟩
        case measure => simp [intOf]; omega
    · go_wp2_with fail
      go_ret
      exact ⟨ret_s (by
        have hkn : k = n := by omega
        rw [HSk.out, hkn, List.take_of_length_le (by rw [HN.out]; exact Nat.le_refl _)]), rfl⟩

theorem to_any (x s : ByteArray) (w : World) (hx : x.size ≤ 1000000) (hs : s.size ≤ 1000000000) :
    Calls Tryz.prog 70 #[.string x, .string s] w fun e w' => e = .returned (.string (tgt x ++ s)) ∧ w = w' := by
  by_cases h0 : x.size = 0
  · obtain rfl := bytes_eq h0
    go_enter Tryz.func70, Tryz.ntmps70
    go_wp2_with fail
    go_ret
    exact ⟨ret_s (by apply bs_inj; rw [bs_append]; rfl), rfl⟩
  · have hb := bytes_ne (fun e : x = ⟨#[]⟩ => h0 (by rw [e]; rfl))
    have h1 : x.size + 3 ≤ 9223372036854775807 := by omega
    have h2 : (x ++ ⟨#[32, 61, 32]⟩).size + s.size ≤ 9223372036854775807 := by rw [size_app, show (⟨#[32, 61, 32]⟩ : ByteArray).size = 3 from rfl]; omega
    have HT : Hid (tgt x = x ++ ⟨#[32, 61, 32]⟩) := Lib.hid (by rw [tgt, if_neg h0])
    clear h0
    go_enter Tryz.func70, Tryz.ntmps70
    go_wp2_with fail
    go_ret
    exact ⟨ret_s (by rw [HT.out]), rfl⟩

/-- The slice v is of the program's own making and holds the texts. -/
def OwnS (w : World) (v : Value) (l : List ByteArray) : Prop := w.ownsRow 0 9 1 v l.length (l.map Value.string)
theorem OwnS.nil (w : World) : OwnS w (.slice none 0 0) [] := World.ownsRow_nil w 0 9 1
/-- It lies in a block from n on. -/
def Nw (n : Nat) (v : Value) : Prop := ∀ g, v.ownBlock = some g → n ≤ g
theorem OwnS.sts {w : World} {A : Option Addr} {m c : Nat} {l : List ByteArray} (h : OwnS w (.slice A m c) l) : m = l.length ∧ l.length ≤ c ∧ Sts w A l := Rws.of_owns h
theorem str_info : (Tryz.prog.info? 9).map (fun i => (i.zero, i.size, i.bytes)) = some (some (.string ⟨#[]⟩), 1, 16) := by kernel_rfl
theorem OwnS.one (w : World) (s : ByteArray) : OwnS (w.alloc (.cells #[.string s] 9)) (.slice (some ⟨w.heap.size, 0, none⟩) 1 1) [s] := World.ownsRow_lit w #[.string s] 1 (Nat.zero_le _) (by simp [maxLen]) rfl
theorem OwnS.turn {w w' : World} {F : List Nat} {v : Value} {l : List ByteArray} (h : OwnS w v l) (t : Turn F w w') (hn : ∀ g, v.ownBlock = some g → g ∉ F) : OwnS w' v l := Turn.owns t h hn
/-- append of texts. -/
theorem wpList_appS {ops : Array Oper} {rest : List Oper} {o : Oper} {a : Act} {Q : Exit → Act → World → Prop} (hgd : o.guard = none) (s x : Operand)
    (ho : o.op = .call { callee := .builtin .append, args := #[s, x], argTypes := #[36, 36] }) (w : World) (v : Value) (l m : List ByteArray) (A : Option Addr) (n c : Nat)
    (hs : a.eval s = v) (hx : a.eval x = .slice A n c) (hown : OwnS w v l) (hm : Sts w A m) (hn : n = m.length) (hl : l.length + m.length ≤ 1000000000)
    (h : ∀ v' w', OwnS w' v' (l ++ m) → Turn v.ownBlock.toList w w' → (∀ k, Nw k v → k ≤ w.heap.size → Nw k v') → wpList Tryz.prog ops Q rest (a.put o.dst v') w') :
    wpList Tryz.prog ops Q (o :: rest) a w := by
  subst hn
  refine wpList_appR hgd s x 36 ho w 9 _ 1 16 Tryz.underlying36 str_info rfl (by omega) v l.length _ hs hown A m.length c _ hx hm ?_ (by simp only [maxLen]; omega) (by omega) ?_
  · intro u hu
    obtain ⟨b, _, rfl⟩ := List.mem_map.1 hu
    rfl
  · intro v' w' h1 h2 h3
    refine h v' w' ?_ h2 (fun k hk hkw => ?_)
    · unfold OwnS
      rw [List.length_append, List.map_append]
      exact h1
    · intro g hg
      rcases h3 with h3 | h3
      · rw [h3] at hg; exact hk g hg
      · rw [h3] at hg; injection hg with hg; omega
end Go.Proofs.YtoekaehpcjhhaaaGreatDoor
