import Derived.Test.YtnmhcgkccchacaaGreatDoorQ29Nsp
import Derived.Test.YtnmhcgkccchacaaGreatDoorQ31R6e
import Derived.Test.YtnmhcgkccchacaaGreatDoorQ09Whp
import Derived.Test.YtnmhcgkccchacaaGreatDoorQ14Pas

/- The reference's Line of a choice in a choice ..: it isn't without octets. -/
set_option linter.unusedSimpArgs false
set_option linter.unusedVariables false
set_option maxRecDepth 100000
namespace Go.Proofs.YtnmhcgkccchacaaGreatDoor
open Go.RowKit

mutual
/-- A statement that reads as data, in the words of the reference's texts. -/
theorem rd6 {A : Nat → Prop} {w : World} : ∀ {cs : List Value} {s : St}, RdS A w cs s → R6.RdS w.heap.size w cs s
  | cs, .mk d x y z t f ag n bd ot ln cl, h => by
    unfold RdS at h
    obtain ⟨V1, P2, c2, b2, P3, c3, b3, e, h1, k2, k3, m2, m3, h2, h3⟩ := h
    obtain ⟨P, c, rfl, hc, hh⟩ := h1
    unfold R6.RdS
    refine ⟨P, c, P2, c2, P3, c3, e, hc, k2, k3, ⟨by simp, ?_⟩, ?_, ?_, ?_⟩
    · rcases hh with rfl | ⟨b, rfl, _, hb, hx⟩
      · exact .inl rfl
      · refine .inr ⟨b, 0, rfl, hb, fun j u hu => ?_⟩
        rw [List.getElem?_map] at hu
        cases hj : ag[j]? with
        | none => rw [hj] at hu; cases hu
        | some q =>
          rw [hj] at hu
          injection hu with hu
          subst hu
          obtain ⟨cs, h1, h2⟩ := hx j q hj
          unfold RdT at h2
          subst h2
          have := h1 0 _ rfl
          rw [show 0 + j = j * 1 + 0 by omega]
          exact this
    · intro b off e' hpos
      rcases hh with rfl | ⟨b', rfl, _, hb, hx⟩
      · simp at hpos
      · injection e' with e'
        injection e' with e1 e2
        omega
    · rcases m2 with rfl | ⟨rfl, _, hb⟩
      · unfold R6.RdL; trivial
      · exact rl6 bd hb h2
    · rcases m3 with rfl | ⟨rfl, _, hb⟩
      · unfold R6.RdL; trivial
      · exact rl6 ot hb h3
theorem rl6 {A : Nat → Prop} {w : World} {b k : Nat} : ∀ (l : List St), b < w.heap.size → RdL A w b k l → R6.RdL w.heap.size w (some ⟨b, 0, none⟩) k l
  | [], _, _ => by unfold R6.RdL; trivial
  | s :: l, hb, h => by
    unfold RdL at h
    unfold R6.RdL
    obtain ⟨⟨cs, h1, h2⟩, h3⟩ := h
    exact ⟨⟨b, 0, cs, rfl, hb, hb, (fun j v hv => by rw [Nat.zero_add]; exact h1 j v hv), rd6 h2⟩, rl6 l hb h3⟩
end

theorem bytes_of {x : ByteArray} {l : List UInt8} (h : x.data.toList = l) : x = ⟨l.toArray⟩ := by
  apply ByteArray.ext
  rw [← h]

namespace R6
def aT : ByteArray := ifT ⟨#[97]⟩ ⟨#[98]⟩
def bT : ByteArray := cat [⟨#[120]⟩, ⟨#[32, 61, 32]⟩, ⟨#[121]⟩, ⟨#[59]⟩]
theorem ch_zero {d : Int} {x y z t f : ByteArray} {ag : List ByteArray} {n : Int} {bd ot : List St} {ln cl : Int} (h : chB 0 (.mk d x y z t f ag n bd ot ln cl) = true) :
    d = 3 ∧ x = ⟨#[120]⟩ ∧ y = ⟨#[121]⟩ ∧ z = ⟨#[]⟩ ∧ t = ⟨#[]⟩ ∧ f = ⟨#[]⟩ ∧ ag = [] ∧ n = 0 ∧ bd = [] ∧ ot = [] := by
  simp only [chB, Bool.and_eq_true, decide_eq_true_eq, List.isEmpty_iff] at h
  obtain ⟨⟨⟨⟨⟨⟨⟨⟨⟨h0, h1⟩, h2⟩, h3⟩, h4⟩, h5⟩, h6⟩, h7⟩, h8⟩, h9⟩ := h
  exact ⟨h0, bytes_of h1, bytes_of h2, bytes_of h3, bytes_of h4, bytes_of h5, h6, h7, h8, h9⟩
theorem ch_succ {k : Nat} {d : Int} {x y z t f : ByteArray} {ag : List ByteArray} {n : Int} {bd ot : List St} {ln cl : Int} (h : chB (k + 1) (.mk d x y z t f ag n bd ot ln cl) = true) :
    d = 20 ∧ x = ⟨#[]⟩ ∧ y = ⟨#[97]⟩ ∧ z = ⟨#[98]⟩ ∧ t = ⟨#[]⟩ ∧ f = ⟨#[]⟩ ∧ ag = [] ∧ n = 0 ∧ ot = [] ∧ ∃ s, bd = [s] ∧ chB k s = true := by
  simp only [chB, Bool.and_eq_true, decide_eq_true_eq, List.isEmpty_iff] at h
  obtain ⟨⟨⟨⟨⟨⟨⟨⟨⟨h0, h1⟩, h2⟩, h3⟩, h4⟩, h5⟩, h6⟩, h7⟩, h8⟩, h9⟩ := h
  refine ⟨h0, bytes_of h1, bytes_of h2, bytes_of h3, bytes_of h4, bytes_of h5, h6, h7, h8, ?_⟩
  rcases bd with _ | ⟨s, _ | ⟨s2, bd⟩⟩
  · cases h9
  · exact ⟨s, rfl, h9⟩
  · cases h9
theorem ch_rows : ∀ (k D : Nat) (s : St), chB k s = true → FtS s ∧ (rw1 D s).length = 2 * k + 1 ∧ (∃ r l, rw1 D s = r :: l) ∧ ∀ r ∈ rw1 D s, (r.2 = aT ∨ r.2 = bT ∨ r.2 = shutT) ∧ r.1 ≤ D + k
  | 0, D, .mk d x y z t f ag n bd ot ln cl, h => by
    obtain ⟨rfl, rfl, rfl, rfl, rfl, rfl, rfl, rfl, rfl, rfl⟩ := ch_zero h
    have e : rw1 D (.mk 3 ⟨#[120]⟩ ⟨#[121]⟩ ⟨#[]⟩ ⟨#[]⟩ ⟨#[]⟩ [] 0 [] [] ln cl) = [(D, bT)] := by
      rw [rw1_plain (by decide) (by decide) (by decide)]
      rfl
    rw [e]
    refine ⟨?_, rfl, ⟨_, _, rfl⟩, ?_⟩
    · rw [FtS, FtL]
      exact ⟨by decide, by decide, by simp, trivial, trivial⟩
    · intro r hr
      simp at hr
      subst hr
      exact ⟨.inr (.inl rfl), by simp⟩
  | k + 1, D, .mk d x y z t f ag n bd ot ln cl, h => by
    obtain ⟨rfl, rfl, rfl, rfl, rfl, rfl, rfl, rfl, rfl, s, rfl, hs⟩ := ch_succ h
    obtain ⟨i1, i2, ⟨r0, l0, i3⟩, i4⟩ := ch_rows k (D + 1) s hs
    have e : rw1 D (.mk 20 ⟨#[]⟩ ⟨#[97]⟩ ⟨#[98]⟩ ⟨#[]⟩ ⟨#[]⟩ [] 0 [s] [] ln cl) = [(D, aT)] ++ (rw1 (D + 1) s ++ []) ++ [(D, shutT)] := by
      rw [rw1_if, rwL_cons, rwL_nil]
      simp [aT]
    rw [e]
    refine ⟨?_, ?_, ⟨(D, aT), rw1 (D + 1) s ++ [(D, shutT)], by simp⟩, ?_⟩
    · rw [FtS, FtL, FtL]
      exact ⟨by decide, by decide, by simp, ⟨i1, trivial⟩, trivial⟩
    · simp [i2]
      omega
    · intro r hr
      simp at hr
      rcases hr with rfl | hr | rfl
      · exact ⟨.inl rfl, by simp⟩
      · have := i4 r hr
        exact ⟨this.1, by omega⟩
      · exact ⟨.inr (.inr rfl), by simp⟩
theorem ch_said : ∀ (k : Nat) (s : St), k ≤ 100 → chB k s = true → RSaidS s
  | 0, .mk d x y z t f ag n bd ot ln cl, hk, h => by
    have hf := (ch_rows 0 0 _ h).1
    obtain ⟨rfl, rfl, rfl, rfl, rfl, rfl, rfl, rfl, rfl, rfl⟩ := ch_zero h
    refine lines_of _ hf ?_
    intro d x y z t f ag n bd ot ln cl e
    injection e with _ _ _ _ _ _ _ _ e1 e2
    subst e1 e2
    exact ⟨all_of [] (by simp), all_of [] (by simp), by simp, by simp, by rw [rwL_nil]; simp, by rw [rwL_nil]; simp⟩
  | k + 1, .mk d x y z t f ag n bd ot ln cl, hk, h => by
    have hf := (ch_rows (k + 1) 0 _ h).1
    obtain ⟨rfl, rfl, rfl, rfl, rfl, rfl, rfl, rfl, rfl, s, rfl, hs⟩ := ch_succ h
    have ih := ch_said k s (by omega) hs
    have hl := (ch_rows k 0 s hs).2.1
    refine lines_of _ hf ?_
    intro d x y z t f ag n bd ot ln cl e
    injection e with _ _ _ _ _ _ _ _ e1 e2
    subst e1 e2
    refine ⟨all_of [s] (by intro q hq; simp at hq; subst hq; exact ih), all_of [] (by simp), by simp, by simp, ?_, by rw [rwL_nil]; simp⟩
    rw [rwL_cons, rwL_nil, List.append_nil, hl]
    omega
theorem gd_a : Gd aT := ⟨⟨105, (bs aT).tail, by decide +kernel, fun h => absurd h (by decide)⟩, by decide +kernel⟩
theorem gd_b : Gd bT := ⟨⟨120, (bs bT).tail, by decide +kernel, fun h => absurd h (by decide)⟩, by decide +kernel⟩
theorem gd_c : Gd shutT := ⟨⟨125, (bs shutT).tail, by decide +kernel, fun h => absurd h (by decide)⟩, by decide +kernel⟩
theorem sz_abc {r : ByteArray} (h : r = aT ∨ r = bT ∨ r = shutT) : 0 < r.size ∧ r.size ≤ 12 := by
  rcases h with rfl | rfl | rfl <;> decide +kernel
theorem jn_pos (x : ByteArray) (l : List ByteArray) (sep : ByteArray) (h : 0 < x.size) : jn (x :: l) sep ≠ ⟨#[]⟩ := fun e => by
  have h0 : (bs (jn (x :: l) sep)).length = 0 := by rw [e]; rfl
  rw [bs_jn, List.map_cons, Lib.join_cons, List.length_append, ← size_bs] at h0
  omega

/-- What the reference's Line answers of them: something. -/
theorem nest_line (k : Nat) (hk : k ≤ 100) (s : St) (cs : List Value) (A : Nat → Prop) (w : World) (hr : Go.Proofs.YtnmhcgkccchacaaGreatDoor.RdS A w cs s) (h : chB k s = true) :
    Calls Tryz.prog 17 #[.agg cs.toArray] w fun e w' => ∃ X : ByteArray, X ≠ ⟨#[]⟩ ∧ e = .returned (.string X) ∧ Turn [] w w' := by
  obtain ⟨i1, i2, ⟨r0, l0, i3⟩, i4⟩ := ch_rows k 0 s h
  have hz : ∀ a ∈ (rw1 0 s).map (·.2), a.size ≤ 12 := by
    intro a ha
    obtain ⟨r, hr, rfl⟩ := List.mem_map.1 ha
    exact (sz_abc (i4 r hr).1).2
  have hj := size_jn_le ((rw1 0 s).map (·.2)) ⟨#[32]⟩ 12 1 hz (by decide)
  rw [List.length_map, i2] at hj
  refine (rline_any s cs w.heap.size w (rd6 hr) (Nat.le_refl _) (ch_said k s hk h) ?_ (by omega) (by omega) ?_).mono ?_
  · intro r hr
    rcases (i4 r hr).1 with e | e | e <;> rw [e]
    · exact gd_a
    · exact gd_b
    · exact gd_c
  · intro r hr
    have := sz_abc (i4 r hr).1
    have := (i4 r hr).2
    omega
  · rintro e w' ⟨rfl, t⟩
    refine ⟨_, ?_, rfl, t⟩
    rw [i3, List.map_cons]
    exact jn_pos _ _ _ (sz_abc (i4 r0 (by rw [i3]; simp)).1).1
end R6
end Go.Proofs.YtnmhcgkccchacaaGreatDoor

/- What Stmt answers, said of the plain parser; ParseNest's ending. -/
set_option linter.unusedSimpArgs false
set_option linter.unusedVariables false
set_option maxRecDepth 100000
namespace Go.Proofs.YtnmhcgkccchacaaGreatDoor
open Go.RowKit

def stmtZ : Array Value := #[.int .i64 0, .string ⟨#[]⟩, .string ⟨#[]⟩, .string ⟨#[]⟩, .string ⟨#[]⟩, .string ⟨#[]⟩, .slice none 0 0, .int .i64 0, .slice none 0 0, .slice none 0 0, .int .i64 0, .int .i64 0]
def SRes (T : List UInt8) (A : Nat → Prop) (w' : World) (e : Ending) : Prop :=
  ((nsR T).1.1 ≠ 0 ∧ e = .returned (.tuple #[.agg stmtZ, .agg #[.int .i64 ((nsR T).1.1 : Int), .int .i64 ((nsR T).1.2.1 : Int), .int .i64 ((nsR T).1.2.2 : Int)]])) ∨
  ((nsR T).1.1 = 0 ∧ ∃ (d : Int) (x y z t f : ByteArray) (ag : List ByteArray) (n : Int) (bd ot : List St) (ln cl : Int) (P1 P2 P3 : Option Addr) (q1 q2 q3 : Nat), (nsR T).2 = .mk d x y z t f ag n bd ot ln cl ∧
    e = .returned (.tuple #[.agg #[.int .i64 d, .string x, .string y, .string z, .string t, .string f, .slice P1 ag.length q1, .int .i64 n, .slice P2 bd.length q2, .slice P3 ot.length q3, .int .i64 ln, .int .i64 cl], .agg #[.int .i64 0, .int .i64 0, .int .i64 0]]) ∧
    RdS A w' [.int .i64 d, .string x, .string y, .string z, .string t, .string f, .slice P1 ag.length q1, .int .i64 n, .slice P2 bd.length q2, .slice P3 ot.length q3, .int .i64 ln, .int .i64 cl] (.mk d x y z t f ag n bd ot ln cl))
theorem stmt_plain (s : ByteArray) (w : World) (hS : Sg w) (hK : Kw w) (h8 : 7 < w.heap.size) :
    Calls Tryz.prog 13 #[.string s] w fun e w' => Turn [] w w' ∧ SRes s.data.toList (fun g => w.heap.size ≤ g) w' e := by
  refine (Stmt_any s w hS hK h8).mono ?_
  rintro e w' ⟨t, h⟩
  refine ⟨t, ?_⟩
  rcases h with ⟨h1, h2⟩ | ⟨h1, cs, h2, h3⟩
  · exact Or.inl ⟨h1, h2⟩
  · refine Or.inr ⟨h1, ?_⟩
    obtain ⟨g, hg⟩ : ∃ q, (stmtN (rs0 (tokR s.data.toList)).1 10 (rs0 (tokR s.data.toList)).2).1 = q := ⟨_, rfl⟩
    have hn : (nsR s.data.toList).2 = g := hg
    rw [hg] at h3
    obtain ⟨d, x, y, z, tt, f, ag, n, bd, ot, ln, cl⟩ := g
    obtain ⟨V1, V2, V3, ecs, k1, k2, k3⟩ := RdS.parts h3
    subst ecs
    obtain ⟨P1, q1, rfl, _, _⟩ := id k1
    obtain ⟨P2, q2, rfl, _, _⟩ := id k2
    obtain ⟨P3, q3, rfl, _, _⟩ := id k3
    exact ⟨d, x, y, z, tt, f, ag, n, bd, ot, ln, cl, P1, P2, P3, q1, q2, q3, hn, h2, h3⟩
end Go.Proofs.YtnmhcgkccchacaaGreatDoor

/- ParseNest's law: blocks stand as deep as may be, one that is deeper is told at its brace. -/
set_option linter.unusedSimpArgs false
set_option linter.unusedVariables false
set_option maxRecDepth 100000
namespace Go.Proofs.YtnmhcgkccchacaaGreatDoor
open Go.RowKit

theorem name_x : nameB [120] = true := by decide +kernel

set_option maxHeartbeats 12800000 in
theorem parseNest_law (n : Nat) (hn : n ≤ 255) (w : World) (hS : Sg w) (hK : Kw w) (h8 : 7 < w.heap.size) :
    Calls Tryz.prog 7 #[.int .u8 (n : Int)] w fun e w' => e = .returned (.bool true) ∧ Turn [] w w' := by
  have HA := Lib.hid (awake_any w hS hK h8)
  have HP : Hid (∀ W (s : ByteArray), Turn [] w W → Calls Tryz.prog 13 #[.string s] W fun e w' => Turn [] W w' ∧ SRes s.data.toList (fun g => W.heap.size ≤ g) w' e) :=
    Lib.hid fun W s t => stmt_plain s W (hS.turn t (by simp)) (hK.turn t (by simp)) (Nat.lt_of_lt_of_le h8 t.size)
  have HN : Hid (∀ W, Turn [] w W → Calls Tryz.prog 18 #[.string ⟨#[120]⟩] W fun e w' => e = .returned (.bool true) ∧ Turn [] W w') :=
    Lib.hid fun W t => (refName_any ⟨#[120]⟩ W (by decide)).mono fun e w' h => by
      rw [show (⟨#[120]⟩ : ByteArray).data.toList = [120] from rfl, name_x] at h
      exact h
  obtain ⟨k, hk⟩ : ∃ k, n % 14 = k := ⟨_, rfl⟩
  have hk14 : k < 14 := by omega
  have HOK := Lib.hid (ns_at k hk14)
  have hkI : (n : Int) % 14 = (k : Int) := by omega
  have hkT : Int.tmod (n : Int) 14 = (k : Int) := by rw [Int.tmod_eq_emod_of_nonneg (by omega)]; exact hkI
  have hkW : wrap64 (n : Int) = (n : Int) := by unfold wrap64; omega
  clear hS hK h8 hk
  go_enter Tryz.func7, Tryz.ntmps7
  go_wp2_with fail
  refine HA.out.mono ?_
  rintro e1 w1 ⟨rfl, t1⟩
  have HT1 := Lib.hid t1
  clear t1 HA
  go_wp2_with fail
  go_loopw [4, 5, 6] (fun s t i wr => ∃ (q : Nat) (S T : ByteArray), q ≤ k ∧ i = .int .i64 (q : Int) ∧ s = .string S ∧ t = .string T ∧ Hid (S = mk (repT q nsO)) ∧ Hid (T = mk (repT q [125])) ∧ w1 = wr) (fun _ _ i _ => k - (intOf i).toNat)
  case atStart => exact ⟨0, ⟨#[]⟩, ⟨#[]⟩, by omega, by first | rfl | trivial, by first | rfl | trivial, by first | rfl | trivial, Lib.hid rfl, Lib.hid rfl, by first | rfl | trivial⟩
  case round =>
    obtain ⟨q, S, T, hq, rfl, rfl, rfl, HS, HT, rfl⟩ := hrel
    have hsz : S.size ≤ 200 := by
      rw [HS.out, Lib.size_eq]
      simp only [mk, repT_len]
      simp [nsO]
      omega
    have htz : T.size ≤ 200 := by
      rw [HT.out, Lib.size_eq]
      simp only [mk, repT_len]
      simp
      omega
    by_cases hlt : q < k
    · have c1 : (q : Int) < (k : Int) := by omega
      have c2 : decide ((q : Int) < (k : Int)) = true := by simp; omega
      have c3 : S.size + 12 ≤ 9223372036854775807 := by omega
      have c4 : T.size + 1 ≤ 9223372036854775807 := by omega
      go_wp2_with fail
      go_roundw
      case rel => exact ⟨q + 1, _, _, by omega, by go_num, rfl, rfl, Lib.hid (by rw [HS.out]; exact repT_snoc' q nsO), Lib.hid (by rw [HT.out]; exact repT_snoc' q [125]), by first | rfl | trivial⟩
      case measure => simp [intOf]; omega
    · obtain rfl : q = k := by omega
      have c2 : decide ((q : Int) < (q : Int)) = false := by simp
      have c3 : S.size + 6 ≤ 9223372036854775807 := by omega
      have c4 : (S ++ ⟨#[120, 32, 61, 32, 121, 59]⟩).size + T.size ≤ 9223372036854775807 := by
        rw [show (S ++ ⟨#[120, 32, 61, 32, 121, 59]⟩ : ByteArray).size = S.size + 6 by simp [ByteArray.size_append]; rfl]
        omega
      have hST : S ++ ⟨#[120, 32, 61, 32, 121, 59]⟩ ++ T = mk (nsText q) := by
        rw [HS.out, HT.out, show (⟨#[120, 32, 61, 32, 121, 59]⟩ : ByteArray) = mk nsM from rfl, mk_app, mk_app]
        rfl
      have hcall := HP.out w1 (S ++ ⟨#[120, 32, 61, 32, 121, 59]⟩ ++ T) HT1.out
      rw [show (S ++ ⟨#[120, 32, 61, 32, 121, 59]⟩ ++ T : ByteArray).data.toList = nsText q by rw [hST]; simp [mk]] at hcall
      have HC := Lib.hid hcall
      have hok := HOK.out
      unfold nsOk at hok
      clear hcall hST HP
      go_wp2_with fail
      refine HC.out.mono ?_
      rintro e2 w2 ⟨t2, h2⟩
      have HT2 := Lib.hid (HT1.out.trans' t2)
      clear t2 HC
      by_cases hm : q ≤ 8
      · rw [if_pos hm, Bool.and_eq_true, decide_eq_true_eq] at hok
        rcases h2 with ⟨hne, _⟩ | ⟨_, d, x, y, z, t, f, ag, nn, bd, ot, ln, cl, P1, P2, P3, q1, q2, q3, hx, rfl, hr⟩
        · exact absurd hok.1 hne
        have hch := hok.2
        rw [hx] at hch
        have m1 : (q : Int) ≤ 8 := by omega
        have m2 : decide ((q : Int) ≤ 8) = true := by simp; omega
        have HL : Hid (∀ W', Turn [] w2 W' → Calls Tryz.prog 17 #[.agg #[.int .i64 d, .string x, .string y, .string z, .string t, .string f, .slice P1 ag.length q1, .int .i64 nn, .slice P2 bd.length q2, .slice P3 ot.length q3, .int .i64 ln, .int .i64 cl]] W' fun e w' => ∃ X : ByteArray, X ≠ ⟨#[]⟩ ∧ e = .returned (.string X) ∧ Turn [] W' w') :=
          Lib.hid fun W' t' => R6.nest_line q (by omega) _ _ _ W' (goodS.turn hr t' (by simp)) hch
        clear hok hx hch hr
        obtain ⟨W3, hW3⟩ : ∃ W, (w2.alloc (.cells #[.int .i64 d, .string x, .string y, .string z, .string t, .string f, .slice P1 ag.length q1, .int .i64 nn, .slice P2 bd.length q2, .slice P3 ot.length q3, .int .i64 ln, .int .i64 cl] 41)).alloc (.cells #[.int .i64 0, .int .i64 0, .int .i64 0] 34) = W := ⟨_, rfl⟩
        have t3 : Turn [] w2 W3 := by rw [← hW3]; exact ((Turn.refl [] w2).alloc _).alloc _
        have HL3 := Lib.hid (HL.out W3 t3)
        have HT3 := Lib.hid (HT2.out.trans' t3)
        have HW3 := Lib.hid hW3
        have aW : W3.heap[w2.heap.size]? = some (.cells #[.int .i64 d, .string x, .string y, .string z, .string t, .string f, .slice P1 ag.length q1, .int .i64 nn, .slice P2 bd.length q2, .slice P3 ot.length q3, .int .i64 ln, .int .i64 cl] 41 (0, 0)) := by
          rw [← hW3]; exact ((Turn.refl [] _).alloc _).heap (heap_alloc_new w2 _) (by simp)
        have bW : W3.heap[w2.heap.size + 1]? = some (.cells #[.int .i64 0, .int .i64 0, .int .i64 0] 34 (0, 0)) := by
          rw [← hW3]
          have := heap_alloc_new (w2.alloc (.cells #[.int .i64 d, .string x, .string y, .string z, .string t, .string f, .slice P1 ag.length q1, .int .i64 nn, .slice P2 bd.length q2, .slice P3 ot.length q3, .int .i64 ln, .int .i64 cl] 41)) (.cells #[.int .i64 0, .int .i64 0, .int .i64 0] 34)
          rwa [World.size_alloc] at this
        have a0 : W3.cell? ⟨w2.heap.size, 0, none⟩ = some (.int .i64 d) := cell_of_row W3 w2.heap.size 0 _ _ _ aW
        have a1 : W3.cell? ⟨w2.heap.size, 1, none⟩ = some (.string x) := cell_of_row W3 w2.heap.size 1 _ _ _ aW
        have a2 : W3.cell? ⟨w2.heap.size, 2, none⟩ = some (.string y) := cell_of_row W3 w2.heap.size 2 _ _ _ aW
        have a3 : W3.cell? ⟨w2.heap.size, 3, none⟩ = some (.string z) := cell_of_row W3 w2.heap.size 3 _ _ _ aW
        have a4 : W3.cell? ⟨w2.heap.size, 4, none⟩ = some (.string t) := cell_of_row W3 w2.heap.size 4 _ _ _ aW
        have a5 : W3.cell? ⟨w2.heap.size, 5, none⟩ = some (.string f) := cell_of_row W3 w2.heap.size 5 _ _ _ aW
        have a6 : W3.cell? ⟨w2.heap.size, 6, none⟩ = some (.slice P1 ag.length q1) := cell_of_row W3 w2.heap.size 6 _ _ _ aW
        have a7 : W3.cell? ⟨w2.heap.size, 7, none⟩ = some (.int .i64 nn) := cell_of_row W3 w2.heap.size 7 _ _ _ aW
        have a8 : W3.cell? ⟨w2.heap.size, 8, none⟩ = some (.slice P2 bd.length q2) := cell_of_row W3 w2.heap.size 8 _ _ _ aW
        have a9 : W3.cell? ⟨w2.heap.size, 9, none⟩ = some (.slice P3 ot.length q3) := cell_of_row W3 w2.heap.size 9 _ _ _ aW
        have a10 : W3.cell? ⟨w2.heap.size, 10, none⟩ = some (.int .i64 ln) := cell_of_row W3 w2.heap.size 10 _ _ _ aW
        have a11 : W3.cell? ⟨w2.heap.size, 11, none⟩ = some (.int .i64 cl) := cell_of_row W3 w2.heap.size 11 _ _ _ aW
        have b0 : W3.cell? ⟨w2.heap.size + 1, 0, none⟩ = some (.int .i64 0) := cell_of_row W3 (w2.heap.size + 1) 0 _ _ _ bW
        have b1 : W3.cell? ⟨w2.heap.size + 1, 1, none⟩ = some (.int .i64 0) := cell_of_row W3 (w2.heap.size + 1) 1 _ _ _ bW
        have b2 : W3.cell? ⟨w2.heap.size + 1, 2, none⟩ = some (.int .i64 0) := cell_of_row W3 (w2.heap.size + 1) 2 _ _ _ bW
        clear t3 hW3 HL aW bW
        go_upto_region 10 with (fail)
        rw [HW3.out]
        go_wp2_with fail
        refine HL3.out.mono ?_
        rintro e4 w4 ⟨X, hX, rfl, t4⟩
        have hb := bytes_ne hX
        have HN4 := Lib.hid (HN.out w4 (HT3.out.trans' t4))
        have HT4 := Lib.hid (HT3.out.trans' t4)
        clear t4 hX HN
        go_wp2_with fail
        refine HN4.out.mono ?_
        rintro e5 w5 ⟨rfl, t5⟩
        go_wp2_with fail
        go_ret
        exact ⟨rfl, HT4.out.trans' t5⟩
      · rw [if_neg hm, Bool.and_eq_true, Bool.and_eq_true, decide_eq_true_eq, decide_eq_true_eq, decide_eq_true_eq] at hok
        obtain ⟨⟨k1, k2⟩, k3⟩ := hok
        rcases h2 with ⟨_, rfl⟩ | ⟨hz, _⟩
        · rw [k1, k2, k3]
          have m1 : ¬ (q : Int) ≤ 8 := by omega
          have m2 : decide ((q : Int) ≤ 8) = false := by simp; omega
          clear k1 k2 k3
          unfold stmtZ
          go_wp2_with fail
          go_ret
          exact ⟨rfl, ((HT2.out).alloc _).alloc _⟩
        · rw [k1] at hz
          cases hz
end Go.Proofs.YtnmhcgkccchacaaGreatDoor
