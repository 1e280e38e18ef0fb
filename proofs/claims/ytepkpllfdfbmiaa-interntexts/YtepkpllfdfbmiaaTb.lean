/- The numbering of tuples: number, enter, thing, count. -/
import Derived.Test.YtepkpllfdfbmiaaTup
import Derived.Deep.DeepCutAuto
import Derived.Deep.RegionHeld3
import Derived.BigRegion
import Derived.StillTailTactics
import Derived.Deep.RegionLaw
import Derived.Deep.RegionWith
set_option linter.unusedSimpArgs false
set_option linter.unusedVariables false
namespace Go.Proofs.Ytepkpllfdfbmiaa
open Go.RowKit Go.Maps

/-- A tuple that may be a key. -/
def Gd (t : List Int) : Prop := t.length = 9 ∧ Wf t
theorem Gd.key {t : List Int} (h : Gd t) : keyOf Try.prog 61 (.agg (tC t)) = some (tKP Try.prog t) := key61 h.1 h.2
theorem gd_inj : ∀ a b, Gd a → Gd b → tKP Try.prog a = tKP Try.prog b → a = b := fun a b ha hb h => tK_inj ha.1 ha.2 hb.1 hb.2 h

theorem tC9 (a0 a1 a2 a3 a4 a5 a6 a7 a8 : Int) : tC [a0, a1, a2, a3, a4, a5, a6, a7, a8] = #[.int .i64 a0, .int .i64 a1, .int .i64 a2, .int .i64 a3, .int .i64 a4, .int .i64 a5, .int .i64 a6, .int .i64 a7, .int .i64 a8] := rfl
theorem tV9 (a0 a1 a2 a3 a4 a5 a6 a7 a8 : Int) : tV [a0, a1, a2, a3, a4, a5, a6, a7, a8] = .agg #[.int .i64 a0, .int .i64 a1, .int .i64 a2, .int .i64 a3, .int .i64 a4, .int .i64 a5, .int .i64 a6, .int .i64 a7, .int .i64 a8] := rfl
theorem nine {t : List Int} (h : t.length = 9) : ∃ a0 a1 a2 a3 a4 a5 a6 a7 a8, t = [a0, a1, a2, a3, a4, a5, a6, a7, a8] := by
  match t, h with
  | [a0, a1, a2, a3, a4, a5, a6, a7, a8], _ => exact ⟨a0, a1, a2, a3, a4, a5, a6, a7, a8, rfl⟩

/-- The slice v is of the program's own making and holds the tuples L. -/
def OwnT (w : World) (v : Value) (L : List (List Int)) : Prop := w.ownsRow 0 61 9 v L.length (L.flatMap (fun t => t.map (Value.int .i64)))
/-- The slice v is of the program's own making and holds the texts S. -/
def OwnS (w : World) (B : Nat) (v : Value) (S : List ByteArray) : Prop := w.ownsRow B 9 1 v S.length (S.map Value.string)
/-- A text that may be a key. -/
def Gs (s : ByteArray) : Prop := s.size ≤ maxLen
def sK (s : ByteArray) : Lit := .string s.data.toList

/-- Block b is a table's memory: the tuples that have numbers are L, the texts are S, all within the blocks F. -/
structure TP (w : World) (b : Nat) (F : List Nat) (M V M2 V2 : Value) (L : List (List Int)) (S : List ByteArray) : Prop where
  blk : w.heap[b]? = some (.cells #[M, V, M2, V2] 58 (0, 0))
  fb : b ∈ F
  fl : ∀ g ∈ F, g < w.heap.size
  mb : Mb 61 (tKP Try.prog) Gd w M L
  row : OwnT w V L
  mb2 : Mb 9 sK Gs w M2 S
  row2 : OwnS w 0 V2 S
  fm : ∀ m, M = .map (some m) → m ∈ F
  fv : ∀ g, V.ownBlock = some g → g ∈ F
  fm2 : ∀ m, M2 = .map (some m) → m ∈ F
  fv2 : ∀ g, V2.ownBlock = some g → g ∈ F
  am : ∀ m, M = .map (some m) → M2 ≠ .map (some m)
def Tb (w : World) (b : Nat) (F : List Nat) (L : List (List Int)) (S : List ByteArray) : Prop := ∃ M V M2 V2, TP w b F M V M2 V2 L S

/-- What a footprint may become: old blocks and new ones. -/
def Foot (n : Nat) (F F' : List Nat) : Prop := ∀ g ∈ F', g ∈ F ∨ n ≤ g
theorem Foot.refl (n : Nat) (F : List Nat) : Foot n F F := fun g h => .inl h
theorem Foot.trans {n n' : Nat} {F G H : List Nat} (h : Foot n F G) (k : Foot n' G H) (hn : n ≤ n') : Foot n F H := fun g hg => by
  rcases k g hg with h1 | h1
  · exact h g h1
  · exact .inr (by omega)
theorem Foot.at {n : Nat} {F G : List Nat} (h : Foot n F G) {g : Nat} (hg : g ∈ G) : g ∈ F ∨ n ≤ g := h g hg

theorem ownsRow_blk {w : World} {B n size : Nat} {e : TypeId} {v : Value} {xs : List Value} (h : w.ownsRow B e size v n xs) {g : Nat} (hg : v.ownBlock = some g) : ∃ cs, w.heap[g]? = some (.cells cs e (0, 0)) := by
  rcases h.2 with ⟨rfl, _⟩ | ⟨g', cap, cur, rfl, _, hb, _⟩
  · cases hg
  · injection hg with hg
    subst hg
    exact ⟨_, hb⟩

section
variable {w w' : World} {b : Nat} {F G : List Nat} {M V M2 V2 : Value} {L : List (List Int)} {S : List ByteArray}
theorem TP.mblk (h : TP w b F M V M2 V2 L S) {m : Nat} (e : M = .map (some m)) : ∃ es clock, w.heap[m]? = some (.map es clock) := by
  rcases h.mb with ⟨e2, _⟩ | ⟨m', e2, hs⟩
  · rw [e] at e2; cases e2
  · rw [e] at e2; cases e2; exact hs.blk
theorem TP.mblk2 (h : TP w b F M V M2 V2 L S) {m : Nat} (e : M2 = .map (some m)) : ∃ es clock, w.heap[m]? = some (.map es clock) := by
  rcases h.mb2 with ⟨e2, _⟩ | ⟨m', e2, hs⟩
  · rw [e] at e2; cases e2
  · rw [e] at e2; cases e2; exact hs.blk
theorem TP.mne (h : TP w b F M V M2 V2 L S) {m : Nat} (e : M = .map (some m)) : m ≠ b ∧ V.ownBlock ≠ some m ∧ V2.ownBlock ≠ some m := by
  obtain ⟨es, clock, hb⟩ := h.mblk e
  refine ⟨fun e3 => ?_, fun e3 => ?_, fun e3 => ?_⟩
  · rw [e3, h.blk] at hb; cases hb
  · obtain ⟨cs, hc⟩ := ownsRow_blk h.row e3; rw [hb] at hc; cases hc
  · obtain ⟨cs, hc⟩ := ownsRow_blk h.row2 e3; rw [hb] at hc; cases hc
theorem TP.mne2 (h : TP w b F M V M2 V2 L S) {m : Nat} (e : M2 = .map (some m)) : m ≠ b ∧ V.ownBlock ≠ some m ∧ V2.ownBlock ≠ some m := by
  obtain ⟨es, clock, hb⟩ := h.mblk2 e
  refine ⟨fun e3 => ?_, fun e3 => ?_, fun e3 => ?_⟩
  · rw [e3, h.blk] at hb; cases hb
  · obtain ⟨cs, hc⟩ := ownsRow_blk h.row e3; rw [hb] at hc; cases hc
  · obtain ⟨cs, hc⟩ := ownsRow_blk h.row2 e3; rw [hb] at hc; cases hc
theorem TP.vne (h : TP w b F M V M2 V2 L S) {g : Nat} (e : V.ownBlock = some g) : g ≠ b ∧ V2.ownBlock ≠ some g := by
  obtain ⟨cs, hc⟩ := ownsRow_blk h.row e
  refine ⟨fun e3 => ?_, fun e3 => ?_⟩
  · rw [e3, h.blk] at hc; cases hc
  · obtain ⟨cs2, hc2⟩ := ownsRow_blk h.row2 e3; rw [hc] at hc2; cases hc2
theorem TP.vne2 (h : TP w b F M V M2 V2 L S) {g : Nat} (e : V2.ownBlock = some g) : g ≠ b ∧ V.ownBlock ≠ some g := by
  obtain ⟨cs, hc⟩ := ownsRow_blk h.row2 e
  refine ⟨fun e3 => ?_, fun e3 => ?_⟩
  · rw [e3, h.blk] at hc; cases hc
  · obtain ⟨cs2, hc2⟩ := ownsRow_blk h.row e3; rw [hc] at hc2; cases hc2
theorem TP.turn (h : TP w b F M V M2 V2 L S) (t : Turn G w w') (hn : ∀ g ∈ F, g ∉ G) : TP w' b F M V M2 V2 L S :=
  ⟨t.heap h.blk (hn b h.fb), h.fb, fun g hg => Nat.lt_of_lt_of_le (h.fl g hg) t.size, h.mb.turn t (fun m e => hn m (h.fm m e)), Turn.owns t h.row (fun g e => hn g (h.fv g e)),
    h.mb2.turn t (fun m e => hn m (h.fm2 m e)), Turn.owns t h.row2 (fun g e => hn g (h.fv2 g e)), h.fm, h.fv, h.fm2, h.fv2, h.am⟩
theorem Tb.turn (h : Tb w b F L S) (t : Turn G w w') (hn : ∀ g ∈ F, g ∉ G) : Tb w' b F L S := by
  obtain ⟨M, V, M2, V2, h⟩ := h
  exact ⟨M, V, M2, V2, h.turn t hn⟩
theorem Tb.turn' (h : Tb w b F L S) (t : Turn [] w w') : Tb w' b F L S := h.turn t (by simp)
theorem Tb.fl (h : Tb w b F L S) : ∀ g ∈ F, g < w.heap.size := by
  obtain ⟨M, V, M2, V2, h⟩ := h
  exact h.fl
end

set_option maxHeartbeats 400000 in
theorem number_walk (b : Nat) (M : Value) (t : List Int) (n : Nat) (q : Bool) (w : World) (c0 : w.cell? ⟨b, 0, none⟩ = some M) (hb : b < w.heap.size) (ht : t.length = 9)
    (hl : ∀ k, (Instr.lookup 46 M (tV t) true).run Try.prog ((w.alloc (.cells (tC t) 61)).drewN k) = .ok (.tuple #[.int .i64 (n : Int), .bool q]) ((w.alloc (.cells (tC t) 61)).drewN k)) :
    Calls Try.prog 29 #[.pointer (some ⟨b, 0, none⟩), tV t] w fun e w' => e = .returned (.tuple #[.int .i64 (n : Int), .bool q]) ∧ Turn [] w w' := by
  obtain ⟨a0, a1, a2, a3, a4, a5, a6, a7, a8, rfl⟩ := nine ht
  rw [tV9]
  rw [tV9, tC9] at hl
  clear ht
  go_enter Try.func29, Try.ntmps29
  go_wp2_with fail
  go_quiet (fail)
  go_wp2_with fail
  go_ret2
  exact ⟨rfl, ((Turn.refl _ _).alloc _).drewN _⟩

theorem number_any (b : Nat) (F : List Nat) (L : List (List Int)) (S : List ByteArray) (t : List Int) (w : World) (h : Tb w b F L S) (hL : L.Nodup) (ht : Gd t) :
    Calls Try.prog 29 #[.pointer (some ⟨b, 0, none⟩), tV t] w fun e w' => e = .returned (.tuple #[.int .i64 (fnd L t : Int), .bool (inB L t)]) ∧ Turn [] w w' := by
  obtain ⟨M, V, M2, V2, h⟩ := h
  refine number_walk b M t _ _ w (cell_of_row w b 0 _ 58 (0, 0) h.blk) (h.fl b h.fb) ht.1 (fun k => ?_)
  exact (h.mb.turn (((Turn.refl [] w).alloc _).drewN k) (by simp)).look law61 Try.underlying46 hL ht ht.key

theorem flat9 {L : List (List Int)} (hL : ∀ t ∈ L, t.length = 9) : ∀ (i : Nat) (t : List Int), L[i]? = some t → ∀ (k : Nat) (y : Int), t[k]? = some y → (L.flatMap (fun t => t.map (Value.int .i64)))[i * 9 + k]? = some (.int .i64 y) := by
  induction L with
  | nil => intro i t h; simp at h
  | cons u L ih =>
    intro i t h k y hy
    have hu : u.length = 9 := hL u (by simp)
    rw [List.flatMap_cons]
    match i, h with
    | 0, h =>
      simp at h
      subst h
      have hk : k < u.length := (List.getElem?_eq_some_iff.1 hy).1
      rw [List.getElem?_append_left (by simp; omega), Nat.zero_mul, Nat.zero_add, List.getElem?_map, hy]
      rfl
    | i + 1, h =>
      rw [List.getElem?_append_right (by simp; omega), List.length_map, hu, show (i + 1) * 9 + k - 9 = i * 9 + k by omega]
      exact ih (fun t ht => hL t (by simp [ht])) i t (by simpa using h) k y hy
theorem OwnT.form {w : World} {v : Value} {L : List (List Int)} (h : OwnT w v L) (hL : ∀ t ∈ L, t.length = 9) : ∃ A c, v = .slice A L.length c ∧ L.length ≤ c ∧ ∀ (i : Nat) (t : List Int), L[i]? = some t → ∃ g, A = some ⟨g, 0, none⟩ ∧ g < w.heap.size ∧ ∀ (k : Nat) (y : Int), t[k]? = some y → w.cell? ⟨g, i * 9 + k, none⟩ = some (.int .i64 y) := by
  rcases h.2 with ⟨rfl, hn⟩ | ⟨g, cap, cur, rfl, hb, hg, hnc, _, _, ht⟩
  · refine ⟨none, 0, by rw [hn], by omega, fun i t hi => ?_⟩
    rw [List.eq_nil_of_length_eq_zero hn] at hi
    simp at hi
  · refine ⟨_, cap, rfl, hnc, fun i t hi => ⟨g, rfl, (Array.getElem?_eq_some_iff.1 hg).1, fun k y hy => ?_⟩⟩
    have hk : k < t.length := (List.getElem?_eq_some_iff.1 hy).1
    have h9 := hL t (List.mem_of_getElem? hi)
    have hil : i < L.length := (List.getElem?_eq_some_iff.1 hi).1
    rw [World.ownsRow.cellAt (cap := cap) h (i * 9 + k) (by omega)]
    exact flat9 hL i t hi k y hy

theorem tuple_info : (Try.prog.info? 61).map (fun i => (i.zero, i.size, i.bytes)) = some (some (tV zeroT), 9, 72) := by kernel_rfl
theorem string_info : (Try.prog.info? 9).map (fun i => (i.zero, i.size, i.bytes)) = some (some (.string ⟨#[]⟩), 1, 16) := by kernel_rfl

/-- append of one tuple, laid in a block of its own just ahead, onto a slice of the program's own. -/
theorem wpList_appT {ops : Array Oper} {rest : List Oper} {o : Oper} {a : Act} {Q : Exit → Act → World → Prop} (hgd : o.guard = none) (s x : Operand)
    (ho : o.op = .call { callee := .builtin .append, args := #[s, x], argTypes := #[47, 47] })
    (W : World) (v : Value) (L : List (List Int)) (t : List Int) (C : Array Value) (c : Nat) (hs : a.eval s = v) (hown : OwnT W v L) (ht : t.length = 9) (hC : C = tC t) (hx : a.eval x = .slice (some ⟨W.heap.size, 0, none⟩) 1 c)
    (hl : L.length ≤ 1000000)
    (h : ∀ v' w', OwnT w' v' (L ++ [t]) → Turn v.ownBlock.toList W w' → (v'.ownBlock = v.ownBlock ∨ ∃ g, v'.ownBlock = some g ∧ W.heap.size ≤ g) → wpList Try.prog ops Q rest (a.put o.dst v') w') :
    wpList Try.prog ops Q (o :: rest) a (W.alloc (.cells C 61)) := by
  subst hC
  obtain ⟨i0, hi0, hz0, hz1, hz2⟩ := info_parts tuple_info
  refine wpList_append_own_at (W.alloc (.cells (tC t) 61)) hgd s x 47 ho 0 61 i0 _ 9 72 Try.underlying47 hi0 hz0 hz1 hz2 rfl (by omega) v L.length _ hs
    (Turn.owns ((Turn.refl [] W).alloc _) hown (by simp)) ⟨W.heap.size, 0, none⟩ 1 c (t.map (Value.int .i64)) hx (by simp [ht]) ?_ ?_ (by simp only [maxLen]; omega) (by omega) (Nat.zero_le _) ?_
  · intro j u hj
    rw [Addr.add_lit, cell_of_row _ W.heap.size _ _ _ _ (heap_alloc_new W _), Nat.zero_add]
    simpa [tC] using hj
  · intro u hu
    obtain ⟨y, _, rfl⟩ := List.mem_map.1 hu
    rfl
  · intro v' w' h1 h2 _ h4
    refine h v' w' ?_ (((Turn.refl _ W).alloc _).grown h2 (fun k hk => .inl (by simp [hk]))) ?_
    · unfold OwnT
      rw [List.length_append, List.flatMap_append]
      simpa using h1
    · rcases h4 with h4 | h4
      · exact .inl h4
      · exact .inr ⟨_, h4, by simp⟩

/-- The same at a step of a region that draws. -/
theorem step_appT {ops : Array Oper} {o : Oper} {a : Act} {K : Act → World → Prop} {Q : Exit → Act → World → Prop} {E : Prop} (hgd : o.guard = none) (s x : Operand)
    (ho : o.op = .call { callee := .builtin .append, args := #[s, x], argTypes := #[47, 47] }) (W : World) (v : Value) (L : List (List Int)) (t : List Int) (vb c : Nat)
    (hs : a.eval s = v) (hx : a.eval x = .slice (some ⟨vb, 0, none⟩) 1 c) (hown : OwnT W v L) (ht : t.length = 9) (hb : Vr W vb t) (hl : L.length ≤ 1000000)
    (h : ∀ v' w', OwnT w' v' (L ++ [t]) → Turn v.ownBlock.toList W w' → (v'.ownBlock = v.ownBlock ∨ ∃ g, v'.ownBlock = some g ∧ W.heap.size ≤ g) → K (a.put o.dst v') w') :
    if Region.wanted o (yielded ops a.tmps) = true then Oper.wp Try.prog o a W K Q else E := by
  have hw : Region.wanted o (yielded ops a.tmps) = true := by simp [Region.wanted, hgd]
  rw [if_pos hw]
  obtain ⟨i0, hi0, hz0, hz1, hz2⟩ := info_parts tuple_info
  obtain ⟨v', w', hr, h2, h3, _, h5⟩ := run_append_own_at (P := Try.prog) W 0 47 o.type 61 i0 _ 9 72 Try.underlying47 hi0 hz0 hz1 hz2 rfl (by omega) v L.length _ hown ⟨vb, 0, none⟩ 1 c (t.map (Value.int .i64)) (by simp [ht]) (fun j u hj => by
      rw [Addr.add_lit, cell_of_row _ vb _ _ _ _ hb.2, Nat.zero_add]
      simpa [tC] using hj) (fun u hu => by
      obtain ⟨y, _, rfl⟩ := List.mem_map.1 hu
      rfl) (by simp only [maxLen]; omega) (by omega) (Nat.zero_le _)
  unfold Oper.wp execOp
  simp only [ho, resolve, invoke, builtin, Sem.run_bind, Sem.run_pure, Result.andThen_ok, List.map_toArray, List.map_cons, List.map_nil, hs, hx, hr]
  refine h v' w' ?_ ((Turn.refl _ _).grown h3 (fun k hk => .inl (by simp [hk]))) ?_
  · unfold OwnT
    rw [List.length_append, List.flatMap_append]
    simpa using h2
  · rcases h5 with h5 | h5
    · exact .inl h5
    · exact .inr ⟨_, h5, Nat.le_refl _⟩

/-- 'm[thing] = next number'. -/
theorem wpList_putK {α : Type} [DecidableEq α] {k mt : TypeId} {κ : α → Lit} {G : α → Prop} {ops : Array Oper} {rest : List Oper} {o : Oper} {a : Act} {Q : Exit → Act → World → Prop} (w : World) (hg : o.guard = none) (mo x v : Operand) (hop : o.op = Op.mapUpdate mt mo x v)
    (K : Keyed Try.prog k) (hu : Try.prog.underlying mt = some (.map k 3)) (hinj : ∀ a b, G a → G b → κ a = κ b → a = b) (m : Nat) (L : List α) (hm : a.eval mo = .map (some m)) (h : MK k κ G w m L) (hl : L.length ≤ 1000000)
    (t : α) (X : Value) (hx : a.eval x = X) (hk : keyOf Try.prog k X = some (κ t)) (hG : G t) (hin : t ∉ L) (hv : a.eval v = .int .i64 (L.length : Int))
    (hK : ∀ w', MK k κ G w' m (L ++ [t]) → Turn [m] w w' → wpList Try.prog ops Q rest (a.put o.dst undef) w') : wpList Try.prog ops Q (o :: rest) a w := by
  refine wpList_plain hg fun K' hK' => ?_
  obtain ⟨w', hrun, h1, h2⟩ := h.put K hu hl hinj hG hk hin
  unfold Oper.wp
  simp [execOp, hop, hm, hx, hv, hrun, Result.andThen]
  exact hK' _ _ (hK w' h1 h2)

theorem map46_nil (w : World) : (binOp .eql 46 (.map none) (.map none)).run Try.prog w = .ok (.bool true) w := by kernel_rfl
theorem map46_some (m : Nat) (w : World) : (binOp .eql 46 (.map (some m)) (.map none)).run Try.prog w = .ok (.bool false) w := by kernel_rfl
attribute [local go_sem] map46_nil map46_some

theorem heap4_0 {w : World} {b : Nat} {M V M2 V2 u : Value} (h : w.heap[b]? = some (.cells #[M, V, M2, V2] 58 (0, 0))) : (w.setCell ⟨b, 0, none⟩ u).heap[b]? = some (.cells #[u, V, M2, V2] 58 (0, 0)) := by
  simp only [World.setCell, Array.getElem?_modify, h]
  rfl
theorem heap4_1 {w : World} {b : Nat} {M V M2 V2 u : Value} (h : w.heap[b]? = some (.cells #[M, V, M2, V2] 58 (0, 0))) : (w.setCell ⟨b, 1, none⟩ u).heap[b]? = some (.cells #[M, u, M2, V2] 58 (0, 0)) := by
  simp only [World.setCell, Array.getElem?_modify, h]
  rfl
theorem heap4_2 {w : World} {b : Nat} {M V M2 V2 u : Value} (h : w.heap[b]? = some (.cells #[M, V, M2, V2] 58 (0, 0))) : (w.setCell ⟨b, 2, none⟩ u).heap[b]? = some (.cells #[M, V, u, V2] 58 (0, 0)) := by
  simp only [World.setCell, Array.getElem?_modify, h]
  rfl
theorem heap4_3 {w : World} {b : Nat} {M V M2 V2 u : Value} (h : w.heap[b]? = some (.cells #[M, V, M2, V2] 58 (0, 0))) : (w.setCell ⟨b, 3, none⟩ u).heap[b]? = some (.cells #[M, V, M2, u] 58 (0, 0)) := by
  simp only [World.setCell, Array.getElem?_modify, h]
  rfl

theorem Vr.nine {w : World} {g : Nat} {a0 a1 a2 a3 a4 a5 a6 a7 a8 : Int} (h : Vr w g [a0, a1, a2, a3, a4, a5, a6, a7, a8]) :
    w.cell? ⟨g, 0, none⟩ = some (.int .i64 a0) ∧ w.cell? ⟨g, 1, none⟩ = some (.int .i64 a1) ∧ w.cell? ⟨g, 2, none⟩ = some (.int .i64 a2) ∧ w.cell? ⟨g, 3, none⟩ = some (.int .i64 a3) ∧ w.cell? ⟨g, 4, none⟩ = some (.int .i64 a4) ∧
    w.cell? ⟨g, 5, none⟩ = some (.int .i64 a5) ∧ w.cell? ⟨g, 6, none⟩ = some (.int .i64 a6) ∧ w.cell? ⟨g, 7, none⟩ = some (.int .i64 a7) ∧ w.cell? ⟨g, 8, none⟩ = some (.int .i64 a8) := by
  refine ⟨?_, ?_, ?_, ?_, ?_, ?_, ?_, ?_, ?_⟩ <;> exact cell_of_row w g _ _ _ _ h.2

/-- Behind the store into the map and the append: the table has one tuple more. -/
theorem TP.entered {w w' : World} {b m : Nat} {F : List Nat} {V M2 V2 v : Value} {L : List (List Int)} {S : List ByteArray} {t : List Int} (h : TP w b F (.map (some m)) V M2 V2 L S) (hm : MK 61 (tKP Try.prog) Gd w' m (L ++ [t])) (hv : OwnT w' v (L ++ [t]))
    (t1 : Turn (m :: V.ownBlock.toList) w w') (hvb : v.ownBlock = V.ownBlock ∨ ∃ g, v.ownBlock = some g ∧ w.heap.size ≤ g) :
    Tb (w'.setCell ⟨b, 1, none⟩ v) b (v.ownBlock.toList ++ F) (L ++ [t]) S ∧ Foot w.heap.size F (v.ownBlock.toList ++ F) ∧ Turn F w (w'.setCell ⟨b, 1, none⟩ v) := by
  have hbl : b < w.heap.size := h.fl b h.fb
  have hmm := h.mne (m := m) rfl
  have hF : ∀ g ∈ m :: V.ownBlock.toList, g ∈ F ∨ w.heap.size ≤ g := fun g hg => by
    rcases List.mem_cons.1 hg with rfl | hg
    · exact .inl (h.fm _ rfl)
    · exact .inl (h.fv g (by simpa using hg))
  have tF : Turn F w w' := t1.more hF
  have hb : b ∉ m :: V.ownBlock.toList := fun hg => by
    rcases List.mem_cons.1 hg with e | hg
    · exact hmm.1 e.symm
    · exact (h.vne (by simpa using hg)).1 rfl
  have tS : Turn [b] w' (w'.setCell ⟨b, 1, none⟩ v) := (Turn.refl [b] w').setCell (.inl (by simp)) _
  have hvne : ∀ g, v.ownBlock = some g → g ≠ b := by
    intro g hg
    rcases hvb with e | ⟨g', e, h1⟩
    · exact (h.vne (by rw [← e]; exact hg)).1
    · rw [hg] at e
      cases e
      omega
  refine ⟨⟨.map (some m), v, M2, V2, heap4_1 (t1.heap h.blk hb), List.mem_append_right _ h.fb, ?_, .inr ⟨m, rfl, hm.turn tS (by simpa using hmm.1)⟩, Turn.owns tS hv (fun g hg => by simpa using hvne g hg), ?_, ?_, ?_, ?_, ?_, ?_, h.am⟩, ?_, tF.trans tS (by simpa using .inl h.fb)⟩
  · intro g hg
    rcases List.mem_append.1 hg with hg | hg
    · exact Nat.lt_of_lt_of_le (World.ownsRow.lt hv g (by simpa using hg)).2 tS.size
    · exact Nat.lt_of_lt_of_le (h.fl g hg) (Nat.le_trans tF.size tS.size)
  · refine (h.mb2.turn t1 ?_).turn tS (fun m' e => by simpa using (h.mne2 e).1)
    intro m' e hg
    rcases List.mem_cons.1 hg with e2 | hg
    · subst e2
      exact h.am m' rfl e
    · exact (h.mne2 e).2.1 (by simpa using hg)
  · refine Turn.owns tS (Turn.owns t1 h.row2 ?_) (fun g e => by simpa using (h.vne2 e).1)
    intro g e hg
    rcases List.mem_cons.1 hg with e2 | hg
    · subst e2
      exact hmm.2.2 e
    · exact (h.vne2 e).2 (by simpa using hg)
  · exact fun m' e => List.mem_append_right _ (h.fm m' e)
  · exact fun g e => List.mem_append_left _ (by simp [e])
  · exact fun m' e => List.mem_append_right _ (h.fm2 m' e)
  · exact fun g e => List.mem_append_right _ (h.fv2 g e)
  · intro g hg
    rcases List.mem_append.1 hg with hg | hg
    · rcases hvb with e | ⟨g', e, h1⟩
      · rw [e] at hg
        exact .inl (h.fv g (by simpa using hg))
      · rw [e] at hg
        simp at hg
        exact .inr (by omega)
    · exact .inl hg
/-- Behind 'make': an empty map in the place of nil. -/
theorem TP.made {w : World} {b : Nat} {F : List Nat} {V M2 V2 : Value} {L : List (List Int)} {S : List ByteArray} (h : TP w b F (.map none) V M2 V2 L S) :
    TP ((w.setCell ⟨b, 0, none⟩ (.map (some w.heap.size))).alloc (.map #[] 0)) b (w.heap.size :: F) (.map (some w.heap.size)) V M2 V2 L S ∧ Turn F w ((w.setCell ⟨b, 0, none⟩ (.map (some w.heap.size))).alloc (.map #[] 0)) := by
  have hbl : b < w.heap.size := h.fl b h.fb
  have hL : L = [] := by
    rcases h.mb with ⟨_, e⟩ | ⟨m, e, _⟩
    · exact e
    · cases e
  have tA : Turn [b] w ((w.setCell ⟨b, 0, none⟩ (.map (some w.heap.size))).alloc (.map #[] 0)) := ((Turn.refl [b] w).setCell (.inl (by simp)) _).alloc _
  have hlt : w.heap.size < ((w.setCell ⟨b, 0, none⟩ (.map (some w.heap.size))).alloc (.map #[] 0)).heap.size := by simp
  refine ⟨⟨((Turn.refl [] _).alloc _).heap (heap4_0 h.blk) (by simp), List.mem_cons_of_mem _ h.fb, ?_, .inr ⟨_, rfl, ?_⟩, Turn.owns tA h.row (fun g e => by simpa using (h.vne e).1), h.mb2.turn tA (fun m e => by simpa using (h.mne2 e).1), Turn.owns tA h.row2 (fun g e => by simpa using (h.vne2 e).1), ?_, ?_, ?_, ?_, ?_⟩, tA.more (by simpa using .inl h.fb)⟩
  · intro g hg
    rcases List.mem_cons.1 hg with rfl | hg
    · exact hlt
    · exact Nat.lt_of_lt_of_le (h.fl g hg) tA.size
  · rw [hL]
    have := MK.made (k := 61) (κ := tKP Try.prog) (G := Gd) (w.setCell ⟨b, 0, none⟩ (.map (some w.heap.size)))
    simpa using this
  · intro m e
    cases e
    simp
  · exact fun g e => List.mem_cons_of_mem _ (h.fv g e)
  · exact fun m e => List.mem_cons_of_mem _ (h.fm2 m e)
  · exact fun g e => List.mem_cons_of_mem _ (h.fv2 g e)
  · intro m e e2
    cases e
    have := h.fl _ (h.fm2 _ e2)
    omega

theorem TP.done {w W w2 w5 : World} {b m n c5 : Nat} {F F1 : List Nat} {V M2 V2 : Value} {A5 : Option Addr} {L : List (List Int)} {S : List ByteArray} {t : List Int} {o : Obj} (h : TP W b F1 (.map (some m)) V M2 V2 L S) (hF : Foot w.heap.size F F1) (t0 : Turn F w W)
    (hm : MK 61 (tKP Try.prog) Gd w2 m (L ++ [t])) (t2 : Turn [m] W w2) (hv : OwnT w5 (.slice A5 (L ++ [t]).length c5) (L ++ [t])) (t5 : Turn V.ownBlock.toList (w2.alloc o).drew w5)
    (hvb : Value.ownBlock (.slice A5 (L ++ [t]).length c5) = V.ownBlock ∨ ∃ g, Value.ownBlock (.slice A5 (L ++ [t]).length c5) = some g ∧ (w2.alloc o).drew.heap.size ≤ g) (hn : n = L.length + 1) :
    ∃ F', Tb (w5.setCell ⟨b, 1, none⟩ (.slice A5 n c5)) b F' (L ++ [t]) S ∧ Foot w.heap.size F F' ∧ Turn F w (w5.setCell ⟨b, 1, none⟩ (.slice A5 n c5)) := by
  have e : Value.slice A5 n c5 = .slice A5 (L ++ [t]).length c5 := by rw [hn]; simp
  rw [e]
  have ta : Turn [] w2 (w2.alloc o).drew := ((Turn.refl [] w2).alloc o).drew
  have tm : Turn (m :: V.ownBlock.toList) W w5 := (((t2.more (G := m :: V.ownBlock.toList) (by simp)).trans' ta).trans t5 (fun g hg => .inl (List.mem_cons_of_mem _ hg)))
  obtain ⟨h1, h2, h3⟩ := h.entered (hm.turn (ta.more (G := V.ownBlock.toList) (by simp) |>.trans t5 (fun g hg => .inl hg)) (fun hg => (h.mne (m := m) rfl).2.1 (by simpa using hg))) hv tm (by
    rcases hvb with e | ⟨g, e, hle⟩
    · exact .inl e
    · exact .inr ⟨g, e, Nat.le_trans t2.size (Nat.le_trans ta.size hle)⟩)
  exact ⟨_, h1, hF.trans h2 t0.size, t0.trans h3 hF⟩

set_option maxHeartbeats 1600000 in
theorem enter_any (b : Nat) (F : List Nat) (L : List (List Int)) (S : List ByteArray) (t : List Int) (w : World) (h : Tb w b F L S) (hL : ∀ t ∈ L, t.length = 9) (ht : Gd t) (hin : t ∉ L) (hl : L.length ≤ 1000000) :
    Calls Try.prog 30 #[.pointer (some ⟨b, 0, none⟩), tV t] w fun e w' => e = .returned (.int .i64 (L.length : Int)) ∧ ∃ F', Tb w' b F' (L ++ [t]) S ∧ Foot w.heap.size F F' ∧ Turn F w w' := by
  obtain ⟨M, V, M2, V2, hq⟩ := h
  have t1 := (Turn.refl [] w).alloc (.cells (tC t) 61)
  have hq1 := hq.turn t1 (by simp)
  have hv1 : Vr (w.alloc (.cells (tC t) 61)) w.heap.size t := Vr.box w ht.1
  have HIN := Lib.hid hin
  have HLL := Lib.hid hL
  have HG := Lib.hid ht
  have HK := Lib.hid ht.key
  obtain ⟨a0, a1, a2, a3, a4, a5, a6, a7, a8, rfl⟩ := nine ht.1
  rw [tV9]
  rw [tC9] at HK hq1 hv1 t1
  obtain ⟨W, hW⟩ : ∃ W, w.alloc (.cells #[.int .i64 a0, .int .i64 a1, .int .i64 a2, .int .i64 a3, .int .i64 a4, .int .i64 a5, .int .i64 a6, .int .i64 a7, .int .i64 a8] 61) = W := ⟨_, rfl⟩
  rw [hW] at hq1 hv1 t1
  obtain ⟨g0, hg0⟩ : ∃ g0, w.heap.size = g0 := ⟨_, rfl⟩
  have HG0 := Lib.hid hg0
  have HFL := Lib.hid hq.fl
  have hbg : b < g0 := by rw [← hg0]; exact hq.fl b hq.fb
  rw [hg0] at hv1
  obtain ⟨A, c, rfl, hlc, -⟩ := hq.row.form hL
  clear hq hin hL ht
  have HV1 := Lib.hid hv1
  have HT1 := Lib.hid t1
  have HQ1 := Lib.hid hq1
  have c0 : W.cell? ⟨b, 0, none⟩ = some M := cell_of_row W b 0 _ 58 (0, 0) hq1.blk
  have c1 : W.cell? ⟨b, 1, none⟩ = some (.slice A L.length c) := cell_of_row W b 1 _ 58 (0, 0) hq1.blk
  have f0 : W.frozen? ⟨b, 0, none⟩ = false := frozen_of_row W b 0 _ 58 hq1.blk
  have f1 : W.frozen? ⟨b, 1, none⟩ = false := frozen_of_row W b 1 _ 58 hq1.blk
  obtain ⟨d0, d1, d2, d3, d4, d5, d6, d7, d8⟩ := hv1.nine
  clear hq1 hv1 t1
  rcases HQ1.out.mb with ⟨rfl, hL0⟩ | ⟨m, rfl, hm⟩
  · have hmm := @run_makeMap Try.prog
    have hma := HQ1.out.made
    obtain ⟨W2, hW2⟩ : ∃ W2, (W.setCell ⟨b, 0, none⟩ (.map (some W.heap.size))).alloc (.map #[] 0) = W2 := ⟨_, rfl⟩
    rw [hW2] at hma
    have hgm : g0 < W.heap.size := HV1.out.lt
    have hbm : b < W.heap.size := by omega
    have HV2 : Hid (Vr W2 g0 [a0, a1, a2, a3, a4, a5, a6, a7, a8]) := Lib.hid (HV1.out.turn hma.2 (fun hg => by have h1 := HFL.out g0 hg; have h2 := HG0.out; omega))
    have HQ2 := Lib.hid hma.1
    have HTA : Hid (Turn F w W2) := Lib.hid ((HT1.out.more (G := F) (by simp)).trans hma.2 (fun g hg => .inl hg))
    have HFA : Hid (Foot w.heap.size F (W.heap.size :: F)) := Lib.hid (fun g hg => by
      rcases List.mem_cons.1 hg with rfl | hg
      · exact .inr (by exact HT1.out.size)
      · exact .inl hg)
    have HM : Hid (MK 61 (tKP Try.prog) Gd W2 W.heap.size L) := Lib.hid (by
      rcases hma.1.mb with ⟨e, _⟩ | ⟨m', e, h⟩
      · cases e
      · cases e; exact h)
    have k0 : W2.cell? ⟨b, 0, none⟩ = some (.map (some W.heap.size)) := cell_of_row W2 b 0 _ 58 (0, 0) hma.1.blk
    have k1 : W2.cell? ⟨b, 1, none⟩ = some (.slice A L.length c) := cell_of_row W2 b 1 _ 58 (0, 0) hma.1.blk
    obtain ⟨y0, y1, y2, y3, y4, y5, y6, y7, y8⟩ := HV2.out.nine
    clear hma hL0
    go_enter Try.func30, Try.ntmps30
    go_wp2_with fail
    go_still_tail 6, (by kernel_rfl)
    change wpList _ _ _ _ _ W2.drew
    go_wp2_with (at_mapUpdate; refine wpList_putK _ rfl (.tmp 23) (.tmp 24) (.tmp 25) rfl law61 Try.underlying46 gd_inj W.heap.size L rfl (HM.out.turn ((Turn.refl [] W2).drew) (by simp)) hl [a0, a1, a2, a3, a4, a5, a6, a7, a8] _ rfl HK.out HG.out HIN.out rfl ?_; intro w2 hm2 ht2)
    have hv2 : Vr w2 g0 [a0, a1, a2, a3, a4, a5, a6, a7, a8] := HV2.out.turn ((Turn.refl [W.heap.size] W2).drew.trans ht2 (by simp)) (by
      simp
      omega)
    have hb2 : w2.heap[b]? = some (.cells #[.map (some W.heap.size), .slice A L.length c, M2, V2] 58 (0, 0)) := ht2.heap (show W2.drew.heap[b]? = _ from HQ2.out.blk) (by simpa using (HQ2.out.mne (m := W.heap.size) rfl).1.symm)
    have k2 : w2.cell? ⟨b, 1, none⟩ = some (.slice A L.length c) := cell_of_row w2 b 1 _ 58 (0, 0) hb2
    have l1 : w2.frozen? ⟨b, 1, none⟩ = false := frozen_of_row w2 b 1 _ 58 hb2
    have hlt2 : b < w2.heap.size := (Array.getElem?_eq_some_iff.1 hb2).1
    obtain ⟨x0, x1, x2, x3, x4, x5, x6, x7, x8⟩ := hv2.nine
    have hne4 := World.new_ne w2 ⟨b, 1, none⟩ k2
    have hne5 := World.new_ne w2 ⟨g0, 0, none⟩ x0
    have HO2 : Hid (OwnT w2 (.slice A L.length c) L) := Lib.hid (Turn.owns ht2 (show W2.drew.ownsRow 0 61 9 (.slice A L.length c) L.length _ from HQ2.out.row) (fun g hg => by
      have := (HQ2.out.mne (m := W.heap.size) rfl).2.1
      simp
      intro e
      exact this (by rw [← e]; exact hg)))
    have HM2 := Lib.hid hm2
    have HT2 : Hid (Turn [W.heap.size] W2 w2) := Lib.hid ((Turn.refl [W.heap.size] W2).drew.trans ht2 (by simp))
    have HB2 := Lib.hid hb2
    clear hm2 ht2 hb2 hv2 d0 d1 d2 d3 d4 d5 d6 d7 d8 c0 c1 f0 f1 hW hW2 k0 y0 y1 y2 y3 y4 y5 y6 y7 y8
    go_region_law (refine step_appT rfl (.tmp 30) (.tmp 32) rfl _ (.slice A L.length c) L [a0, a1, a2, a3, a4, a5, a6, a7, a8] w2.heap.size 1 (by simp [Act.eval, Act.put]) (by simp [Act.eval, Act.put]) (by exact Turn.owns (((Turn.refl [] w2).alloc _).drew) HO2.out (by simp)) rfl (by exact ⟨rfl, heap_alloc_new w2 _⟩) hl ?_
                   intro v5 w5 ho5 ht5 hm5
                   obtain ⟨A5, c5, hv5, _, _⟩ := ho5.form (fun t ht => by rcases List.mem_append.1 ht with h | h; exact HLL.out t h; simp at h; subst h; rfl)
                   subst hv5
                   have hb5 := ht5.heap ((((Turn.refl [] w2).alloc _).drew).heap HB2.out (by simp)) (fun hg => (HQ2.out.vne (by simpa using hg)).1 rfl)
                   have n1 : w5.cell? ⟨b, 1, none⟩ = some (.slice A L.length c) := cell_of_row w5 b 1 _ 58 (0, 0) hb5
                   have f1 : w5.frozen? ⟨b, 1, none⟩ = false := frozen_of_row w5 b 1 _ 58 hb5
                   have HO5 := Lib.hid ho5
                   have HT5 := Lib.hid ht5
                   have HM5 := Lib.hid hm5
                   clear ho5 ht5 hm5 hb5)
    all_goals
      go_wp2_with fail
      go_ret
      have hd := TP.done HQ2.out HFA.out HTA.out HM2.out HT2.out HO5.out HT5.out HM5.out rfl
      rw [HG0.out] at hd
      exact ⟨rfl, hd⟩
  · have HM := Lib.hid hm
    clear hm
    go_enter Try.func30, Try.ntmps30
    go_wp2_with fail
    go_still_tail 6, (by kernel_rfl)
    change wpList _ _ _ _ _ W.drew
    go_wp2_with (at_mapUpdate; refine wpList_putK _ rfl (.tmp 23) (.tmp 24) (.tmp 25) rfl law61 Try.underlying46 gd_inj m L rfl (HM.out.turn ((Turn.refl [] W).drew) (by simp)) hl [a0, a1, a2, a3, a4, a5, a6, a7, a8] _ rfl HK.out HG.out HIN.out rfl ?_; intro w2 hm2 ht2)
    have hv2 : Vr w2 g0 [a0, a1, a2, a3, a4, a5, a6, a7, a8] := HV1.out.turn ((Turn.refl [m] W).drew.trans ht2 (by simp)) (by
      have := (HQ1.out.mne (m := m) rfl)
      simp
      rintro rfl
      have h1 := HFL.out g0 (HQ1.out.fm g0 rfl)
      have h2 := HG0.out
      omega)
    have hb2 : w2.heap[b]? = some (.cells #[.map (some m), .slice A L.length c, M2, V2] 58 (0, 0)) := ht2.heap (show W.drew.heap[b]? = _ from HQ1.out.blk) (by simpa using (HQ1.out.mne (m := m) rfl).1.symm)
    have k1 : w2.cell? ⟨b, 1, none⟩ = some (.slice A L.length c) := cell_of_row w2 b 1 _ 58 (0, 0) hb2
    have l1 : w2.frozen? ⟨b, 1, none⟩ = false := frozen_of_row w2 b 1 _ 58 hb2
    have hlt2 : b < w2.heap.size := (Array.getElem?_eq_some_iff.1 hb2).1
    obtain ⟨x0, x1, x2, x3, x4, x5, x6, x7, x8⟩ := hv2.nine
    have hne4 := World.new_ne w2 ⟨b, 1, none⟩ k1
    have hne5 := World.new_ne w2 ⟨g0, 0, none⟩ x0
    have HO2 : Hid (OwnT w2 (.slice A L.length c) L) := Lib.hid (Turn.owns ht2 (show W.drew.ownsRow 0 61 9 (.slice A L.length c) L.length _ from HQ1.out.row) (fun g hg => by
      have := (HQ1.out.mne (m := m) rfl).2.1
      simp
      rintro rfl
      exact this hg))
    have HM2 := Lib.hid hm2
    have HT2 : Hid (Turn [m] W w2) := Lib.hid ((Turn.refl [m] W).drew.trans ht2 (by simp))
    have HB2 := Lib.hid hb2
    clear hm2 ht2 hb2 hv2 d0 d1 d2 d3 d4 d5 d6 d7 d8 c0 c1 f0 f1 hW
    go_region_law (refine step_appT rfl (.tmp 30) (.tmp 32) rfl _ (.slice A L.length c) L [a0, a1, a2, a3, a4, a5, a6, a7, a8] w2.heap.size 1 (by simp [Act.eval, Act.put]) (by simp [Act.eval, Act.put]) (by exact Turn.owns (((Turn.refl [] w2).alloc _).drew) HO2.out (by simp)) rfl (by exact ⟨rfl, heap_alloc_new w2 _⟩) hl ?_
                   intro v5 w5 ho5 ht5 hm5
                   obtain ⟨A5, c5, hv5, _, _⟩ := ho5.form (fun t ht => by rcases List.mem_append.1 ht with h | h; exact HLL.out t h; simp at h; subst h; rfl)
                   subst hv5
                   have hb5 := ht5.heap ((((Turn.refl [] w2).alloc _).drew).heap HB2.out (by simp)) (fun hg => (HQ1.out.vne (by simpa using hg)).1 rfl)
                   have n1 : w5.cell? ⟨b, 1, none⟩ = some (.slice A L.length c) := cell_of_row w5 b 1 _ 58 (0, 0) hb5
                   have f1 : w5.frozen? ⟨b, 1, none⟩ = false := frozen_of_row w5 b 1 _ 58 hb5
                   have HO5 := Lib.hid ho5
                   have HT5 := Lib.hid ht5
                   have HM5 := Lib.hid hm5
                   clear ho5 ht5 hm5 hb5)
    all_goals
      go_wp2_with fail
      go_ret
      have hd := TP.done HQ1.out (Foot.refl w.heap.size _) (HT1.out.more (by simp)) HM2.out HT2.out HO5.out HT5.out HM5.out rfl
      rw [HG0.out] at hd
      exact ⟨rfl, hd⟩
end Go.Proofs.Ytepkpllfdfbmiaa
