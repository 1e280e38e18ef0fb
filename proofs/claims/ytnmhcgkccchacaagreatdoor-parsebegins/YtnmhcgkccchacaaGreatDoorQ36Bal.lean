import Derived.Test.YtnmhcgkccchacaaGreatDoorQ02Nm
import Derived.Test.YtnmhcgkccchacaaGreatDoorQ34REn
import Derived.Test.YtnmhcgkccchacaaGreatDoorQ35RPl
import Derived.Test.YtnmhcgkccchacaaGreatDoorQ08Eit
import Derived.Test.YtnmhcgkccchacaaGreatDoorQ09Whp
import Derived.Deep.DeepCutAuto

/- What the plain parser takes off the tokens has braces that match and no "main"; of two programs' tokens, none is a proper beginning of the other. Printed by mkbal.py. -/
set_option linter.unusedSimpArgs false
set_option linter.unusedVariables false
set_option maxRecDepth 100000
namespace Go.Proofs.YtnmhcgkccchacaaGreatDoor
open Go.RowKit

/-- Neither a brace nor "main". -/
def neuB (t : List UInt8) : Bool := !(t == [123]) && !(t == [125]) && !(t == kMain)
/-- How deep braces stand behind some texts; none: one is shut that isn't open, or "main" stands outside. -/
def scan : Nat → List (List UInt8) → Option Nat
  | d, [] => some d
  | d, t :: r => if t = [123] then scan (d + 1) r else if t = [125] then (match d with | 0 => none | d + 1 => scan d r) else if t = kMain ∧ d = 0 then none else scan d r
theorem scan_cons (d : Nat) (t : List UInt8) (r : List (List UInt8)) : scan d (t :: r) = if t = [123] then scan (d + 1) r else if t = [125] then (match d with | 0 => none | d + 1 => scan d r) else if t = kMain ∧ d = 0 then none else scan d r := rfl
theorem scan_append : ∀ (a b : List (List UInt8)) (d : Nat), scan d (a ++ b) = (scan d a).bind (fun d => scan d b)
  | [], b, d => rfl
  | t :: a, b, d => by
    rw [List.cons_append, scan_cons, scan_cons]
    by_cases h1 : t = [123]
    · rw [if_pos h1, if_pos h1]
      exact scan_append a b _
    rw [if_neg h1, if_neg h1]
    by_cases h2 : t = [125]
    · rw [if_pos h2, if_pos h2]
      cases d with
      | zero => rfl
      | succ d => exact scan_append a b d
    rw [if_neg h2, if_neg h2]
    by_cases h3 : t = kMain ∧ d = 0
    · rw [if_pos h3, if_pos h3]
      rfl
    · rw [if_neg h3, if_neg h3]
      exact scan_append a b d
def Ba (u : List (List UInt8)) : Prop := ∀ d, scan d u = some d
theorem ba_nil : Ba [] := fun d => rfl
theorem Ba.app {u v : List (List UInt8)} (h : Ba u) (k : Ba v) : Ba (u ++ v) := fun d => by rw [scan_append, h d]; exact k d
theorem ba_one {t : List UInt8} (h : neuB t = true) : Ba [t] := fun d => by
  unfold neuB at h
  rw [Bool.and_eq_true, Bool.and_eq_true] at h
  simp only [Bool.not_eq_true', beq_eq_false_iff_ne] at h
  unfold scan
  rw [if_neg h.1.1, if_neg h.1.2, if_neg (fun q => h.2 q.1)]
  rfl
theorem ba_br {u : List (List UInt8)} (h : Ba u) : Ba ([123] :: (u ++ [[125]])) := fun d => by
  unfold scan
  rw [if_pos rfl, scan_append, h (d + 1)]
  show scan (d + 1) [[125]] = some d
  unfold scan
  rw [if_neg (by decide), if_pos rfl]
  rfl

def txs (l : List Tok) : List (List UInt8) := l.map (·.text)
/-- Numbers aren't braces. -/
def Wt (l : List Tok) : Prop := ∀ t ∈ l, t.kind = 1 → neuB t.text = true
def Bl (s s' : RS) : Prop := Wt s.l → Wt s'.l ∧ (s.e ≠ 0 → s'.e ≠ 0) ∧ (s'.e = 0 → ∃ u, txs s.l = u ++ txs s'.l ∧ Ba u)
theorem Bl.refl (s : RS) : Bl s s := fun h => ⟨h, fun e => e, fun _ => ⟨[], rfl, ba_nil⟩⟩
theorem Bl.trans {a b c : RS} (h : Bl a b) (k : Bl b c) : Bl a c := fun hw => by
  obtain ⟨w1, m1, u1⟩ := h hw
  obtain ⟨w2, m2, u2⟩ := k w1
  refine ⟨w2, fun e => m2 (m1 e), fun e => ?_⟩
  obtain ⟨v, ev, bv⟩ := u2 e
  have hb : b.e = 0 := by
    by_cases hb : b.e = 0
    · exact hb
    · exact absurd e (m2 hb)
  obtain ⟨u, eu, bu⟩ := u1 hb
  exact ⟨u ++ v, by rw [eu, ev, List.append_assoc], bu.app bv⟩
theorem nm_neu {t : List UInt8} (h : isNm t = true) : neuB t = true := by
  have h1 : isNm [123] = false := by decide +kernel
  have h2 : isNm [125] = false := by decide +kernel
  have h3 : isNm kMain = false := by decide +kernel
  unfold neuB
  rw [Bool.and_eq_true, Bool.and_eq_true]
  simp only [Bool.not_eq_true', beq_eq_false_iff_ne]
  refine ⟨⟨fun e => ?_, fun e => ?_⟩, fun e => ?_⟩
  · rw [e, h1] at h; cases h
  · rw [e, h2] at h; cases h
  · rw [e, h3] at h; cases h
section
variable {en : Nat × Nat} {s a : RS}
theorem refuse_bl0 (x : Nat) (hx : x ≠ 0) (a : RS) : Wt (refuse en x a).l ∧ (refuse en x a).e ≠ 0 := by
  unfold refuse
  split
  · exact ⟨(fun t h => by cases h), hx⟩
  · rename_i h
    exact ⟨(fun t h => by cases h), h⟩
theorem refuse_bl (x : Nat) (hx : x ≠ 0) (h : Bl s a) : Bl s (refuse en x a) := h.trans fun _ =>
  ⟨(refuse_bl0 x hx a).1, fun _ => (refuse_bl0 x hx a).2, fun e => absurd e (refuse_bl0 x hx a).2⟩
theorem room_bl (b : Bool) (h : Bl s a) : Bl s (room b a) := h.trans (Bl.refl a)
theorem pass_bl0 (a : RS) (hn : ∀ t r, a.l = t :: r → Wt a.l → neuB t.text = true) : Bl a (pass en a).2 := by
  unfold pass
  split
  · exact refuse_bl 13 (by decide) (Bl.refl a)
  · split
    · exact Bl.refl a
    · rename_i t r e
      intro hw
      have hr : Wt r := fun q hq => hw q (by rw [e]; exact List.mem_cons_of_mem _ hq)
      exact ⟨hr, fun h => h, fun _ => ⟨[t.text], by rw [e]; rfl, ba_one (hn t r e hw)⟩⟩
theorem sees_text {t : List UInt8} {u : Tok} {r : List Tok} (h : sees t a = true) (e : a.l = u :: r) : u.text = t := by
  unfold sees at h
  rw [e] at h
  simpa using h
theorem skip_bl (t : List UInt8) (ht : neuB t = true) (h : Bl s a) : Bl s (skip en t a).2 := by
  refine h.trans ?_
  unfold skip
  split
  · rename_i hs
    exact pass_bl0 a (fun u r e _ => by rw [sees_text hs e]; exact ht)
  · exact Bl.refl a
theorem take_bl (t : List UInt8) (ht : neuB t = true) (h : Bl s a) : Bl s (take en t a) := by
  refine h.trans ?_
  unfold take
  split
  · rename_i hs
    exact pass_bl0 a (fun u r e _ => by rw [sees_text hs e]; exact ht)
  · exact refuse_bl 10 (by decide) (Bl.refl a)
theorem takes_bl : ∀ (ts : List (List UInt8)) {a : RS}, ts.all neuB = true → Bl s a → Bl s (takes en ts a)
  | [], a, _, h => h
  | t :: ts, a, ht, h => by
    rw [List.all_cons, Bool.and_eq_true] at ht
    exact takes_bl ts ht.2 (take_bl t ht.1 h)
theorem name_bl (h : Bl s a) : Bl s (name en a).2 := by
  refine h.trans ?_
  unfold name
  split
  · rename_i hs
    refine pass_bl0 a (fun u r e _ => nm_neu ?_)
    unfold seesName at hs
    rw [e] at hs
    exact hs
  · exact refuse_bl 10 (by decide) (Bl.refl a)
theorem pass_num_bl (hs : seesNum a = true) (h : Bl s a) : Bl s (pass en a).2 := by
  refine h.trans (pass_bl0 a (fun u r e hw => ?_))
  unfold seesNum at hs
  rw [e] at hs
  exact hw u (by rw [e]; exact List.mem_cons_self) (by simpa using hs)
/-- A brace is taken. -/
theorem brace_facts (t : List UInt8) (a : RS) (hw : Wt a.l) : Wt (take en t a).l ∧ (a.e ≠ 0 → (take en t a).e ≠ 0) ∧ ((take en t a).e = 0 → txs a.l = t :: txs (take en t a).l) := by
  unfold take
  split
  · rename_i hs
    unfold pass
    split
    · exact ⟨(refuse_bl0 13 (by decide) a).1, fun _ => (refuse_bl0 13 (by decide) a).2, fun e => absurd e (refuse_bl0 13 (by decide) a).2⟩
    · split
      · rename_i e
        unfold sees at hs
        rw [e] at hs
        cases hs
      · rename_i u r e
        refine ⟨fun q hq => hw q (by rw [e]; exact List.mem_cons_of_mem _ hq), fun h => h, fun _ => ?_⟩
        rw [e, ← sees_text hs e]
        rfl
  · exact ⟨(refuse_bl0 10 (by decide) a).1, fun _ => (refuse_bl0 10 (by decide) a).2, fun e => absurd e (refuse_bl0 10 (by decide) a).2⟩
theorem braces_bl {b : RS} (h : Bl s a) (k : Bl (take en [123] a) b) : Bl s (take en [125] b) := by
  refine h.trans fun hw => ?_
  obtain ⟨w1, m1, t1⟩ := brace_facts (en := en) [123] a hw
  obtain ⟨w2, m2, u2⟩ := k w1
  obtain ⟨w3, m3, t3⟩ := brace_facts (en := en) [125] b w2
  refine ⟨w3, fun e => m3 (m2 (m1 e)), fun e => ?_⟩
  have hb : b.e = 0 := by
    by_cases hb : b.e = 0
    · exact hb
    · exact absurd e (m3 hb)
  have ha : (take en [123] a).e = 0 := by
    by_cases ha : (take en [123] a).e = 0
    · exact ha
    · exact absurd hb (m2 ha)
  obtain ⟨u, eu, bu⟩ := u2 hb
  refine ⟨[123] :: (u ++ [[125]]), ?_, ba_br bu⟩
  rw [t1 ha, eu, t3 e]
  simp
theorem many_bl {α : Type} {begins : RS → Bool} {thing : RS → α × RS} (ht : ∀ s, Bl s (thing s).2) (most : Nat) : ∀ (n : Nat) (acc : List α) {a : RS}, Bl s a → Bl s (many begins thing most n acc a).2
  | 0, acc, a, h => h
  | n + 1, acc, a, h => by
    unfold many
    split
    · exact many_bl ht most n _ ((room_bl _ h).trans (ht _))
    · exact h
theorem series_bl {α : Type} {thing : RS → α × RS} (ht : ∀ s, Bl s (thing s).2) : ∀ (n : Nat) (acc : List α) {a : RS}, Bl s a → Bl s (series en thing n acc a).2
  | 0, acc, a, h => h
  | n + 1, acc, a, h => by
    unfold series
    dsimp only
    split
    · exact series_bl ht n _ (skip_bl _ (by decide) ((room_bl _ h).trans (ht _)))
    · exact skip_bl _ (by decide) ((room_bl _ h).trans (ht _))

theorem thingType_bl (h : Bl s a) : Bl s (thingType en a).2 := by
  unfold thingType
  (try dsimp only)
  (repeat' split)
  all_goals (repeat (first | with_reducible assumption | with_reducible exact Bl.refl _ | decide | with_reducible apply pass_num_bl | with_reducible apply refuse_bl | with_reducible apply room_bl | with_reducible apply skip_bl | with_reducible apply take_bl | with_reducible apply takes_bl | with_reducible apply name_bl))

theorem anyType_bl (h : Bl s a) : Bl s (anyType en a).2 := by
  unfold anyType
  (try dsimp only)
  (repeat' split)
  all_goals (repeat (first | with_reducible assumption | with_reducible exact Bl.refl _ | decide | with_reducible apply pass_num_bl | with_reducible apply refuse_bl | with_reducible apply room_bl | with_reducible apply skip_bl | with_reducible apply take_bl | with_reducible apply takes_bl | with_reducible apply name_bl | with_reducible apply thingType_bl))

theorem answer_bl (h : Bl s a) : Bl s (answer en a).2 := by
  unfold answer
  (try dsimp only)
  (repeat' split)
  all_goals (repeat (first | with_reducible assumption | with_reducible exact Bl.refl _ | decide | with_reducible apply pass_num_bl | with_reducible apply refuse_bl | with_reducible apply room_bl | with_reducible apply skip_bl | with_reducible apply take_bl | with_reducible apply takes_bl | with_reducible apply name_bl | with_reducible apply thingType_bl | with_reducible apply anyType_bl))

theorem variable_bl (h : Bl s a) : Bl s (variable' en a).2 := by
  unfold variable'
  (try dsimp only)
  (repeat' split)
  all_goals (repeat (first | with_reducible assumption | with_reducible exact Bl.refl _ | decide | with_reducible apply pass_num_bl | with_reducible apply refuse_bl | with_reducible apply room_bl | with_reducible apply skip_bl | with_reducible apply take_bl | with_reducible apply takes_bl | with_reducible apply name_bl | with_reducible apply thingType_bl | with_reducible apply anyType_bl | with_reducible apply answer_bl))

theorem declared_bl (w : List UInt8) (hw : neuB w = true) (h : Bl s a) : Bl s (declared en w a).2 := by
  unfold declared
  (try dsimp only)
  (repeat' split)
  all_goals (repeat (first | with_reducible assumption | with_reducible exact Bl.refl _ | decide | with_reducible apply pass_num_bl | with_reducible apply refuse_bl | with_reducible apply room_bl | with_reducible apply skip_bl | with_reducible apply take_bl | with_reducible apply takes_bl | with_reducible apply name_bl | with_reducible apply thingType_bl | with_reducible apply anyType_bl | with_reducible apply answer_bl | with_reducible apply variable_bl))

theorem namesL_bl (h : Bl s a) : Bl s (namesL en a).2 := series_bl (fun s => name_bl (Bl.refl s)) _ _ h

theorem varsL_bl (h : Bl s a) : Bl s (varsL en a).2 := series_bl (fun s => variable_bl (Bl.refl s)) _ _ h

theorem faces_bl (w : List UInt8) (hw : neuB w = true) (h : Bl s a) : Bl s (faces en w a).2 := by
  unfold faces
  (try dsimp only)
  (repeat' split)
  all_goals (repeat (first | with_reducible assumption | with_reducible exact Bl.refl _ | decide | with_reducible apply pass_num_bl | with_reducible apply refuse_bl | with_reducible apply room_bl | with_reducible apply skip_bl | with_reducible apply take_bl | with_reducible apply takes_bl | with_reducible apply name_bl | with_reducible apply thingType_bl | with_reducible apply anyType_bl | with_reducible apply answer_bl | with_reducible apply variable_bl | with_reducible apply declared_bl | with_reducible apply namesL_bl | with_reducible apply varsL_bl))

theorem called_bl (p : Sf) (d : Int) (h : Bl s a) : Bl s (called en p d a).2.2 := by
  unfold called
  (try dsimp only)
  (repeat' split)
  all_goals (repeat (first | with_reducible assumption | with_reducible exact Bl.refl _ | decide | with_reducible apply pass_num_bl | with_reducible apply refuse_bl | with_reducible apply room_bl | with_reducible apply skip_bl | with_reducible apply take_bl | with_reducible apply takes_bl | with_reducible apply name_bl | with_reducible apply thingType_bl | with_reducible apply anyType_bl | with_reducible apply answer_bl | with_reducible apply variable_bl | with_reducible apply declared_bl | with_reducible apply namesL_bl | with_reducible apply varsL_bl | with_reducible apply faces_bl))

theorem ofVariable_bl (p : Sf) (nm : ByteArray) (h : Bl s a) : Bl s (ofVariable en p nm a).2 := by
  unfold ofVariable
  (try dsimp only)
  (repeat' split)
  all_goals (repeat (first | with_reducible assumption | with_reducible exact Bl.refl _ | decide | with_reducible apply pass_num_bl | with_reducible apply refuse_bl | with_reducible apply room_bl | with_reducible apply skip_bl | with_reducible apply take_bl | with_reducible apply takes_bl | with_reducible apply name_bl | with_reducible apply thingType_bl | with_reducible apply anyType_bl | with_reducible apply answer_bl | with_reducible apply variable_bl | with_reducible apply declared_bl | with_reducible apply namesL_bl | with_reducible apply varsL_bl | with_reducible apply faces_bl | with_reducible apply called_bl))

theorem put_bl (p : Sf) (d : Int) (h : Bl s a) : Bl s (put en p d a).2 := by
  unfold put
  (try dsimp only)
  (repeat' split)
  all_goals (repeat (first | with_reducible assumption | with_reducible exact Bl.refl _ | decide | with_reducible apply pass_num_bl | with_reducible apply refuse_bl | with_reducible apply room_bl | with_reducible apply skip_bl | with_reducible apply take_bl | with_reducible apply takes_bl | with_reducible apply name_bl | with_reducible apply thingType_bl | with_reducible apply anyType_bl | with_reducible apply answer_bl | with_reducible apply variable_bl | with_reducible apply declared_bl | with_reducible apply namesL_bl | with_reducible apply varsL_bl | with_reducible apply faces_bl | with_reducible apply called_bl | with_reducible apply ofVariable_bl))

theorem made_bl (p : Sf) (h : Bl s a) : Bl s (made en p a).2 := by
  unfold made
  (try dsimp only)
  (repeat' split)
  all_goals (repeat (first | with_reducible assumption | with_reducible exact Bl.refl _ | decide | with_reducible apply pass_num_bl | with_reducible apply refuse_bl | with_reducible apply room_bl | with_reducible apply skip_bl | with_reducible apply take_bl | with_reducible apply takes_bl | with_reducible apply name_bl | with_reducible apply thingType_bl | with_reducible apply anyType_bl | with_reducible apply answer_bl | with_reducible apply variable_bl | with_reducible apply declared_bl | with_reducible apply namesL_bl | with_reducible apply varsL_bl | with_reducible apply faces_bl | with_reducible apply called_bl | with_reducible apply ofVariable_bl | with_reducible apply put_bl))

theorem worked_bl (p : Sf) (nm : ByteArray) (h : Bl s a) : Bl s (worked en p nm a).2 := by
  unfold worked
  (try dsimp only)
  (repeat' split)
  all_goals (repeat (first | with_reducible assumption | with_reducible exact Bl.refl _ | decide | with_reducible apply pass_num_bl | with_reducible apply refuse_bl | with_reducible apply room_bl | with_reducible apply skip_bl | with_reducible apply take_bl | with_reducible apply takes_bl | with_reducible apply name_bl | with_reducible apply thingType_bl | with_reducible apply anyType_bl | with_reducible apply answer_bl | with_reducible apply variable_bl | with_reducible apply declared_bl | with_reducible apply namesL_bl | with_reducible apply varsL_bl | with_reducible apply faces_bl | with_reducible apply called_bl | with_reducible apply ofVariable_bl | with_reducible apply put_bl | with_reducible apply made_bl))

theorem value_bl (p : Sf) (h : Bl s a) : Bl s (value en p a).2 := by
  unfold value
  (try dsimp only)
  (repeat' split)
  all_goals (repeat (first | with_reducible assumption | with_reducible exact Bl.refl _ | decide | with_reducible apply pass_num_bl | with_reducible apply refuse_bl | with_reducible apply room_bl | with_reducible apply skip_bl | with_reducible apply take_bl | with_reducible apply takes_bl | with_reducible apply name_bl | with_reducible apply thingType_bl | with_reducible apply anyType_bl | with_reducible apply answer_bl | with_reducible apply variable_bl | with_reducible apply declared_bl | with_reducible apply namesL_bl | with_reducible apply varsL_bl | with_reducible apply faces_bl | with_reducible apply called_bl | with_reducible apply ofVariable_bl | with_reducible apply put_bl | with_reducible apply made_bl | with_reducible apply worked_bl))

theorem named_bl (p : Sf) (h : Bl s a) : Bl s (named en p a).2 := by
  unfold named
  (try dsimp only)
  (repeat' split)
  all_goals (repeat (first | with_reducible assumption | with_reducible exact Bl.refl _ | decide | with_reducible apply pass_num_bl | with_reducible apply refuse_bl | with_reducible apply room_bl | with_reducible apply skip_bl | with_reducible apply take_bl | with_reducible apply takes_bl | with_reducible apply name_bl | with_reducible apply thingType_bl | with_reducible apply anyType_bl | with_reducible apply answer_bl | with_reducible apply variable_bl | with_reducible apply declared_bl | with_reducible apply namesL_bl | with_reducible apply varsL_bl | with_reducible apply faces_bl | with_reducible apply called_bl | with_reducible apply ofVariable_bl | with_reducible apply put_bl | with_reducible apply made_bl | with_reducible apply worked_bl | with_reducible apply value_bl))

theorem back_bl (p : Sf) (h : Bl s a) : Bl s (back en p a).2 := by
  unfold back
  (try dsimp only)
  (repeat' split)
  all_goals (repeat (first | with_reducible assumption | with_reducible exact Bl.refl _ | decide | with_reducible apply pass_num_bl | with_reducible apply refuse_bl | with_reducible apply room_bl | with_reducible apply skip_bl | with_reducible apply take_bl | with_reducible apply takes_bl | with_reducible apply name_bl | with_reducible apply thingType_bl | with_reducible apply anyType_bl | with_reducible apply answer_bl | with_reducible apply variable_bl | with_reducible apply declared_bl | with_reducible apply namesL_bl | with_reducible apply varsL_bl | with_reducible apply faces_bl | with_reducible apply called_bl | with_reducible apply ofVariable_bl | with_reducible apply put_bl | with_reducible apply made_bl | with_reducible apply worked_bl | with_reducible apply value_bl | with_reducible apply named_bl))

theorem less_bl (p : Sf) (h : Bl s a) : Bl s (less en p a).2 := by
  unfold less
  (try dsimp only)
  (repeat' split)
  all_goals (repeat (first | with_reducible assumption | with_reducible exact Bl.refl _ | decide | with_reducible apply pass_num_bl | with_reducible apply refuse_bl | with_reducible apply room_bl | with_reducible apply skip_bl | with_reducible apply take_bl | with_reducible apply takes_bl | with_reducible apply name_bl | with_reducible apply thingType_bl | with_reducible apply anyType_bl | with_reducible apply answer_bl | with_reducible apply variable_bl | with_reducible apply declared_bl | with_reducible apply namesL_bl | with_reducible apply varsL_bl | with_reducible apply faces_bl | with_reducible apply called_bl | with_reducible apply ofVariable_bl | with_reducible apply put_bl | with_reducible apply made_bl | with_reducible apply worked_bl | with_reducible apply value_bl | with_reducible apply named_bl | with_reducible apply back_bl))

theorem stmtsW_bl {st : RS → St × RS} (hs : ∀ s, Bl s (st s).2) (h : Bl s a) : Bl s (stmtsW st a).2 := many_bl hs _ _ _ h
theorem deep_bl (n : Nat) (h : Bl s a) : Bl s { a with deep := n } := h.trans (Bl.refl a)
theorem deep_bl' (n : Nat) (h : Bl { s with deep := n } a) : Bl s a := (Bl.refl s).trans h
theorem nestedW_bl {st : RS → St × RS} (hs : ∀ s, Bl s (st s).2) (h : Bl s a) : Bl s (nestedW en st a).2 := by
  unfold nestedW
  dsimp only
  refine braces_bl (a := room (decide (8 ≤ a.deep)) a) (room_bl _ h) (deep_bl _ ?_)
  exact deep_bl' _ (stmtsW_bl hs (Bl.refl _))

theorem tryW_bl {st : RS → St × RS} (hs : ∀ s, Bl s (st s).2) (p : Sf) (h : Bl s a) : Bl s (tryW en st p a).2 := by
  unfold tryW
  (try dsimp only)
  (repeat' split)
  all_goals (repeat (first | with_reducible assumption | with_reducible exact Bl.refl _ | decide | with_reducible apply nestedW_bl hs | with_reducible apply pass_num_bl | with_reducible apply refuse_bl | with_reducible apply room_bl | with_reducible apply skip_bl | with_reducible apply take_bl | with_reducible apply takes_bl | with_reducible apply name_bl | with_reducible apply thingType_bl | with_reducible apply anyType_bl | with_reducible apply answer_bl | with_reducible apply variable_bl | with_reducible apply declared_bl | with_reducible apply namesL_bl | with_reducible apply varsL_bl | with_reducible apply faces_bl | with_reducible apply called_bl | with_reducible apply ofVariable_bl | with_reducible apply put_bl | with_reducible apply made_bl | with_reducible apply worked_bl | with_reducible apply value_bl | with_reducible apply named_bl | with_reducible apply back_bl | with_reducible apply less_bl))

theorem choiceW_bl {st : RS → St × RS} (hs : ∀ s, Bl s (st s).2) (p : Sf) (h : Bl s a) : Bl s (choiceW en st p a).2 := by
  unfold choiceW
  (try dsimp only)
  (repeat' split)
  all_goals (repeat (first | with_reducible assumption | with_reducible exact Bl.refl _ | decide | with_reducible apply nestedW_bl hs | with_reducible apply pass_num_bl | with_reducible apply refuse_bl | with_reducible apply room_bl | with_reducible apply skip_bl | with_reducible apply take_bl | with_reducible apply takes_bl | with_reducible apply name_bl | with_reducible apply thingType_bl | with_reducible apply anyType_bl | with_reducible apply answer_bl | with_reducible apply variable_bl | with_reducible apply declared_bl | with_reducible apply namesL_bl | with_reducible apply varsL_bl | with_reducible apply faces_bl | with_reducible apply called_bl | with_reducible apply ofVariable_bl | with_reducible apply put_bl | with_reducible apply made_bl | with_reducible apply worked_bl | with_reducible apply value_bl | with_reducible apply named_bl | with_reducible apply back_bl | with_reducible apply less_bl))

theorem loopW_bl {st : RS → St × RS} (hs : ∀ s, Bl s (st s).2) (p : Sf) (h : Bl s a) : Bl s (loopW en st p a).2 := by
  unfold loopW
  (try dsimp only)
  (repeat' split)
  all_goals (repeat (first | with_reducible assumption | with_reducible exact Bl.refl _ | decide | with_reducible apply nestedW_bl hs | with_reducible apply pass_num_bl | with_reducible apply refuse_bl | with_reducible apply room_bl | with_reducible apply skip_bl | with_reducible apply take_bl | with_reducible apply takes_bl | with_reducible apply name_bl | with_reducible apply thingType_bl | with_reducible apply anyType_bl | with_reducible apply answer_bl | with_reducible apply variable_bl | with_reducible apply declared_bl | with_reducible apply namesL_bl | with_reducible apply varsL_bl | with_reducible apply faces_bl | with_reducible apply called_bl | with_reducible apply ofVariable_bl | with_reducible apply put_bl | with_reducible apply made_bl | with_reducible apply worked_bl | with_reducible apply value_bl | with_reducible apply named_bl | with_reducible apply back_bl | with_reducible apply less_bl))

theorem stmtF_bl {st : RS → St × RS} (hs : ∀ s, Bl s (st s).2) (h : Bl s a) : Bl s (stmtF en st a).2 := by
  unfold stmtF
  dsimp only
  (repeat' split)
  all_goals (repeat (first | with_reducible assumption | with_reducible exact Bl.refl _ | decide | with_reducible apply tryW_bl hs | with_reducible apply choiceW_bl hs | with_reducible apply loopW_bl hs | with_reducible apply pass_num_bl | with_reducible apply refuse_bl | with_reducible apply room_bl | with_reducible apply skip_bl | with_reducible apply take_bl | with_reducible apply takes_bl | with_reducible apply name_bl | with_reducible apply thingType_bl | with_reducible apply anyType_bl | with_reducible apply answer_bl | with_reducible apply variable_bl | with_reducible apply declared_bl | with_reducible apply namesL_bl | with_reducible apply varsL_bl | with_reducible apply faces_bl | with_reducible apply called_bl | with_reducible apply ofVariable_bl | with_reducible apply put_bl | with_reducible apply made_bl | with_reducible apply worked_bl | with_reducible apply value_bl | with_reducible apply named_bl | with_reducible apply back_bl | with_reducible apply less_bl))
theorem stmtN_bl : ∀ (n : Nat) (s : RS), Bl s (stmtN en n s).2
  | 0, s => Bl.refl s
  | n + 1, s => stmtF_bl (stmtN_bl n) (Bl.refl s)
theorem stmt_bl (h : Bl s a) : Bl s (stmt en a).2 := h.trans (stmtN_bl 10 a)
theorem stmts_bl (h : Bl s a) : Bl s (stmtsW (stmt en) a).2 := stmtsW_bl (fun s => stmt_bl (Bl.refl s)) h

theorem manyD_bl (w : List UInt8) (hw : neuB w = true) (f : RS → Bool) (m n : Nat) (acc : List Vf) (h : Bl s a) : Bl s (many f (declared en w) m n acc a).2 := many_bl (fun s => declared_bl w hw (Bl.refl s)) _ _ _ h
theorem block_bl (m : Mf) (h : Bl s a) : Bl s (block en m a).2 := by
  unfold block
  dsimp only
  exact braces_bl h (stmts_bl (manyD_bl _ (by decide) _ _ _ _ (Bl.refl _)))

theorem head_bl (m : Mf) (h : Bl s a) : Bl s (head en m a).2 := by
  unfold head
  (try dsimp only)
  (repeat' split)
  all_goals (repeat (first | with_reducible assumption | with_reducible exact Bl.refl _ | decide | with_reducible apply pass_num_bl | with_reducible apply refuse_bl | with_reducible apply room_bl | with_reducible apply skip_bl | with_reducible apply take_bl | with_reducible apply takes_bl | with_reducible apply name_bl | with_reducible apply thingType_bl | with_reducible apply anyType_bl | with_reducible apply answer_bl | with_reducible apply variable_bl | with_reducible apply declared_bl | with_reducible apply namesL_bl | with_reducible apply varsL_bl | with_reducible apply faces_bl | with_reducible apply called_bl | with_reducible apply ofVariable_bl | with_reducible apply put_bl | with_reducible apply made_bl | with_reducible apply worked_bl | with_reducible apply value_bl | with_reducible apply named_bl | with_reducible apply back_bl | with_reducible apply less_bl | with_reducible apply stmt_bl | with_reducible apply stmts_bl | with_reducible apply manyD_bl | with_reducible apply block_bl))

theorem signature_bl (h : Bl s a) : Bl s (signature en a).2 := by
  unfold signature
  (try dsimp only)
  (repeat' split)
  all_goals (repeat (first | with_reducible assumption | with_reducible exact Bl.refl _ | decide | with_reducible apply pass_num_bl | with_reducible apply refuse_bl | with_reducible apply room_bl | with_reducible apply skip_bl | with_reducible apply take_bl | with_reducible apply takes_bl | with_reducible apply name_bl | with_reducible apply thingType_bl | with_reducible apply anyType_bl | with_reducible apply answer_bl | with_reducible apply variable_bl | with_reducible apply declared_bl | with_reducible apply namesL_bl | with_reducible apply varsL_bl | with_reducible apply faces_bl | with_reducible apply called_bl | with_reducible apply ofVariable_bl | with_reducible apply put_bl | with_reducible apply made_bl | with_reducible apply worked_bl | with_reducible apply value_bl | with_reducible apply named_bl | with_reducible apply back_bl | with_reducible apply less_bl | with_reducible apply stmt_bl | with_reducible apply stmts_bl | with_reducible apply manyD_bl | with_reducible apply block_bl | with_reducible apply head_bl))

theorem method_bl (h : Bl s a) : Bl s (method en a).2 := by
  unfold method
  (try dsimp only)
  (repeat' split)
  all_goals (repeat (first | with_reducible assumption | with_reducible exact Bl.refl _ | decide | with_reducible apply pass_num_bl | with_reducible apply refuse_bl | with_reducible apply room_bl | with_reducible apply skip_bl | with_reducible apply take_bl | with_reducible apply takes_bl | with_reducible apply name_bl | with_reducible apply thingType_bl | with_reducible apply anyType_bl | with_reducible apply answer_bl | with_reducible apply variable_bl | with_reducible apply declared_bl | with_reducible apply namesL_bl | with_reducible apply varsL_bl | with_reducible apply faces_bl | with_reducible apply called_bl | with_reducible apply ofVariable_bl | with_reducible apply put_bl | with_reducible apply made_bl | with_reducible apply worked_bl | with_reducible apply value_bl | with_reducible apply named_bl | with_reducible apply back_bl | with_reducible apply less_bl | with_reducible apply stmt_bl | with_reducible apply stmts_bl | with_reducible apply manyD_bl | with_reducible apply block_bl | with_reducible apply head_bl | with_reducible apply signature_bl))

theorem routine_bl (w : List UInt8) (hw : neuB w = true) (h : Bl s a) : Bl s (routine en w a).2 := by
  unfold routine
  (try dsimp only)
  (repeat' split)
  all_goals (repeat (first | with_reducible assumption | with_reducible exact Bl.refl _ | decide | with_reducible apply pass_num_bl | with_reducible apply refuse_bl | with_reducible apply room_bl | with_reducible apply skip_bl | with_reducible apply take_bl | with_reducible apply takes_bl | with_reducible apply name_bl | with_reducible apply thingType_bl | with_reducible apply anyType_bl | with_reducible apply answer_bl | with_reducible apply variable_bl | with_reducible apply declared_bl | with_reducible apply namesL_bl | with_reducible apply varsL_bl | with_reducible apply faces_bl | with_reducible apply called_bl | with_reducible apply ofVariable_bl | with_reducible apply put_bl | with_reducible apply made_bl | with_reducible apply worked_bl | with_reducible apply value_bl | with_reducible apply named_bl | with_reducible apply back_bl | with_reducible apply less_bl | with_reducible apply stmt_bl | with_reducible apply stmts_bl | with_reducible apply manyD_bl | with_reducible apply block_bl | with_reducible apply head_bl | with_reducible apply signature_bl | with_reducible apply method_bl))

theorem setup_bl (c : Cf) (h : Bl s a) : Bl s (setup en c a).2 := by
  unfold setup
  (try dsimp only)
  (repeat' split)
  all_goals (repeat (first | with_reducible assumption | with_reducible exact Bl.refl _ | decide | with_reducible apply pass_num_bl | with_reducible apply refuse_bl | with_reducible apply room_bl | with_reducible apply skip_bl | with_reducible apply take_bl | with_reducible apply takes_bl | with_reducible apply name_bl | with_reducible apply thingType_bl | with_reducible apply anyType_bl | with_reducible apply answer_bl | with_reducible apply variable_bl | with_reducible apply declared_bl | with_reducible apply namesL_bl | with_reducible apply varsL_bl | with_reducible apply faces_bl | with_reducible apply called_bl | with_reducible apply ofVariable_bl | with_reducible apply put_bl | with_reducible apply made_bl | with_reducible apply worked_bl | with_reducible apply value_bl | with_reducible apply named_bl | with_reducible apply back_bl | with_reducible apply less_bl | with_reducible apply stmt_bl | with_reducible apply stmts_bl | with_reducible apply manyD_bl | with_reducible apply block_bl | with_reducible apply head_bl | with_reducible apply signature_bl | with_reducible apply method_bl | with_reducible apply routine_bl))

theorem member_bl (c : Cf) (h : Bl s a) : Bl s (member en c a).2 := by
  unfold member
  (try dsimp only)
  (repeat' split)
  all_goals (repeat (first | with_reducible assumption | with_reducible exact Bl.refl _ | decide | with_reducible apply pass_num_bl | with_reducible apply refuse_bl | with_reducible apply room_bl | with_reducible apply skip_bl | with_reducible apply take_bl | with_reducible apply takes_bl | with_reducible apply name_bl | with_reducible apply thingType_bl | with_reducible apply anyType_bl | with_reducible apply answer_bl | with_reducible apply variable_bl | with_reducible apply declared_bl | with_reducible apply namesL_bl | with_reducible apply varsL_bl | with_reducible apply faces_bl | with_reducible apply called_bl | with_reducible apply ofVariable_bl | with_reducible apply put_bl | with_reducible apply made_bl | with_reducible apply worked_bl | with_reducible apply value_bl | with_reducible apply named_bl | with_reducible apply back_bl | with_reducible apply less_bl | with_reducible apply stmt_bl | with_reducible apply stmts_bl | with_reducible apply manyD_bl | with_reducible apply block_bl | with_reducible apply head_bl | with_reducible apply signature_bl | with_reducible apply method_bl | with_reducible apply routine_bl | with_reducible apply setup_bl))

theorem members_bl : ∀ (n : Nat) (c : Cf) {a : RS}, Bl s a → Bl s (members en n c a).2
  | 0, c, a, h => h
  | n + 1, c, a, h => by
    unfold members
    split
    · exact members_bl n _ (member_bl c h)
    · exact h
theorem manyG_bl (f : RS → Bool) (m n : Nat) (acc : List Mf) (h : Bl s a) : Bl s (many f (signature en) m n acc a).2 := many_bl (fun s => signature_bl (Bl.refl s)) _ _ _ h
theorem face_bl (h : Bl s a) : Bl s (face en a).2 := by
  unfold face
  dsimp only
  exact braces_bl (faces_bl _ (by decide) (name_bl (take_bl _ (by decide) h))) (manyG_bl _ _ _ _ (Bl.refl _))
theorem class_bl (h : Bl s a) : Bl s (class' en a).2 := by
  unfold class'
  dsimp only
  refine braces_bl (faces_bl _ (by decide) ?_) (members_bl _ _ (Bl.refl _))
  split
  · exact name_bl (skip_bl _ (by decide) (name_bl (take_bl _ (by decide) h)))
  · exact skip_bl _ (by decide) (name_bl (take_bl _ (by decide) h))
theorem either_bl (h : Bl s a) : Bl s (either en a).2 := by
  unfold either
  split
  · exact face_bl h
  · exact class_bl h

/-- Of a program that is read to its end: classes, then "main" and a block. -/
def Shape (L : List (List UInt8)) : Prop := ∃ u v, L = u ++ kMain :: [123] :: (v ++ [[125]]) ∧ Ba u ∧ Ba v
theorem finish_e (h : (finish en a).e = 0) : a.e = 0 ∧ a.l = [] := by
  unfold finish at h
  split at h
  · rename_i e
    exact ⟨h, e⟩
  · exact absurd h (refuse_bl0 10 (by decide) a).2
theorem prog_shape (hw : Wt s.l) (h : (finish en (program en s).2).e = 0) : Shape (txs s.l) := by
  obtain ⟨he, hl⟩ := finish_e h
  unfold program routine block at he hl
  dsimp only at he hl
  obtain ⟨a, ha⟩ : ∃ a, (many (seesAny [kClass, kFace]) (either en) 60 (s.l.length + 1) [] s).2 = a := ⟨_, rfl⟩
  have h1 : Bl s a := by rw [← ha]; exact many_bl (fun s => either_bl (Bl.refl s)) _ _ _ (Bl.refl s)
  rw [ha] at he hl
  obtain ⟨w1, m1, u1⟩ := h1 hw
  obtain ⟨w2, m2, t2⟩ := brace_facts (en := en) kMain a w1
  obtain ⟨b, hb⟩ : ∃ b, take en kMain a = b := ⟨_, rfl⟩
  rw [hb] at he hl w2 m2 t2
  obtain ⟨w3, m3, t3⟩ := brace_facts (en := en) [123] b w2
  obtain ⟨c, hc⟩ : ∃ c, take en [123] b = c := ⟨_, rfl⟩
  rw [hc] at he hl w3 m3 t3
  have h4 : Bl c (stmtsW (stmt en) (many (sees kVar) (declared en kVar) 40 (c.l.length + 1) [] c).2).2 := stmts_bl (manyD_bl _ (by decide) _ _ _ _ (Bl.refl _))
  obtain ⟨d, hd⟩ : ∃ d, (stmtsW (stmt en) (many (sees kVar) (declared en kVar) 40 (c.l.length + 1) [] c).2).2 = d := ⟨_, rfl⟩
  rw [hd] at he hl h4
  obtain ⟨w4, m4, u4⟩ := h4 w3
  obtain ⟨w5, m5, t5⟩ := brace_facts (en := en) [125] d w4
  have hde : d.e = 0 := by
    by_cases hb : d.e = 0
    · exact hb
    · exact absurd he (m5 hb)
  have hce : c.e = 0 := by
    by_cases hb : c.e = 0
    · exact hb
    · exact absurd hde (m4 hb)
  have hbe : b.e = 0 := by
    by_cases hb : b.e = 0
    · exact hb
    · exact absurd hce (m3 hb)
  have hae : a.e = 0 := by
    by_cases hb : a.e = 0
    · exact hb
    · exact absurd hbe (m2 hb)
  obtain ⟨u, eu, bu⟩ := u1 hae
  obtain ⟨v, ev, bv⟩ := u4 hde
  refine ⟨u, v, ?_, bu, bv⟩
  rw [eu, t2 hbe, t3 hce, ev, t5 he, hl]
  rfl
end

theorem scan_main (l : List (List UInt8)) : scan 0 (kMain :: l) = none := by
  unfold scan
  rw [if_neg (by decide), if_neg (by decide), if_pos ⟨rfl, rfl⟩]
theorem scan_shut (l : List (List UInt8)) : scan 0 ([125] :: l) = none := by
  unfold scan
  rw [if_neg (by decide), if_pos rfl]
/-- Where two lists begin alike and one is all right as far as x, the other one's x stands no sooner. -/
theorem first_eq {u u' r r' z : List (List UInt8)} {x : List UInt8} (hx : ∀ l, scan 0 (x :: l) = none) (hu : Ba u) (hu' : Ba u') (h : u ++ x :: r = u' ++ x :: r') : u = u' ∧ r = r' := by
  rcases List.append_eq_append_iff.1 h with ⟨m, e1, e2⟩ | ⟨m, e1, e2⟩
  · cases m with
    | nil =>
      rw [List.append_nil] at e1
      rw [List.nil_append] at e2
      injection e2 with _ e2
      exact ⟨e1.symm, e2⟩
    | cons y m =>
      rw [List.cons_append] at e2
      injection e2 with e3 e4
      subst e3
      have := hu' 0
      rw [e1, scan_append, hu 0] at this
      rw [show (some 0).bind (fun d => scan d (x :: m)) = scan 0 (x :: m) from rfl, hx] at this
      cases this
  · cases m with
    | nil =>
      rw [List.append_nil] at e1
      rw [List.nil_append] at e2
      injection e2 with _ e2
      exact ⟨e1, e2.symm⟩
    | cons y m =>
      rw [List.cons_append] at e2
      injection e2 with e3 e4
      subst e3
      have := hu 0
      rw [e1, scan_append, hu' 0] at this
      rw [show (some 0).bind (fun d => scan d (x :: m)) = scan 0 (x :: m) from rfl, hx] at this
      cases this
theorem shape_begin {L L' : List (List UInt8)} (h : Shape L) (h' : Shape L') (hp : L' <+: L) : L' = L := by
  obtain ⟨u, v, rfl, bu, bv⟩ := h
  obtain ⟨u', v', rfl, bu', bv'⟩ := h'
  obtain ⟨z, hz⟩ := hp
  rw [List.append_assoc, List.cons_append] at hz
  obtain ⟨e1, e2⟩ := first_eq (z := []) scan_main bu' bu hz
  rw [List.cons_append] at e2
  injection e2 with _ e2
  rw [List.append_assoc, List.singleton_append] at e2
  obtain ⟨e3, e4⟩ := first_eq (z := []) scan_shut bv' bv e2
  rw [e1, e3]
theorem shape_last {L : List (List UInt8)} (h : Shape L) : ∃ q, L = q ++ [[125]] := by
  obtain ⟨u, v, rfl, _, _⟩ := h
  exact ⟨u ++ kMain :: [123] :: v, by simp⟩
end Go.Proofs.YtnmhcgkccchacaaGreatDoor

/- A beginning of a text: its tokens are the first ones of the text's, the last one perhaps cut (a word or a number). -/
set_option linter.unusedSimpArgs false
set_option linter.unusedVariables false
set_option maxRecDepth 100000
namespace Go.Proofs.YtnmhcgkccchacaaGreatDoor
open Go.RowKit

theorem tw_take (q : UInt8 → Bool) : ∀ (l : List UInt8) (k : Nat), ((l.take k).takeWhile q).length = min (l.takeWhile q).length k
  | [], k => by simp
  | c :: l, 0 => by simp
  | c :: l, k + 1 => by
    rw [List.take_succ_cons, List.takeWhile_cons, List.takeWhile_cons]
    split
    · rw [List.length_cons, List.length_cons, tw_take q l k]
      omega
    · simp
theorem runN_take (p q : UInt8 → Bool) (l : List UInt8) (k : Nat) (hk : 0 < k) : runN p q (l.take k) = min (runN p q l) k := by
  cases l with
  | nil => simp [runN]
  | cons c l =>
    obtain ⟨j, rfl⟩ : ∃ j, k = j + 1 := ⟨k - 1, by omega⟩
    rw [List.take_succ_cons]
    simp only [runN]
    by_cases hp : p c = true
    · rw [if_pos hp, if_pos hp, tw_take]
      omega
    · rw [if_neg hp, if_neg hp]
      omega
theorem gpN_take (l : List UInt8) (k : Nat) (hk : 0 < k) : gpN (l.take k) = min (gpN l) k := by
  unfold gpN
  rw [runN_take _ _ _ _ hk, runN_take _ _ _ _ hk]
  omega
theorem plc_take {T : List UInt8} {m n : Nat} (h : n ≤ m) : plc (T.take m) n = plc T n := by
  unfold plc
  rw [List.take_take, Nat.min_eq_left h]
theorem run_first {p q : UInt8 → Bool} {l : List UInt8} (h : 0 < runN p q l) : ∃ c r, l = c :: r ∧ p c = true := by
  cases l with
  | nil => simp [runN] at h
  | cons c r =>
    refine ⟨c, r, rfl, ?_⟩
    simp only [runN] at h
    by_cases hp : p c = true
    · exact hp
    · rw [if_neg hp] at h
      omega
theorem sg_same {c : UInt8} {r r' : List UInt8} (h : 0 < sgN (c :: r)) (h' : 0 < sgN (c :: r')) : sgN (c :: r) = sgN (c :: r') := by
  rw [sgN_cons, sgG_kN] at h h' ⊢
  rw [sgN_cons, sgG_kN]
  split
  · rfl
  · rename_i h2
    rw [if_neg h2] at h h'
    split at h
    · split at h'
      · rename_i h3 h4
        rw [if_pos h3, if_pos h4]
      · omega
    · omega

/-- What stands at the start of a text's beginning. -/
theorem fst3_take (D : List UInt8) (r : Nat) (hr : 0 < r) (h : (fst3 D).1 = 0) (h' : (fst3 (D.take r)).1 = 0) :
    ((fst3 (D.take r)).2.1 = (fst3 D).2.1 ∧ (fst3 (D.take r)).2.2 = (fst3 D).2.2 ∧ (fst3 D).2.1 ≤ r) ∨
    ((fst3 (D.take r)).2.1 = r ∧ ∃ c l, D.take r = c :: l ∧ c ≠ 125) := by
  have hs' := fst3_size _ h'
  have hl : (D.take r).length ≤ r := by rw [List.length_take]; omega
  have hw := runN_take isL isW D r hr
  have hm := runN_take isD isD D r hr
  change wdN (D.take r) = min (wdN D) r at hw
  change nmN (D.take r) = min (nmN D) r at hm
  have tw : 0 < wdN (D.take r) → ∃ c l, D.take r = c :: l ∧ c ≠ 125 := fun hp => by
    obtain ⟨c, l, e, hc⟩ := run_first (p := isL) (q := isW) hp
    exact ⟨c, l, e, fun e2 => by rw [e2] at hc; exact absurd hc (by decide)⟩
  have tm : 0 < nmN (D.take r) → ∃ c l, D.take r = c :: l ∧ c ≠ 125 := fun hp => by
    obtain ⟨c, l, e, hc⟩ := run_first (p := isD) (q := isD) hp
    exact ⟨c, l, e, fun e2 => by rw [e2] at hc; exact absurd hc (by decide)⟩
  by_cases a : 32 < wdN D
  · simp [fst3, a] at h
  have a' : ¬ 32 < wdN (D.take r) := by omega
  by_cases b : 0 < wdN D
  · have b' : 0 < wdN (D.take r) := by omega
    have f1 : fst3 D = (0, wdN D, 0) := by simp only [fst3, if_neg a, if_pos b]
    have f2 : fst3 (D.take r) = (0, wdN (D.take r), 0) := by simp only [fst3, if_neg a', if_pos b']
    rw [f1, f2]
    by_cases hc : wdN D ≤ r
    · exact .inl ⟨by simp only; omega, rfl, hc⟩
    · exact .inr ⟨by simp only; omega, tw b'⟩
  have b' : ¬ 0 < wdN (D.take r) := by omega
  by_cases c : 3 < nmN D
  · simp [fst3, a, b, c] at h
  have c' : ¬ 3 < nmN (D.take r) := by omega
  by_cases d : 0 < nmN D
  · have d' : 0 < nmN (D.take r) := by omega
    have f1 : fst3 D = (0, nmN D, 1) := by simp only [fst3, if_neg a, if_neg b, if_neg c, if_pos d]
    have f2 : fst3 (D.take r) = (0, nmN (D.take r), 1) := by simp only [fst3, if_neg a', if_neg b', if_neg c', if_pos d']
    rw [f1, f2]
    by_cases hc : nmN D ≤ r
    · exact .inl ⟨by simp only; omega, rfl, hc⟩
    · exact .inr ⟨by simp only; omega, tm d'⟩
  have d' : ¬ 0 < nmN (D.take r) := by omega
  by_cases e : 0 < sgN D
  · by_cases e' : 0 < sgN (D.take r)
    · have f1 : fst3 D = (0, sgN D, 2) := by simp only [fst3, if_neg a, if_neg b, if_neg c, if_neg d, if_pos e]
      have f2 : fst3 (D.take r) = (0, sgN (D.take r), 2) := by simp only [fst3, if_neg a', if_neg b', if_neg c', if_neg d', if_pos e']
      have hsg : sgN (D.take r) = sgN D := by
        cases D with
        | nil => simp at e' e ⊢
        | cons x D =>
          obtain ⟨j, rfl⟩ : ∃ j, r = j + 1 := ⟨r - 1, by omega⟩
          rw [List.take_succ_cons] at e' ⊢
          exact sg_same e' e
      rw [f2] at hs'
      rw [f1, f2]
      exact .inl ⟨hsg, rfl, by simp only at hs' ⊢; omega⟩
    · simp [fst3, a', b', c', d', e'] at h'
  · simp [fst3, a, b, c, d, e] at h

theorem lxa_begin : ∀ (k : Nat) (T : List UInt8) (m n : Nat) (ts ts' : List Tok) (p p' : Nat × Nat), T.length - n ≤ k → n ≤ m → m ≤ T.length → lxa T n = .good ts p → lxa (T.take m) n = .good ts' p' →
    ts' <+: ts ∨ ∃ q t c l, ts' = q ++ [t] ∧ t.text = c :: l ∧ c ≠ 125 := by
  intro k
  induction k with
  | zero =>
    intro T m n ts ts' p p' hk hn hm h h'
    have : (T.take m).drop n = [] := List.drop_of_length_le (by rw [List.length_take]; omega)
    rw [lxa_end this] at h'
    injection h' with h1 h2
    subst h1
    exact .inl List.nil_prefix
  | succ k ih =>
    intro T m n ts ts' p p' hk hn hm h h'
    have hDD : (T.take m).drop n = (T.drop n).take (m - n) := List.drop_take
    by_cases he : n = m
    · have : (T.take m).drop n = [] := List.drop_of_length_le (by rw [List.length_take]; omega)
      rw [lxa_end this] at h'
      injection h' with h1 h2
      subst h1
      exact .inl List.nil_prefix
    have hr : 0 < m - n := by omega
    have hend : ∀ {us : List Tok} {q : Nat × Nat}, lxa (T.take m) m = .good us q → us = [] := fun {us q} hq => by
      have : (T.take m).drop m = [] := List.drop_of_length_le (by rw [List.length_take]; omega)
      rw [lxa_end this] at hq
      injection hq with h1 _
      exact h1.symm
    have hne : T.drop n ≠ [] := fun e => by
      have := congrArg List.length e
      rw [List.length_drop] at this
      simp at this
      omega
    have hne' : (T.take m).drop n ≠ [] := fun e => by
      have := congrArg List.length e
      rw [List.length_drop, List.length_take] at this
      simp at this
      omega
    have hgt := gpN_take (T.drop n) (m - n) hr
    rw [← hDD] at hgt
    by_cases hg : 0 < gpN (T.drop n)
    · have hgl := gpN_le (T.drop n)
      rw [List.length_drop] at hgl
      rw [lxa_gap hg] at h
      rw [lxa_gap (by omega)] at h'
      by_cases hc : gpN (T.drop n) ≤ m - n
      · rw [show gpN ((T.take m).drop n) = gpN (T.drop n) by omega] at h'
        exact ih T m _ ts ts' p p' (by omega) (by omega) hm h h'
      · rw [show n + gpN ((T.take m).drop n) = m by omega] at h'
        rw [hend h']
        exact .inl List.nil_prefix
    · have hb : (fst3 (T.drop n)).1 = 0 := by
        by_cases hb : (fst3 (T.drop n)).1 = 0
        · exact hb
        · rw [lxa_bad hne (by omega) hb] at h
          cases h
      have hb' : (fst3 ((T.take m).drop n)).1 = 0 := by
        by_cases hb' : (fst3 ((T.take m).drop n)).1 = 0
        · exact hb'
        · rw [lxa_bad hne' (by omega) hb'] at h'
          cases h'
      have hsz := fst3_size _ hb
      rw [List.length_drop] at hsz
      rw [lxa_tok hne (by omega) hb] at h
      rw [lxa_tok hne' (by omega) hb'] at h'
      have hcase := fst3_take (T.drop n) (m - n) hr hb (by rw [← hDD]; exact hb')
      rw [← hDD] at hcase
      rcases hcase with ⟨e1, e2, e3⟩ | ⟨e1, c, l, e2, e3⟩
      · rw [e1, e2, plc_take hn] at h'
        have htx : ((T.take m).drop n).take (fst3 (T.drop n)).2.1 = (T.drop n).take (fst3 (T.drop n)).2.1 := by
          rw [hDD, List.take_take, Nat.min_eq_left e3]
        rw [htx] at h'
        cases hx : lxa T (n + (fst3 (T.drop n)).2.1) with
        | bad x l c => rw [hx] at h; cases h
        | good us q =>
          cases hx' : lxa (T.take m) (n + (fst3 (T.drop n)).2.1) with
          | bad x l c => rw [hx'] at h'; cases h'
          | good us' q' =>
            rw [hx] at h
            rw [hx'] at h'
            injection h with h1 h2
            injection h' with h1' h2'
            subst h1 h1'
            rcases ih T m _ us us' q q' (by omega) (by omega) hm hx hx' with hp | ⟨y, t, c, l, ey, et, ec⟩
            · refine .inl ?_
              obtain ⟨z, hz⟩ := hp
              exact ⟨z, by rw [← hz]; simp⟩
            · exact .inr ⟨_ :: y, t, c, l, by rw [ey]; rfl, et, ec⟩
      · rw [e1, show n + (m - n) = m by omega] at h'
        cases hx' : lxa (T.take m) m with
        | bad x l c => rw [hx'] at h'; cases h'
        | good us' q' =>
          rw [hx'] at h'
          have hu := hend hx'
          subst hu
          injection h' with h1' h2'
          subst h1'
          refine .inr ⟨[], _, c, l, rfl, ?_, e3⟩
          simp only
          rw [List.take_of_length_le (by rw [hDD, List.length_take]; omega), e2]

theorem tok_nums : ∀ (k : Nat) (T : List UInt8) (n : Nat) (ts : List Tok) (p : Nat × Nat), T.length - n ≤ k → lxa T n = .good ts p → Wt ts := by
  intro k
  induction k with
  | zero =>
    intro T n ts p hk h
    have : T.drop n = [] := List.drop_of_length_le (by omega)
    rw [lxa_end this] at h
    injection h with h1 h2
    subst h1
    intro t ht
    cases ht
  | succ k ih =>
    intro T n ts p hk h
    by_cases he : T.drop n = []
    · rw [lxa_end he] at h
      injection h with h1 h2
      subst h1
      intro t ht
      cases ht
    by_cases hg : 0 < gpN (T.drop n)
    · have hgl := gpN_le (T.drop n)
      rw [List.length_drop] at hgl
      rw [lxa_gap hg] at h
      exact ih T _ ts p (by omega) h
    by_cases hb : (fst3 (T.drop n)).1 = 0
    · have hsz := fst3_size _ hb
      rw [List.length_drop] at hsz
      rw [lxa_tok he (by omega) hb] at h
      cases hx : lxa T (n + (fst3 (T.drop n)).2.1) with
      | bad x l c => rw [hx] at h; cases h
      | good us q =>
        rw [hx] at h
        injection h with h1 h2
        subst h1
        intro t ht hk1
        rcases List.mem_cons.1 ht with rfl | ht
        · simp only at hk1 ⊢
          have hfst : ∃ c r, (T.drop n).take (fst3 (T.drop n)).2.1 = c :: r ∧ isD c = true := by
            obtain ⟨D, hD⟩ : ∃ D, T.drop n = D := ⟨_, rfl⟩
            rw [hD] at hk1 hsz hb ⊢
            have hd : 0 < nmN D := by
              unfold fst3 at hk1 hb
              by_cases a : 32 < wdN D
              · simp [a] at hb
              by_cases b : 0 < wdN D
              · simp [a, b] at hk1
              by_cases c : 3 < nmN D
              · simp [a, b, c] at hb
              by_cases d : 0 < nmN D
              · exact d
              · by_cases e : 0 < sgN D
                · simp [a, b, c, d, e] at hk1
                · simp [a, b, c, d, e] at hb
            obtain ⟨c, r, e, hc⟩ := run_first (p := isD) (q := isD) hd
            obtain ⟨j, hj⟩ : ∃ j, (fst3 D).2.1 = j + 1 := ⟨(fst3 D).2.1 - 1, by omega⟩
            rw [hj, e]
            exact ⟨c, r.take j, rfl, hc⟩
          obtain ⟨c, r, e, hc⟩ := hfst
          rw [e]
          unfold neuB
          rw [Bool.and_eq_true, Bool.and_eq_true]
          simp only [Bool.not_eq_true', beq_eq_false_iff_ne]
          refine ⟨⟨fun e => ?_, fun e => ?_⟩, fun e => ?_⟩
          · injection e with e _; rw [e] at hc; exact absurd hc (by decide)
          · injection e with e _; rw [e] at hc; exact absurd hc (by decide)
          · unfold kMain at e; injection e with e _; rw [e] at hc; exact absurd hc (by decide)
        · exact ih T _ us q (by omega) hx t ht hk1
    · rw [lxa_bad he (by omega) hb] at h
      cases h

theorem lx_bad_ne : ∀ (n : Nat) (t : List UInt8) (p : Nat × Nat) (x l c : Nat), lx n t p = .bad x l c → x ≠ 0
  | 0, t, p, x, l, c, h => by
    unfold lx at h
    cases h
  | n + 1, t, p, x, l, c, h => by
    unfold lx at h
    split at h
    · cases h
    split at h
    · exact lx_bad_ne n _ _ x l c h
    split at h
    · rename_i h3
      injection h with h _ _
      rw [← h]
      exact h3
    · cases hx : lx n (t.drop (fst3 t).2.1) (pss p (t.take (fst3 t).2.1)) with
      | bad x' l' c' =>
        rw [hx] at h
        injection h with h _ _
        rw [← h]
        exact lx_bad_ne n _ _ x' l' c' hx
      | good us q =>
        rw [hx] at h
        cases h
theorem lxs_bad_ne {t : List UInt8} {p : Nat × Nat} {x l c : Nat} (h : lxs t p = .bad x l c) : x ≠ 0 := lx_bad_ne _ _ _ _ _ _ h
theorem offs_last {T : List UInt8} : ∀ {ts : List Tok} {n : Nat} {t : Tok}, Offs T n ts → ts.getLast? = some t → ∃ o, o + 1 ≤ T.length ∧ plc T o = (t.line, t.col)
  | [], n, t, _, h => by simp at h
  | [u], n, t, ho, h => by
    simp at h
    subst h
    obtain ⟨m, h1, h2, h3, h4, h5, _⟩ := ho
    exact ⟨m, by omega, h5⟩
  | u :: v :: ts, n, t, ho, h => by
    obtain ⟨m, h1, h2, h3, h4, h5, h6⟩ := ho
    exact offs_last h6 (by simpa [List.getLast?_cons_cons] using h)

/-- The fault's number of a text as a program. -/
def pfE (T : List UInt8) : Nat := (finish (rs0 (tokR T)).1 (program (rs0 (tokR T)).1 (rs0 (tokR T)).2).2).e
theorem good_of {T : List UInt8} (h : pfE T = 0) : ∃ ts p, tokR T = .good ts p ∧ Shape (txs ts) := by
  unfold pfE at h
  cases hx : tokR T with
  | bad x l c =>
    exfalso
    rw [hx] at h
    obtain ⟨h1, h2⟩ := finish_e h
    have hx0 : x ≠ 0 := by
      unfold tokR at hx
      split at hx
      · injection hx with hx _ _; omega
      · exact lxs_bad_ne hx
    have ht : take (0, 0) kMain (⟨[], x, l, c, false, 0⟩ : RS) = ⟨[], x, l, c, false, 0⟩ := by
      show refuse (0, 0) 10 (⟨[], x, l, c, false, 0⟩ : RS) = _
      unfold refuse
      rw [if_neg hx0]
    change (block (0, 0) { mf0 (atP (0, 0) (⟨[], x, l, c, false, 0⟩ : RS)) with ret := ⟨kVoid.toArray⟩, nm := ⟨kMain.toArray⟩, stat := true } (take (0, 0) kMain (⟨[], x, l, c, false, 0⟩ : RS))).2.e = 0 at h1
    rw [ht] at h1
    exact (block_bl (en := (0, 0)) _ (Bl.refl (⟨[], x, l, c, false, 0⟩ : RS)) (fun t ht => by cases ht)).2.1 hx0 h1
  | good ts p =>
    rw [hx] at h
    have hw : Wt ts := by
      unfold tokR at hx
      split at hx
      · cases hx
      · exact tok_nums T.length T 0 ts p (by omega) hx
    exact ⟨ts, p, rfl, prog_shape (s := ⟨ts, 0, 0, 0, false, 0⟩) hw h⟩

/-- A beginning that ends ahead of the last token is no program. -/
theorem begins_false {T : List UInt8} {m off : Nat} {ts : List Tok} {p : Nat × Nat} {t : Tok} (h : tokR T = .good ts p) (hs : Shape (txs ts)) (ht : ts.getLast? = some t) (hoff : off < T.length) (hp : plc T off = (t.line, t.col)) (hm : m ≤ off) : pfE (T.take m) ≠ 0 := by
  intro h0
  obtain ⟨ts', p', e', s'⟩ := good_of h0
  have hT : lxa T 0 = .good ts p := by
    unfold tokR at h
    split at h
    · cases h
    · exact h
  have hT' : lxa (T.take m) 0 = .good ts' p' := by
    unfold tokR at e'
    split at e'
    · cases e'
    · exact e'
  rcases lxa_begin T.length T m 0 ts ts' p p' (by omega) (by omega) (by omega) hT hT' with hpre | ⟨q, u, c, l, e1, e2, e3⟩
  · have hpt : txs ts' <+: txs ts := by
      obtain ⟨z, hz⟩ := hpre
      exact ⟨txs z, by rw [← hz]; simp [txs]⟩
    have heq := shape_begin hs s' hpt
    have hlen : ts'.length = ts.length := by
      have := congrArg List.length heq
      simpa [txs] using this
    have hts : ts' = ts := List.IsPrefix.eq_of_length hpre hlen
    have ho := offs_tok e'
    rw [hts] at ho
    obtain ⟨o, o1, o2⟩ := offs_last ho ht
    rw [List.length_take] at o1
    rw [plc_take (by omega)] at o2
    have := plc_ne (T := T) (a := o) (m := off) (by omega) (by omega)
    rw [o2, hp] at this
    simp at this
  · obtain ⟨z, hz⟩ := shape_last s'
    rw [e1] at hz
    unfold txs at hz
    rw [List.map_append] at hz
    have := List.append_inj_right' hz rfl
    simp only [List.map_cons, List.map_nil] at this
    injection this with this _
    rw [e2] at this
    injection this with this _
    exact e3 this
end Go.Proofs.YtnmhcgkccchacaaGreatDoor

/- The reference's Same: a program without anything is itself. -/
set_option linter.unusedSimpArgs false
set_option linter.unusedVariables false
set_option maxRecDepth 100000
namespace Go.Proofs.YtnmhcgkccchacaaGreatDoor
open Go.RowKit

set_option maxHeartbeats 1600000 in
theorem vars_zero (w : World) : Calls Tryz.prog 59 #[.slice none 0 0, .slice none 0 0] w fun e w' => e = .returned (.bool true) ∧ w = w' := by
  go_enter Tryz.func59, Tryz.ntmps59
  go_wp2_with fail
  go_loop [5] (fun i => i = .int .i64 0) (fun i => 0)
  case atStart => rfl
  case round =>
    subst hrel
    go_wp2_with fail
    go_ret
    exact ⟨rfl, rfl⟩
set_option maxHeartbeats 1600000 in
theorem stmts_zero (w : World) : Calls Tryz.prog 38 #[.slice none 0 0, .slice none 0 0] w fun e w' => e = .returned (.bool true) ∧ w = w' := by
  go_enter Tryz.func38, Tryz.ntmps38
  go_wp2_with fail
  go_loop [5] (fun i => i = .int .i64 0) (fun i => 0)
  case atStart => rfl
  case round =>
    subst hrel
    go_wp2_with fail
    go_ret
    exact ⟨rfl, rfl⟩
def methZ : Array Value := #[.string ⟨#[]⟩, .string ⟨#[]⟩, .bool false, .bool false, .slice none 0 0, .slice none 0 0, .slice none 0 0, .int .i64 0, .int .i64 0]
set_option maxHeartbeats 6400000 in
theorem meth_zero (w : World) : Calls Tryz.prog 33 #[.agg methZ, .agg methZ] w fun e w' => e = .returned (.bool true) ∧ Turn [] w w' := by
  have HV := Lib.hid (fun W => vars_zero W)
  have HS := Lib.hid (fun W => stmts_zero W)
  obtain ⟨W, hW⟩ : ∃ W, (w.alloc (.cells methZ 29)).alloc (.cells methZ 29) = W := ⟨_, rfl⟩
  have tW : Turn [] w W := by rw [← hW]; exact ((Turn.refl [] w).alloc _).alloc _
  have aW : W.heap[w.heap.size]? = some (.cells methZ 29 (0, 0)) := by
    rw [← hW]; exact ((Turn.refl [] _).alloc _).heap (heap_alloc_new w _) (by simp)
  have bW : W.heap[w.heap.size + 1]? = some (.cells methZ 29 (0, 0)) := by
    rw [← hW]
    have := heap_alloc_new (w.alloc (.cells methZ 29)) (.cells methZ 29)
    rwa [World.size_alloc] at this
  have ca : ∀ i v, methZ[i]? = some v → W.cell? ⟨w.heap.size, i, none⟩ = some v := fun i v h => (cell_of_row W w.heap.size i _ _ _ aW).trans h
  have cb : ∀ i v, methZ[i]? = some v → W.cell? ⟨w.heap.size + 1, i, none⟩ = some v := fun i v h => (cell_of_row W (w.heap.size + 1) i _ _ _ bW).trans h
  have a0 : W.cell? ⟨w.heap.size, 0, none⟩ = some (.string ⟨#[]⟩) := ca 0 _ rfl
  have a1 : W.cell? ⟨w.heap.size, 1, none⟩ = some (.string ⟨#[]⟩) := ca 1 _ rfl
  have a2 : W.cell? ⟨w.heap.size, 2, none⟩ = some (.bool false) := ca 2 _ rfl
  have a3 : W.cell? ⟨w.heap.size, 3, none⟩ = some (.bool false) := ca 3 _ rfl
  have a4 : W.cell? ⟨w.heap.size, 4, none⟩ = some (.slice none 0 0) := ca 4 _ rfl
  have a5 : W.cell? ⟨w.heap.size, 5, none⟩ = some (.slice none 0 0) := ca 5 _ rfl
  have a6 : W.cell? ⟨w.heap.size, 6, none⟩ = some (.slice none 0 0) := ca 6 _ rfl
  have a7 : W.cell? ⟨w.heap.size, 7, none⟩ = some (.int .i64 0) := ca 7 _ rfl
  have a8 : W.cell? ⟨w.heap.size, 8, none⟩ = some (.int .i64 0) := ca 8 _ rfl
  have b0 : W.cell? ⟨w.heap.size + 1, 0, none⟩ = some (.string ⟨#[]⟩) := cb 0 _ rfl
  have b1 : W.cell? ⟨w.heap.size + 1, 1, none⟩ = some (.string ⟨#[]⟩) := cb 1 _ rfl
  have b2 : W.cell? ⟨w.heap.size + 1, 2, none⟩ = some (.bool false) := cb 2 _ rfl
  have b3 : W.cell? ⟨w.heap.size + 1, 3, none⟩ = some (.bool false) := cb 3 _ rfl
  have b4 : W.cell? ⟨w.heap.size + 1, 4, none⟩ = some (.slice none 0 0) := cb 4 _ rfl
  have b5 : W.cell? ⟨w.heap.size + 1, 5, none⟩ = some (.slice none 0 0) := cb 5 _ rfl
  have b6 : W.cell? ⟨w.heap.size + 1, 6, none⟩ = some (.slice none 0 0) := cb 6 _ rfl
  have b7 : W.cell? ⟨w.heap.size + 1, 7, none⟩ = some (.int .i64 0) := cb 7 _ rfl
  have b8 : W.cell? ⟨w.heap.size + 1, 8, none⟩ = some (.int .i64 0) := cb 8 _ rfl
  have HT := Lib.hid tW
  have HW := Lib.hid hW
  clear ca cb aW bW tW hW
  go_enter Tryz.func33, Tryz.ntmps33
  go_upto_region 1 with (fail)
  rw [show (w.alloc (.cells methZ 29)).alloc (.cells methZ 29) = W from HW.out]
  go_wp2_with fail
  refine (HV.out _).mono ?_
  rintro e w1 ⟨rfl, rfl⟩
  go_wp2_with fail
  refine (HV.out _).mono ?_
  rintro e w1 ⟨rfl, rfl⟩
  go_wp2_with fail
  refine (HS.out _).mono ?_
  rintro e w1 ⟨rfl, rfl⟩
  go_wp2_with fail
  go_ret
  exact ⟨rfl, HT.out⟩

set_option maxHeartbeats 6400000 in
theorem prog_zero (w : World) : Calls Tryz.prog 12 #[.agg progZ, .agg progZ] w fun e w' => e = .returned (.bool true) ∧ Turn [] w w' := by
  obtain ⟨W, hW⟩ : ∃ W, (w.alloc (.cells progZ 31)).alloc (.cells progZ 31) = W := ⟨_, rfl⟩
  have tW : Turn [] w W := by rw [← hW]; exact ((Turn.refl [] w).alloc _).alloc _
  have aW : W.heap[w.heap.size]? = some (.cells progZ 31 (0, 0)) := by
    rw [← hW]; exact ((Turn.refl [] _).alloc _).heap (heap_alloc_new w _) (by simp)
  have bW : W.heap[w.heap.size + 1]? = some (.cells progZ 31 (0, 0)) := by
    rw [← hW]
    have := heap_alloc_new (w.alloc (.cells progZ 31)) (.cells progZ 31)
    rwa [World.size_alloc] at this
  have ca : ∀ i v, progZ[i]? = some v → W.cell? ⟨w.heap.size, i, none⟩ = some v := fun i v h => (cell_of_row W w.heap.size i _ _ _ aW).trans h
  have cb : ∀ i v, progZ[i]? = some v → W.cell? ⟨w.heap.size + 1, i, none⟩ = some v := fun i v h => (cell_of_row W (w.heap.size + 1) i _ _ _ bW).trans h
  have a0 : W.cell? ⟨w.heap.size, 0, none⟩ = some (.slice none 0 0) := ca 0 _ rfl
  have a1 : W.cell? ⟨w.heap.size, 1, none⟩ = some (.string ⟨#[]⟩) := ca 1 _ rfl
  have a2 : W.cell? ⟨w.heap.size, 2, none⟩ = some (.string ⟨#[]⟩) := ca 2 _ rfl
  have a3 : W.cell? ⟨w.heap.size, 3, none⟩ = some (.bool false) := ca 3 _ rfl
  have a4 : W.cell? ⟨w.heap.size, 4, none⟩ = some (.bool false) := ca 4 _ rfl
  have a5 : W.cell? ⟨w.heap.size, 5, none⟩ = some (.slice none 0 0) := ca 5 _ rfl
  have a6 : W.cell? ⟨w.heap.size, 6, none⟩ = some (.slice none 0 0) := ca 6 _ rfl
  have a7 : W.cell? ⟨w.heap.size, 7, none⟩ = some (.slice none 0 0) := ca 7 _ rfl
  have a8 : W.cell? ⟨w.heap.size, 8, none⟩ = some (.int .i64 0) := ca 8 _ rfl
  have a9 : W.cell? ⟨w.heap.size, 9, none⟩ = some (.int .i64 0) := ca 9 _ rfl
  have b0 : W.cell? ⟨w.heap.size + 1, 0, none⟩ = some (.slice none 0 0) := cb 0 _ rfl
  have b1 : W.cell? ⟨w.heap.size + 1, 1, none⟩ = some (.string ⟨#[]⟩) := cb 1 _ rfl
  have b2 : W.cell? ⟨w.heap.size + 1, 2, none⟩ = some (.string ⟨#[]⟩) := cb 2 _ rfl
  have b3 : W.cell? ⟨w.heap.size + 1, 3, none⟩ = some (.bool false) := cb 3 _ rfl
  have b4 : W.cell? ⟨w.heap.size + 1, 4, none⟩ = some (.bool false) := cb 4 _ rfl
  have b5 : W.cell? ⟨w.heap.size + 1, 5, none⟩ = some (.slice none 0 0) := cb 5 _ rfl
  have b6 : W.cell? ⟨w.heap.size + 1, 6, none⟩ = some (.slice none 0 0) := cb 6 _ rfl
  have b7 : W.cell? ⟨w.heap.size + 1, 7, none⟩ = some (.slice none 0 0) := cb 7 _ rfl
  have b8 : W.cell? ⟨w.heap.size + 1, 8, none⟩ = some (.int .i64 0) := cb 8 _ rfl
  have b9 : W.cell? ⟨w.heap.size + 1, 9, none⟩ = some (.int .i64 0) := cb 9 _ rfl
  have HM := Lib.hid (meth_zero W)
  have HT := Lib.hid tW
  have HW := Lib.hid hW
  clear ca cb aW bW tW hW
  go_enter Tryz.func12, Tryz.ntmps12
  go_upto_region 1 with (fail)
  rw [show (w.alloc (.cells progZ 31)).alloc (.cells progZ 31) = W from HW.out]
  go_wp2_with fail
  go_loopw [5] (fun i wr => i = .int .i64 0 ∧ W = wr) (fun i _ => 0)
  case atStart => exact ⟨rfl, rfl⟩
  case round =>
    obtain ⟨rfl, rfl⟩ := hrel
    unfold methZ at HM
    go_wp2_with fail
    refine HM.out.mono ?_
    rintro e w1 ⟨rfl, t1⟩
    go_wp2_with fail
    go_ret
    exact ⟨rfl, HT.out.trans' t1⟩
end Go.Proofs.YtnmhcgkccchacaaGreatDoor

/- The reference's Tokens. -/
set_option linter.unusedSimpArgs false
set_option linter.unusedVariables false
namespace Go.Proofs.YtnmhcgkccchacaaGreatDoor
open Go.RowKit

theorem tok_cs (kd l c : Nat) (X : ByteArray) : (⟨kd, X.data.toList, l, c⟩ : Tok).cs.toArray = #[.int .i64 (kd : Int), .string X, .int .i64 (l : Int), .int .i64 (c : Int)] := by
  simp [Tok.cs, Lib.mk_data]

set_option maxHeartbeats 8000000 in
set_option maxRecDepth 100000 in
theorem refTokens_any (s : ByteArray) (w : World) (hs : s.size ≤ 20000) :
    Calls Tryz.prog 19 #[.string s] w fun e w' => Turn [] w w' ∧
      ((∃ x l c, tokR s.data.toList = .bad x l c ∧ x ≠ 0 ∧ e = .returned (badV x l c)) ∨ (∃ ts p V, tokR s.data.toList = .good ts p ∧ OwnT w' V ts ∧ (∀ g, V.ownBlock = some g → w.heap.size ≤ g) ∧ e = .returned (goodV V p))) := by
  have hl : s.data.toList.length = s.size := (Lib.size_eq s).symm
  have htk : tokR s.data.toList = lxa s.data.toList 0 := by
    unfold tokR
    rw [if_neg (by omega), lxa_zero]
  have HTK := Lib.hid htk
  have HL := Lib.hid hl
  have d0 : decide ((20000 : Int) < (s.size : Int)) = false := by simp; omega
  have d0' : ¬ (20000 : Int) < (s.size : Int) := by omega
  clear htk hl
  go_enter Tryz.func19, Tryz.ntmps19
  go_upto_region 1 with (fail)
  obtain ⟨W, hW⟩ : ∃ W, (w.alloc (.cells #[.int .i64 0, .int .i64 0] 27)).alloc (.cells #[.int .i64 0, .int .i64 0, .int .i64 0] 34) = W := ⟨_, rfl⟩
  obtain ⟨r, hr⟩ : ∃ r, w.heap.size = r := ⟨_, rfl⟩
  rw [hW, hr]
  have hr0 : W.heap[r]? = some (.cells #[.int .i64 0, .int .i64 0] 27 (0, 0)) := by
    rw [← hW, ← hr]
    exact ((Turn.refl [] _).alloc _).heap (heap_alloc_new w _) (by simp)
  have hr1 : W.heap[r + 1]? = some (.cells #[.int .i64 0, .int .i64 0, .int .i64 0] 34 (0, 0)) := by
    rw [← hW, ← hr]
    have := heap_alloc_new (w.alloc (.cells #[.int .i64 0, .int .i64 0] 27)) (.cells #[.int .i64 0, .int .i64 0, .int .i64 0] 34)
    rwa [World.size_alloc] at this
  have hT : Turn [] w W := by rw [← hW]; exact ((Turn.refl [] w).alloc _).alloc _
  have HR0 := Lib.hid hr0
  have HR1 := Lib.hid hr1
  have HT := Lib.hid hT
  have HRr := Lib.hid hr
  clear hW hr hr0 hr1 hT
  go_wp2_with fail
  go_loopw [5, 6] (fun tv tn wr => ∃ (n : Nat) (V : Value) (ts : List Tok), V = tv ∧ tn = .int .i64 (n : Int) ∧ n ≤ s.size ∧ ts.length ≤ n ∧ Hid (OwnT wr V ts) ∧ Hid (∀ g, V.ownBlock = some g → r + 2 ≤ g) ∧ Hid (lxa s.data.toList 0 = preT ts (lxa s.data.toList n)) ∧ Hid (wr.heap[r]? = some (.cells #[.int .i64 0, .int .i64 0] 27 (0, 0))) ∧ Hid (wr.heap[r + 1]? = some (.cells #[.int .i64 0, .int .i64 0, .int .i64 0] 34 (0, 0))) ∧ Hid (Turn [] w wr)) (fun _ tn _ => s.size - (intOf tn).toNat)
  case atStart => exact ⟨0, _, [], rfl, rfl, by omega, by simp, Lib.hid (OwnT.nil _), Lib.hid (fun g e => by cases e), Lib.hid (by rw [preT_nil]), HR0, HR1, HT⟩
  case round =>
    obtain ⟨n, V, ts, rfl, rfl, hn, htn, HO, HV, HLX, HC0, HC1, HTw⟩ := hrel
    have hrl : r + 1 < wr.heap.size := (Array.getElem?_eq_some_iff.1 HC1.out).1
    by_cases hlt : n < s.size
    · have d1 : decide ((n : Int) < (s.size : Int)) = true := by simp; omega
      have d2 : (n : Int) < (s.size : Int) := by omega
      have hsm := rs_small (T := s.data.toList.drop n)
      have HE := Lib.hid (end_any s n wr hlt (by omega))
      have HPL := Lib.hid (fun W => refPlace_any s n W (by omega) (by omega))
      obtain ⟨pl, hpl⟩ : ∃ x, (plc s.data.toList n).1 = x := ⟨_, rfl⟩
      obtain ⟨pc, hpc⟩ : ∃ x, (plc s.data.toList n).2 = x := ⟨_, rfl⟩
      rw [hpl, hpc] at HPL
      have HPP : Hid ((plc s.data.toList n).1 = pl ∧ (plc s.data.toList n).2 = pc) := Lib.hid ⟨hpl, hpc⟩
      clear hpl hpc
      by_cases he : (rs (s.data.toList.drop n)).2.2 = 0
      · obtain ⟨hk0, hkn, hcase⟩ := step_good (by have := HL.out; omega) he
        rw [he] at HE
        rw [HL.out] at hkn
        obtain ⟨k, hk⟩ : ∃ k, (rs (s.data.toList.drop n)).1 = k := ⟨_, rfl⟩
        rw [hk] at HE hk0 hkn hcase
        rcases hcase with ⟨hkd, hstep⟩ | ⟨kd, hkd, hstep⟩
        · rw [hkd] at HE
          have HST := Lib.hid hstep
          clear hstep he hk hkd hsm
          go_wp2_with fail
          refine HE.out.mono ?_
          rintro e w1 ⟨rfl, rfl⟩
          go_wp2_with fail
          go_roundw
          case rel =>
            exact ⟨n + k, V, ts, rfl, by go_num, by omega, by omega, HO, HV, Lib.hid (by rw [HLX.out, HST.out]), HC0, HC1, HTw⟩
          case measure => simp [intOf]; omega
        · rw [hkd] at HE
          rw [hkd] at hsm
          obtain ⟨X, hX⟩ : ∃ X, s.extract n (n + k) = X := ⟨_, rfl⟩
          have hXd : X.data.toList = (s.data.toList.drop n).take k := by
            rw [← hX, Lib.extract_data, show n + k - n = k by omega]
          rw [← hXd, HPP.out.1, HPP.out.2] at hstep
          obtain ⟨K, hK⟩ : ∃ K, n + k = K := ⟨_, rfl⟩
          rw [hK] at HE hstep hkn hX
          have hnK : n < K := by omega
          have hsl : ∀ W : World, (Instr.slice 9 (.string s) (some (.int .i64 (n : Int))) (some (.int .i64 (K : Int))) none).run Tryz.prog W = .ok (.string X) W := fun W => by
            rw [run_slice_string W 9 s .i64 .i64 (n : Int) (K : Int) Tryz.underlying9 (by omega) (by omega) (by omega)]
            simp [hX]
          have HXX := Lib.hid hX
          clear hX hK
          have HST := Lib.hid hstep
          have hkd2 : kd ≤ 2 := by omega
          have e1 : decide ((0 : Int) ≤ (kd : Int)) = true := by simp
          have e2 : (0 : Int) ≤ (kd : Int) := by omega
          have g0 : (0 : Int) ≤ (n : Int) := by omega
          have g1 : (n : Int) ≤ (K : Int) := by omega
          have g2 : (K : Int) ≤ (s.size : Int) := by omega
          have HPW := Lib.hid (HPL.out wr.drew)
          clear hstep he hk hkd hsm hXd
          go_wp2_with fail
          refine HE.out.mono ?_
          rintro e w1 ⟨rfl, rfl⟩
          go_wp2_with fail
          go_region_held3 (fun _ => True)
            (first | trivial | go_keep)
            (first
              | (refine step_appT rfl (.tmp 41) (.tmp 51) rfl _ V ts ⟨kd, X.data.toList, pl, pc⟩ w5.heap.size 1 (by simp [Act.eval, Act.put]) (by simp [Act.eval, Act.put]) (by exact Turn.owns ((Turn.refl [] w5).alloc _) HO5.out (by simp)) (by rw [tok_cs]; exact heap_alloc_new w5 _) (by omega) ?_
                 intro v6 w6 ho6 ht6 hm6)
              | (go_at_call 20; (with_reducible refine HPW.out.mono ?_); rintro e w5 ⟨rfl, t5⟩
                 have t5' : Turn [] w1 w5 := (Turn.refl [] w1).drew.trans' t5
                 have HO5 : Hid (OwnT w5 V ts) := Lib.hid (Turn.owns t5' HO.out (by simp))
                 clear t5))
          have hblk : ∀ g, V.ownBlock = some g → r + 2 ≤ g := HV.out
          have ta : Turn [] w1 (w5.alloc (.cells #[.int .i64 (kd : Int), .string X, .int .i64 (pl : Int), .int .i64 (pc : Int)] 55)) := t5'.alloc _
          have hb0 := ht6.heap (ta.heap HC0.out (by simp)) (fun hg => by have := hblk r (by simpa using hg); omega)
          have hb1 := ht6.heap (ta.heap HC1.out (by simp)) (fun hg => by have := hblk (r + 1) (by simpa using hg); omega)
          have HTn : Hid (Turn [] w w6) := Lib.hid ((HTw.out.trans' ta).trans ht6 (fun g hg => by
            have := hblk g (by simpa using hg)
            have := HRr.out
            exact .inr (by omega)))
          have HV6 : Hid (∀ g, v6.ownBlock = some g → r + 2 ≤ g) := Lib.hid (fun g e => by
            rcases hm6 with h | ⟨g', h, hh⟩
            · exact hblk g (by rw [← h]; exact e)
            · rw [h] at e
              injection e with e
              subst e
              have := ta.size
              omega)
          have HO6 := Lib.hid ho6
          have HB0 := Lib.hid hb0
          have HB1 := Lib.hid hb1
          clear hb0 hb1 ho6 ht6 hm6 ta t5' hblk
          go_wp2_with fail
          go_roundw
          case rel =>
            refine ⟨K, v6, ts ++ [⟨kd, X.data.toList, pl, pc⟩], rfl, by go_num, by omega, by simp; omega, HO6, HV6, Lib.hid ?_, HB0, HB1, HTn⟩
            rw [HLX.out, HST.out, preT_preT]
          case measure => simp [intOf]; omega
      · have hst := step_bad (by have := HL.out; omega) he
        obtain ⟨x, hx⟩ : ∃ x, (rs (s.data.toList.drop n)).2.2 = x := ⟨_, rfl⟩
        rw [hx] at HE hst he
        rw [HPP.out.1, HPP.out.2] at hst
        have e0 : decide ((x : Int) = 0) = false := by simp; omega
        have e1 : ((x : Int) == 0) = false := by simp; omega
        have e2 : ¬ (x : Int) = 0 := by omega
        have e4 : decide (x = 0) = false := by simpa using he
        have HST := Lib.hid hst
        have HPW := Lib.hid (HPL.out wr)
        clear hst hx hsm
        go_wp2_with fail
        refine HE.out.mono ?_
        rintro e w1 ⟨rfl, rfl⟩
        go_wp2_with fail
        refine HPW.out.mono ?_
        rintro e w2 ⟨rfl, t2⟩
        go_upto_region 9 with (fail)
        obtain ⟨W3, hW3⟩ : ∃ W3, w2.alloc (.cells #[.int .i64 (pl : Int), .int .i64 (pc : Int)] 27) = W3 := ⟨_, rfl⟩
        obtain ⟨pb, hpb⟩ : ∃ pb, w2.heap.size = pb := ⟨_, rfl⟩
        rw [hW3, hpb]
        have hB3 : W3.heap[pb]? = some (.cells #[.int .i64 (pl : Int), .int .i64 (pc : Int)] 27 (0, 0)) := by rw [← hW3, ← hpb]; exact heap_alloc_new w2 _
        have t3 : Turn [] w1 W3 := t2.trans' (by rw [← hW3]; exact (Turn.refl [] w2).alloc _)
        have hpbl : r + 1 < pb := by
          have := t2.size
          omega
        have hz0 := t3.heap HC0.out (by simp)
        have hz1 := t3.heap HC1.out (by simp)
        have p0 : W3.cell? ⟨r, 0, none⟩ = some (.int .i64 0) := cell_of_row W3 r 0 _ 27 (0, 0) hz0
        have pf0 : W3.frozen? ⟨r, 0, none⟩ = false := frozen_of_row W3 r 0 _ 27 hz0
        have p1 : W3.cell? ⟨r, 1, none⟩ = some (.int .i64 0) := cell_of_row W3 r 1 _ 27 (0, 0) hz0
        have pf1 : W3.frozen? ⟨r, 1, none⟩ = false := frozen_of_row W3 r 1 _ 27 hz0
        have q0 : W3.cell? ⟨r + 1, 0, none⟩ = some (.int .i64 0) := cell_of_row W3 (r + 1) 0 _ 34 (0, 0) hz1
        have qf0 : W3.frozen? ⟨r + 1, 0, none⟩ = false := frozen_of_row W3 (r + 1) 0 _ 34 hz1
        have q1 : W3.cell? ⟨r + 1, 1, none⟩ = some (.int .i64 0) := cell_of_row W3 (r + 1) 1 _ 34 (0, 0) hz1
        have qf1 : W3.frozen? ⟨r + 1, 1, none⟩ = false := frozen_of_row W3 (r + 1) 1 _ 34 hz1
        have q2 : W3.cell? ⟨r + 1, 2, none⟩ = some (.int .i64 0) := cell_of_row W3 (r + 1) 2 _ 34 (0, 0) hz1
        have qf2 : W3.frozen? ⟨r + 1, 2, none⟩ = false := frozen_of_row W3 (r + 1) 2 _ 34 hz1
        have b0 : W3.cell? ⟨pb, 0, none⟩ = some (.int .i64 (pl : Int)) := cell_of_row W3 pb 0 _ 27 (0, 0) hB3
        have b1 : W3.cell? ⟨pb, 1, none⟩ = some (.int .i64 (pc : Int)) := cell_of_row W3 pb 1 _ 27 (0, 0) hB3
        have HT3 := Lib.hid (HTw.out.trans' t3)
        have hn1 : r ≠ pb := by omega
        have hn2 : r + 1 ≠ pb := by omega
        have hn3 : pb ≠ r := by omega
        have hn4 : pb ≠ r + 1 := by omega
        clear hW3 hpb t2 t3 hz0 hz1 hB3
        go_region_held3 (fun w' => w'.cell? ⟨pb, 0, none⟩ = some (.int .i64 (pl : Int)) ∧ w'.cell? ⟨pb, 1, none⟩ = some (.int .i64 (pc : Int)))
          (first | go_keep)
          (first | fail)
        go_wp2_with fail
        refine bodyPost_ret (v := badV x pl pc) (by simp [results, Tryz.results19, go_sem, badV, p0, p1, q0, q1, q2]) rfl ⟨?_, .inl ⟨x, pl, pc, ?_, he, rfl⟩⟩
        · have hrr := HRr.out
          have tS : Turn [r, r + 1] W3 (((((W3.setCell ⟨r, 0, none⟩ (.int .i64 0)).setCell ⟨r, 1, none⟩ (.int .i64 0)).setCell ⟨r + 1, 0, none⟩ (.int .i64 (x : Int))).setCell ⟨r + 1, 1, none⟩ (.int .i64 (pl : Int))).setCell ⟨r + 1, 2, none⟩ (.int .i64 (pc : Int))).drew :=
            ((((((Turn.refl [r, r + 1] W3).setCell (.inl (by simp)) _).setCell (.inl (by simp)) _).setCell (.inl (by simp)) _).setCell (.inl (by simp)) _).setCell (.inl (by simp)) _).drew
          exact HT3.out.trans tS (fun g hg => .inr (by simp at hg; omega))
        · rw [HTK.out, HLX.out, HST.out]
          rfl
    · obtain rfl : n = s.size := by omega
      have d1 : decide ((s.size : Int) < (s.size : Int)) = false := by simp
      have HPL := Lib.hid (refPlace_any s s.size wr (by omega) (by omega))
      go_wp2_with fail
      refine HPL.out.mono ?_
      rintro e w2 ⟨rfl, t2⟩
      have hz0 := t2.heap HC0.out (by simp)
      have hz1 := t2.heap HC1.out (by simp)
      have p0 : w2.cell? ⟨r, 0, none⟩ = some (.int .i64 0) := cell_of_row w2 r 0 _ 27 (0, 0) hz0
      have pf0 : w2.frozen? ⟨r, 0, none⟩ = false := frozen_of_row w2 r 0 _ 27 hz0
      have p1 : w2.cell? ⟨r, 1, none⟩ = some (.int .i64 0) := cell_of_row w2 r 1 _ 27 (0, 0) hz0
      have pf1 : w2.frozen? ⟨r, 1, none⟩ = false := frozen_of_row w2 r 1 _ 27 hz0
      have q0 : w2.cell? ⟨r + 1, 0, none⟩ = some (.int .i64 0) := cell_of_row w2 (r + 1) 0 _ 34 (0, 0) hz1
      have qf0 : w2.frozen? ⟨r + 1, 0, none⟩ = false := frozen_of_row w2 (r + 1) 0 _ 34 hz1
      have q1 : w2.cell? ⟨r + 1, 1, none⟩ = some (.int .i64 0) := cell_of_row w2 (r + 1) 1 _ 34 (0, 0) hz1
      have qf1 : w2.frozen? ⟨r + 1, 1, none⟩ = false := frozen_of_row w2 (r + 1) 1 _ 34 hz1
      have q2 : w2.cell? ⟨r + 1, 2, none⟩ = some (.int .i64 0) := cell_of_row w2 (r + 1) 2 _ 34 (0, 0) hz1
      have qf2 : w2.frozen? ⟨r + 1, 2, none⟩ = false := frozen_of_row w2 (r + 1) 2 _ 34 hz1
      have HZ0 := Lib.hid hz0
      have HZ1 := Lib.hid hz1
      have HO2 : Hid (OwnT w2 V ts) := Lib.hid (Turn.owns t2 HO.out (by simp))
      have HT2 := Lib.hid (HTw.out.trans' t2)
      clear hz0 hz1 t2
      obtain ⟨pl, hpl⟩ : ∃ x, (plc s.data.toList s.size).1 = x := ⟨_, rfl⟩
      obtain ⟨pc, hpc⟩ : ∃ x, (plc s.data.toList s.size).2 = x := ⟨_, rfl⟩
      have HPP : Hid (plc s.data.toList s.size = (pl, pc)) := Lib.hid (by rw [← hpl, ← hpc])
      rw [hpl, hpc]
      clear hpl hpc
      go_wp2_with fail
      have tS : Turn [r, r + 1] w2 (((((w2.setCell ⟨r, 0, none⟩ (.int .i64 (pl : Int))).setCell ⟨r, 1, none⟩ (.int .i64 (pc : Int))).setCell ⟨r + 1, 0, none⟩ (.int .i64 0)).setCell ⟨r + 1, 1, none⟩ (.int .i64 0)).setCell ⟨r + 1, 2, none⟩ (.int .i64 0)) :=
        (((((Turn.refl [r, r + 1] w2).setCell (.inl (by simp)) _).setCell (.inl (by simp)) _).setCell (.inl (by simp)) _).setCell (.inl (by simp)) _).setCell (.inl (by simp)) _
      refine bodyPost_ret (v := goodV V (pl, pc)) (by simp [results, Tryz.results19, go_sem, goodV, p0, p1, q0, q1, q2]) rfl ⟨?_, .inr ⟨ts, (pl, pc), V, ?_, ?_, ?_, rfl⟩⟩
      · have hrr := HRr.out
        exact HT2.out.trans tS (fun g hg => .inr (by simp at hg; omega))
      · rw [HTK.out, HLX.out, lxa_end (List.drop_of_length_le (by have := HL.out; omega)), HPP.out]
        simp [preT]
      · refine Turn.owns tS HO2.out (fun g e hg => ?_)
        have := HV.out g e
        simp at hg
        omega
      · intro g e
        have := HV.out g e
        have := HRr.out
        omega
end Go.Proofs.YtnmhcgkccchacaaGreatDoor
