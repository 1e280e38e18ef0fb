import Derived.Test.YtnmhcgkccchacaaGreatDoorQ01Mk
import Derived.Test.YtnmhcgkccchacaaGreatDoorQ00Kit
import Derived.Deep.DeepCutAuto

/- Names: the program's Name, the reference's. -/
set_option linter.unusedSimpArgs false
set_option linter.unusedVariables false
set_option maxRecDepth 100000
namespace Go.Proofs.YtnmhcgkccchacaaGreatDoor
open Go.RowKit

theorem byte_all {p : UInt8 → Prop} (h : ∀ n : Fin 256, p (UInt8.ofNat n.val)) (c : UInt8) : p c := by
  have hc : c.toNat < 256 := c.toNat_lt
  have := h ⟨c.toNat, hc⟩
  simpa using this
theorem isL_kN (c : UInt8) : isL c = decide (kN c.toNat = 0) := byte_all (p := fun c => isL c = decide (kN c.toNat = 0)) (by decide +kernel) c
theorem isW_kN (c : UInt8) : isW c = decide (kN c.toNat ≤ 1) := byte_all (p := fun c => isW c = decide (kN c.toNat ≤ 1)) (by decide +kernel) c
theorem isD_kN (c : UInt8) : isD c = decide (kN c.toNat = 1) := byte_all (p := fun c => isD c = decide (kN c.toNat = 1)) (by decide +kernel) c
theorem isB_kN (c : UInt8) : isB c = decide (kN c.toNat = 3) := byte_all (p := fun c => isB c = decide (kN c.toNat = 3)) (by decide +kernel) c
theorem isH_kN (c : UInt8) : isH c = decide (kN c.toNat = 4) := byte_all (p := fun c => isH c = decide (kN c.toNat = 4)) (by decide +kernel) c
theorem kN_le (c : UInt8) : kN c.toNat ≤ 6 := byte_all (p := fun c => kN c.toNat ≤ 6) (by decide +kernel) c

def nameB (T : List UInt8) : Bool := !T.isEmpty && decide (T.length ≤ 32) && decide (wdN T = T.length) && !kwL.contains T

set_option maxHeartbeats 1600000 in
theorem name_any (s : ByteArray) (w : World) (h : Kw w) (hs : s.size ≤ 1000000) :
    Calls Tryz.prog 117 #[.string s] w fun e w' => e = .returned (.bool (nameB s.data.toList)) ∧ Turn [] w w' := by
  have HK := Lib.hid h
  clear h
  have hl : s.data.toList.length = s.size := (Lib.size_eq s).symm
  by_cases h0 : s = ⟨#[]⟩
  · subst h0
    go_enter Tryz.func117, Tryz.ntmps117
    go_wp2_with fail
    go_ret
    exact ⟨rfl, Turn.refl _ _⟩
  · have e0 := bytes_ne h0
    have hne : s.data.toList.isEmpty = false := by rw [← ByteArray.toList_eq]; exact e0
    have HNE := Lib.hid hne
    have HL := Lib.hid hl
    clear h0 hne hl
    by_cases h32 : s.size ≤ 32
    · have d1 : decide ((s.size : Int) ≤ 32) = true := by simp; omega
      have d2 : (s.size : Int) ≤ 32 := by omega
      go_enter Tryz.func117, Tryz.ntmps117
      go_wp2_with fail
      refine (mkWord_any w).mono ?_
      rintro e w1 ⟨v, G, rfl, hm, t1, _⟩
      have HT1 := Lib.hid t1
      obtain ⟨_, k, caps, rfl, hen, hk⟩ := hm
      have HC := Lib.hid (hk w1 (fun _ _ => rfl) s hs)
      clear hk t1
      go_wp2_with fail
      refine HC.out.mono ?_
      rintro e w2 ⟨rfl, m, hm2⟩
      have HT2 : Hid (Turn [] w w2) := Lib.hid (by rw [hm2]; exact (HT1.out).drewN m)
      clear hm2
      by_cases hw : wdN s.data.toList = s.size
      · rw [hw]
        have HW := Lib.hid hw
        clear hw
        go_wp2_with fail
        refine (keyword_any s w2 (HK.out.turn HT2.out (by simp))).mono ?_
        rintro e w3 ⟨rfl, rfl⟩
        go_wp2_with fail
        go_ret
        refine ⟨ret_bool ?_, HT2.out⟩
        unfold nameB
        rw [HNE.out, HL.out, HW.out]
        simp [h32]
      · have d3 : decide ((wdN s.data.toList : Int) = (s.size : Int)) = false := by simp; omega
        have d4 : ((wdN s.data.toList : Int) == (s.size : Int)) = false := by simp; omega
        have d5 : ¬ (wdN s.data.toList : Int) = (s.size : Int) := by omega
        have d6 : decide (wdN s.data.toList = s.size) = false := by simpa using hw
        have HW := Lib.hid hw
        clear hw
        go_wp2_with fail
        go_ret
        refine ⟨ret_bool ?_, HT2.out⟩
        unfold nameB
        rw [HNE.out, HL.out]
        simp [HW.out]
    · have d1 : decide ((s.size : Int) ≤ 32) = false := by simp; omega
      have d2 : ¬ (s.size : Int) ≤ 32 := by omega
      go_enter Tryz.func117, Tryz.ntmps117
      go_wp2_with fail
      go_ret
      refine ⟨ret_bool ?_, Turn.refl _ _⟩
      unfold nameB
      rw [HNE.out, HL.out]
      simp [h32]

theorem tw_full (q : UInt8 → Bool) : ∀ r : List UInt8, (r.takeWhile q).length = r.length ↔ ∀ y ∈ r, q y = true
  | [] => by simp
  | y :: r => by
    have ih := tw_full q r
    have hle := (List.takeWhile_prefix q (l := r)).length_le
    cases hy : q y with
    | true =>
      simp only [List.takeWhile_cons, hy, if_true, List.length_cons, List.mem_cons, forall_eq_or_imp, true_and]
      rw [← ih]
      omega
    | false => simp [List.takeWhile_cons, hy]
theorem wdN_full (c : UInt8) (r : List UInt8) : (wdN (c :: r) = (c :: r).length) ↔ isL c = true ∧ ∀ y ∈ r, isW y = true := by
  simp only [wdN, runN, List.length_cons]
  rw [← tw_full isW r]
  constructor
  · intro h
    split at h
    · rename_i hc
      exact ⟨hc, by omega⟩
    · omega
  · rintro ⟨hc, h⟩
    rw [if_pos hc, h]
    omega

set_option maxHeartbeats 3200000 in
theorem refName_any (s : ByteArray) (w : World) (hs : s.size ≤ 1000000) :
    Calls Tryz.prog 18 #[.string s] w fun e w' => e = .returned (.bool (nameB s.data.toList)) ∧ Turn [] w w' := by
  have hl : s.data.toList.length = s.size := (Lib.size_eq s).symm
  by_cases h0 : s = ⟨#[]⟩
  · subst h0
    go_enter Tryz.func18, Tryz.ntmps18
    go_wp2_with fail
    go_ret
    exact ⟨rfl, Turn.refl _ _⟩
  · have e0 := bytes_ne h0
    have hpos : 0 < s.size := by
      rcases Nat.eq_zero_or_pos s.size with h | h
      · exact absurd (ByteArray.ext (Array.eq_empty_of_size_eq_zero h)) h0
      · exact h
    have hi0 : (0 : Int) < (s.size : Int) := by omega
    have ET : s.data.toList = s[0] :: s.data.toList.drop 1 := by
      have := data_get hpos
      cases hd : s.data.toList with
      | nil => rw [hd] at this; simp at this
      | cons a r => rw [hd] at this; simp at this; simp [this]
    have hnb : nameB s.data.toList = (decide (s.size ≤ 32) && (decide (kN s[0].toNat = 0) && decide (∀ y ∈ s.data.toList.drop 1, kN y.toNat ≤ 1)) && !kwL.contains s.data.toList) := by
      unfold nameB
      have e1 : s.data.toList.isEmpty = false := by rw [← ByteArray.toList_eq]; exact e0
      have e2 : decide (wdN s.data.toList = s.data.toList.length) = (decide (kN s[0].toNat = 0) && decide (∀ y ∈ s.data.toList.drop 1, kN y.toNat ≤ 1)) := by
        have := wdN_full s[0] (s.data.toList.drop 1)
        rw [← ET] at this
        simp only [this, isL_kN, isW_kN, decide_eq_true_eq]
        by_cases ha : kN s[0].toNat = 0 <;> by_cases hb : ∀ y ∈ s.data.toList.drop 1, kN y.toNat ≤ 1 <;> simp [ha, hb]
      rw [e1, e2, hl]
      simp
    have HNB := Lib.hid hnb
    have HL := Lib.hid hl
    clear h0 hl ET hnb
    by_cases h32 : 32 < s.size
    · have d1 : decide ((32 : Int) < (s.size : Int)) = true := by simp; omega
      have d2 : (32 : Int) < (s.size : Int) := by omega
      go_enter Tryz.func18, Tryz.ntmps18
      go_wp2_with fail
      go_ret
      refine ⟨ret_bool ?_, Turn.refl _ _⟩
      rw [HNB.out]
      simp; omega
    · have d1 : decide ((32 : Int) < (s.size : Int)) = false := by simp; omega
      have d2 : ¬ (32 : Int) < (s.size : Int) := by omega
      have d32 : decide (s.size ≤ 32) = true := by simp; omega
      obtain ⟨c0, hc0⟩ : ∃ c0, s[0].toNat = c0 := ⟨_, rfl⟩
      have hc0l : c0 < 256 := by rw [← hc0]; exact UInt8.toNat_lt _
      rw [hc0] at HNB
      by_cases hk : kN c0 = 0
      · go_enter Tryz.func18, Tryz.ntmps18
        go_wp2_with fail
        refine (kind_any c0 hc0l w).mono ?_
        rintro e w1 ⟨rfl, rfl⟩
        rw [hk]
        go_wp2_with fail
        refine (refKeyword_any s w1).mono ?_
        rintro e w2 ⟨rfl, t2⟩
        have HT2 := Lib.hid t2
        clear t2
        cases hkw : kwL.contains s.data.toList with
        | true =>
          go_wp2_with fail
          go_ret
          refine ⟨ret_bool ?_, HT2.out⟩
          rw [HNB.out, hkw]
          simp
        | false =>
          have HKW := Lib.hid hkw
          have HK0 := Lib.hid hk
          have HC0 := Lib.hid hc0
          clear hkw hk hc0
          go_wp2_with fail
          go_loopw [3] (fun ti wr => ∃ i : Nat, i ≤ s.size ∧ ti = .int .i64 (i : Int) ∧ Hid (∀ j y, j < i → s.data.toList[j]? = some y → kN y.toNat ≤ 1) ∧ w2 = wr) (fun ti _ => s.size - (intOf ti).toNat)
          case atStart => exact ⟨0, by omega, rfl, Lib.hid (fun j y hj => by omega), rfl⟩
          case round =>
            obtain ⟨i, hi, rfl, HA, rfl⟩ := hrel
            by_cases hlt : i < s.size
            · have f1 : decide ((i : Int) < (s.size : Int)) = true := by simp; omega
              have f2 : (i : Int) < (s.size : Int) := by omega
              have HDG := Lib.hid (data_get hlt)
              obtain ⟨ci, hci⟩ : ∃ ci, s[i].toNat = ci := ⟨_, rfl⟩
              have hcil : ci < 256 := by rw [← hci]; exact UInt8.toNat_lt _
              have HCI := Lib.hid hci
              clear hci
              go_wp2_with fail
              rw [HCI.out]
              refine (kind_any ci hcil w2).mono ?_
              rintro e w3 ⟨rfl, rfl⟩
              by_cases hki : 1 < kN ci
              · have g1 : decide ((1 : Int) < (kN ci : Int)) = true := by simp; omega
                have g2 : (1 : Int) < (kN ci : Int) := by omega
                go_wp2_with fail
                go_ret
                refine ⟨ret_bool ?_, HT2.out⟩
                rw [HNB.out]
                have : decide (∀ y ∈ s.data.toList.drop 1, kN y.toNat ≤ 1) = false := by
                  rw [decide_eq_false_iff_not]
                  intro hall
                  rcases Nat.eq_zero_or_pos i with hz | hz
                  · subst hz
                    have := HCI.out
                    rw [HC0.out] at this
                    rw [← this, HK0.out] at hki
                    omega
                  · have hm : s[i] ∈ s.data.toList.drop 1 := by
                      refine List.mem_of_getElem? (i := i - 1) ?_
                      rw [List.getElem?_drop, show 1 + (i - 1) = i by omega]
                      exact HDG.out
                    have := hall _ hm
                    rw [HCI.out] at this
                    omega
                rw [this]
                simp
              · have g1 : decide ((1 : Int) < (kN ci : Int)) = false := by simp; omega
                have g2 : ¬ (1 : Int) < (kN ci : Int) := by omega
                go_wp2_with fail
                go_roundw
                case rel =>
                  refine ⟨i + 1, by omega, by go_num, Lib.hid (fun j y hj hy => ?_), by first | rfl | trivial⟩
                  by_cases hji : j = i
                  · subst hji
                    have := HDG.out
                    rw [hy] at this
                    injection this with this
                    rw [this, HCI.out]
                    omega
                  · exact HA.out j y (by omega) hy
                case measure => simp [intOf]; omega
            · obtain rfl : i = s.size := by omega
              go_wp2_with fail
              go_ret
              refine ⟨ret_bool ?_, HT2.out⟩
              rw [HNB.out, HKW.out, HK0.out, d32]
              have : decide (∀ y ∈ s.data.toList.drop 1, kN y.toNat ≤ 1) = true := by
                rw [decide_eq_true_iff]
                intro y hy
                obtain ⟨j, hj⟩ := List.getElem?_of_mem hy
                rw [List.getElem?_drop] at hj
                exact HA.out (1 + j) y (by have := (List.getElem?_eq_some_iff.1 hj).1; have := HL.out; omega) hj
              rw [this]
              rfl
      · have d3 : decide ((kN c0 : Int) = 0) = false := by simp; omega
        have d4 : ((kN c0 : Int) == 0) = false := by simp; omega
        have d5 : ¬ (kN c0 : Int) = 0 := by omega
        go_enter Tryz.func18, Tryz.ntmps18
        go_wp2_with fail
        refine (kind_any c0 hc0l w).mono ?_
        rintro e w1 ⟨rfl, rfl⟩
        go_wp2_with fail
        go_ret
        refine ⟨ret_bool ?_, Turn.refl _ _⟩
        rw [HNB.out]
        simp [hk]
end Go.Proofs.YtnmhcgkccchacaaGreatDoor

/- The program's parser as a plain function of a text's tokens: the same steps, with what they read and how the reader stands. -/
set_option linter.unusedSimpArgs false
set_option linter.unusedVariables false
set_option maxRecDepth 100000
namespace Go.Proofs.YtnmhcgkccchacaaGreatDoor
open Go.RowKit

/-- How the reader stands: the tokens that are left; the fault and its place; is the next token one too many; how many blocks are open. -/
structure RS where
  l : List Tok
  e : Nat
  fl : Nat
  fc : Nat
  full : Bool
  deep : Nat

/-- A statement's fields. -/
structure Sf where
  d : Int
  x : ByteArray
  y : ByteArray
  z : ByteArray
  t : ByteArray
  f : ByteArray
  ag : List ByteArray
  n : Int
  bd : List St
  ot : List St
  ln : Int
  cl : Int
def Sf.st (s : Sf) : St := .mk s.d s.x s.y s.z s.t s.f s.ag s.n s.bd s.ot s.ln s.cl

def e0 : ByteArray := ⟨#[]⟩
/-- Is it a name: layer 5's Name. -/
abbrev isNm (t : List UInt8) : Bool := nameB t
def numN (t : List UInt8) : Nat := t.foldl (fun n c => n * 10 + (c.toNat - 48)) 0

def kInt : List UInt8 := [105, 110, 116]
def kVoid : List UInt8 := [118, 111, 105, 100]
def kClass : List UInt8 := [99, 108, 97, 115, 115]
def kFace : List UInt8 := [105, 110, 116, 101, 114, 102, 97, 99, 101]
def kExt : List UInt8 := [101, 120, 116, 101, 110, 100, 115]
def kImpl : List UInt8 := [105, 109, 112, 108, 101, 109, 101, 110, 116, 115]
def kField : List UInt8 := [102, 105, 101, 108, 100]
def kStatic : List UInt8 := [115, 116, 97, 116, 105, 99]
def kMethod : List UInt8 := [109, 101, 116, 104, 111, 100]
def kInit : List UInt8 := [105, 110, 105, 116]
def kMain : List UInt8 := [109, 97, 105, 110]
def kVar : List UInt8 := [118, 97, 114]
def kNew : List UInt8 := [110, 101, 119]
def kNull : List UInt8 := [110, 117, 108, 108]
def kInput : List UInt8 := [105, 110, 112, 117, 116]
def kThrow : List UInt8 := [116, 104, 114, 111, 119]
def kTry : List UInt8 := [116, 114, 121]
def kCatch : List UInt8 := [99, 97, 116, 99, 104]
def kIf : List UInt8 := [105, 102]
def kElse : List UInt8 := [101, 108, 115, 101]
def kWhile : List UInt8 := [119, 104, 105, 108, 101]
def kReturn : List UInt8 := [114, 101, 116, 117, 114, 110]

section
variable (en : Nat × Nat)
def atP (s : RS) : Nat × Nat := match s.l with | [] => en | t :: _ => (t.line, t.col)
def refuse (x : Nat) (s : RS) : RS :=
  if s.e = 0 then { s with l := [], e := x, fl := (atP en s).1, fc := (atP en s).2 } else { s with l := [] }
def pass (s : RS) : ByteArray × RS :=
  if s.full then (e0, refuse en 13 s) else match s.l with | [] => (e0, s) | t :: r => (⟨t.text.toArray⟩, { s with l := r })
def room (b : Bool) (s : RS) : RS := { s with full := b }
def sees (t : List UInt8) (s : RS) : Bool := match s.l with | [] => false | u :: _ => decide (u.text = t)
def seesAny (ts : List (List UInt8)) (s : RS) : Bool := ts.any fun t => sees t s
def row2 (a b : List UInt8) (s : RS) : Bool := match s.l with | u :: v :: _ => decide (u.text = a) && decide (v.text = b) | _ => false
def skip (t : List UInt8) (s : RS) : Bool × RS := if sees t s then (true, (pass en s).2) else (false, s)
def take (t : List UInt8) (s : RS) : RS := if sees t s then (pass en s).2 else refuse en 10 s
def takes (ts : List (List UInt8)) (s : RS) : RS := ts.foldl (fun s t => take en t s) s
def seesName (s : RS) : Bool := match s.l with | [] => false | u :: _ => isNm u.text
def seesNum (s : RS) : Bool := match s.l with | [] => false | u :: _ => decide (u.kind = 1)
def name (s : RS) : ByteArray × RS := if seesName s then pass en s else (e0, refuse en 10 s)
def finish (s : RS) : RS := match s.l with | [] => s | _ :: _ => refuse en 10 s

def many {α : Type} (begins : RS → Bool) (thing : RS → α × RS) (most : Nat) : Nat → List α → RS → List α × RS
  | 0, acc, s => (acc, s)
  | n + 1, acc, s => if begins s then
      let r := thing (room (decide (most ≤ acc.length)) s)
      many begins thing most n (acc ++ [r.1]) r.2
    else (acc, s)
def series {α : Type} (thing : RS → α × RS) : Nat → List α → RS → List α × RS
  | 0, acc, s => (acc, s)
  | n + 1, acc, s =>
      let r := thing (room (decide (40 ≤ acc.length)) s)
      let q := skip en [44] r.2
      if q.1 then series thing n (acc ++ [r.1]) q.2 else (acc ++ [r.1], q.2)

def thingType (s : RS) : ByteArray × RS :=
  let a := name en s
  let b := skip en [91] a.2
  if b.1 then (a.1 ++ ⟨#[91, 93]⟩, take en [93] b.2) else (a.1, b.2)
def anyType (s : RS) : ByteArray × RS :=
  let a := skip en kInt s
  if a.1 then (⟨kInt.toArray⟩, a.2) else thingType en a.2
def answer (s : RS) : ByteArray × RS :=
  let a := skip en kVoid s
  if a.1 then (⟨kVoid.toArray⟩, a.2) else anyType en a.2
def variable' (s : RS) : Vf × RS :=
  let a := anyType en s
  let b := name en a.2
  (⟨a.1, b.1, (atP en s).1, (atP en s).2⟩, b.2)
def declared (w : List UInt8) (s : RS) : Vf × RS :=
  let v := variable' en (take en w s)
  (v.1, take en [59] v.2)
def namesL (s : RS) : List ByteArray × RS := series en (name en) (s.l.length + 1) [] s
def varsL (s : RS) : List Vf × RS := series en (variable' en) (s.l.length + 1) [] s
def faces (w : List UInt8) (s : RS) : List ByteArray × RS :=
  let a := skip en w s
  if a.1 then namesL en a.2 else ([], a.2)

/-- Statements. -/
def called (p : Sf) (d : Int) (s : RS) : Bool × Sf × RS :=
  let a := skip en [40] s
  if a.1 then
    if sees [41] a.2 then (true, { p with d := d }, take en [41] a.2)
    else
      let r := namesL en a.2
      (true, { p with d := d, ag := r.1 }, take en [41] r.2)
  else (false, p, a.2)
def ofVariable (p : Sf) (nm : ByteArray) (s : RS) : Sf × RS :=
  let a := name en s
  let p := { p with y := nm, f := a.1 }
  let b := skip en [58, 58] a.2
  if b.1 then
    let c := name en b.2
    let p := { p with t := a.1, f := c.1 }
    let d := called en p 12 c.2
    if d.1 then (d.2.1, d.2.2) else (d.2.1, refuse en 10 d.2.2)
  else
    let d := called en p 11 b.2
    if d.1 then (d.2.1, d.2.2) else ({ d.2.1 with d := 5 }, d.2.2)
def put (p : Sf) (d : Int) (s : RS) : Sf × RS :=
  let a := name en (take en [61] s)
  ({ p with d := d, y := a.1 }, a.2)
def made (p : Sf) (s : RS) : Sf × RS :=
  let a := name en s
  let b := skip en [91] a.2
  if b.1 then ({ p with d := 1, t := a.1 }, take en [93] b.2) else ({ p with d := 0, t := a.1 }, b.2)
def worked (p : Sf) (nm : ByteArray) (s : RS) : Sf × RS :=
  let a := skip en [46] s
  if a.1 then ofVariable en p nm a.2
  else
    let a := skip en [58, 58] a.2
    if a.1 then
      let b := name en a.2
      let c := called en { p with t := nm, f := b.1 } 13 b.2
      if c.1 then (c.2.1, c.2.2) else ({ c.2.1 with d := 7 }, c.2.2)
    else
      let a := skip en [91] a.2
      if a.1 then
        let b := name en a.2
        ({ p with d := 9, y := nm, z := b.1 }, take en [93] b.2)
      else
        let a := skip en [43] a.2
        if a.1 then
          let b := name en a.2
          ({ p with d := 15, y := nm, z := b.1 }, b.2)
        else
          let a := skip en [45] a.2
          if a.1 then
            let b := name en a.2
            ({ p with d := 16, y := nm, z := b.1 }, b.2)
          else ({ p with d := 3, y := nm }, a.2)
def value (p : Sf) (s : RS) : Sf × RS :=
  let a := skip en kNew s
  if a.1 then made en p a.2
  else
    let a := skip en kNull a.2
    if a.1 then ({ p with d := 2 }, a.2)
    else
      let a := skip en kInput a.2
      if a.1 then ({ p with d := 17 }, a.2)
      else if seesNum a.2 then
        let b := pass en a.2
        ({ p with d := 14, n := (numN b.1.data.toList : Int) }, b.2)
      else
        let a := skip en [40] a.2
        if a.1 then
          let b := thingType en a.2
          let c := name en (take en [41] b.2)
          ({ p with d := 4, t := b.1, y := c.1 }, c.2)
        else
          let b := name en a.2
          worked en p b.1 b.2
def named (p : Sf) (s : RS) : Sf × RS :=
  let a := name en s
  let b := skip en [61] a.2
  if b.1 then
    let r := value en { p with x := a.1 } b.2
    (r.1, take en [59] r.2)
  else
    let b := skip en [91] b.2
    if b.1 then
      let c := name en b.2
      let d := name en (takes en [[93], [61]] c.2)
      ({ p with d := 10, x := a.1, z := c.1, y := d.1 }, take en [59] d.2)
    else
      let b := skip en [58, 58] b.2
      if b.1 then
        let c := name en b.2
        let d := called en { p with t := a.1, f := c.1 } 13 c.2
        if d.1 then (d.2.1, take en [59] d.2.2)
        else
          let q := put en d.2.1 8 d.2.2
          (q.1, take en [59] q.2)
      else
        let c := ofVariable en p a.1 (take en [46] b.2)
        if c.1.d = 5 then
          let q := put en { c.1 with x := a.1 } 6 c.2
          (q.1, take en [59] q.2)
        else (c.1, take en [59] c.2)
def back (p : Sf) (s : RS) : Sf × RS :=
  if sees [59] s then ({ p with d := 22 }, take en [59] s)
  else
    let a := name en s
    ({ p with d := 22, x := a.1 }, take en [59] a.2)
def less (p : Sf) (s : RS) : Sf × RS :=
  let a := name en (take en [40] s)
  let b := name en (take en [60] a.2)
  ({ p with y := a.1, z := b.1 }, take en [41] b.2)
def beginsStmt (s : RS) : Bool := seesName s || seesAny [kThrow, kTry, kIf, kWhile, kReturn] s
/-- Blocks, from what a statement is. -/
def stmtsW (st : RS → St × RS) (s : RS) : List St × RS := many beginsStmt st 40 (s.l.length + 1) [] s
def nestedW (st : RS → St × RS) (s : RS) : List St × RS :=
  let s := take en [123] (room (decide (8 ≤ s.deep)) s)
  let r := stmtsW st { s with deep := s.deep + 1 }
  (r.1, take en [125] { r.2 with deep := r.2.deep - 1 })
def tryW (st : RS → St × RS) (p : Sf) (s : RS) : Sf × RS :=
  let a := nestedW en st s
  let b := name en (takes en [kCatch, [40]] a.2)
  let c := name en b.2
  let d := nestedW en st (take en [41] c.2)
  ({ p with d := 19, bd := a.1, t := b.1, x := c.1, ot := d.1 }, d.2)
def choiceW (st : RS → St × RS) (p : Sf) (s : RS) : Sf × RS :=
  let a := less en { p with d := 20 } s
  let b := nestedW en st a.2
  let c := skip en kElse b.2
  if c.1 then
    let d := nestedW en st c.2
    ({ a.1 with bd := b.1, ot := d.1 }, d.2)
  else ({ a.1 with bd := b.1 }, c.2)
def loopW (st : RS → St × RS) (p : Sf) (s : RS) : Sf × RS :=
  let a := less en { p with d := 21 } s
  let b := nestedW en st a.2
  ({ a.1 with bd := b.1 }, b.2)
def sf0 (p : Nat × Nat) : Sf := ⟨0, e0, e0, e0, e0, e0, [], 0, [], [], p.1, p.2⟩
def stmtF (st : RS → St × RS) (s : RS) : Sf × RS :=
  let p := sf0 (atP en s)
  let a := skip en kThrow s
  if a.1 then
    let b := name en a.2
    ({ p with d := 18, x := b.1 }, take en [59] b.2)
  else
    let a := skip en kReturn a.2
    if a.1 then back en p a.2
    else
      let a := skip en kTry a.2
      if a.1 then tryW en st p a.2
      else
        let a := skip en kIf a.2
        if a.1 then choiceW en st p a.2
        else
          let a := skip en kWhile a.2
          if a.1 then loopW en st p a.2
          else named en p a.2
def stmtN : Nat → RS → St × RS
  | 0, s => ((sf0 (0, 0)).st, s)
  | n + 1, s => let r := stmtF en (stmtN n) s; (r.1.st, r.2)
def stmt (s : RS) : St × RS := stmtN en 10 s

/-- Methods, classes, programs. -/
def block (m : Mf) (s : RS) : Mf × RS :=
  let s := take en [123] s
  let a := many (sees kVar) (declared en kVar) 40 (s.l.length + 1) [] s
  let b := stmtsW (stmt en) a.2
  ({ m with ls := a.1, bd := b.1 }, take en [125] b.2)
def head (m : Mf) (s : RS) : Mf × RS :=
  let a := answer en (take en kMethod s)
  let b := name en a.2
  let s := take en [40] b.2
  if sees [41] s then ({ m with ret := a.1, nm := b.1 }, take en [41] s)
  else
    let c := varsL en s
    ({ m with ret := a.1, nm := b.1, ps := c.1 }, take en [41] c.2)
def mf0 (p : Nat × Nat) : Mf := ⟨e0, e0, false, false, [], [], [], p.1, p.2⟩
def signature (s : RS) : Mf × RS :=
  let a := head en { mf0 (atP en s) with bare := true } s
  (a.1, take en [59] a.2)
def method (s : RS) : Mf × RS :=
  let a := skip en kStatic s
  let b := head en { mf0 (atP en s) with stat := a.1 } a.2
  block en b.1 b.2
def routine (w : List UInt8) (s : RS) : Mf × RS :=
  block en { mf0 (atP en s) with ret := ⟨kVoid.toArray⟩, nm := ⟨w.toArray⟩, stat := true } (take en w s)
def setup (c : Cf) (s : RS) : Cf × RS :=
  match c.ini with
  | some _ => (c, refuse en 10 s)
  | none => let m := routine en kInit s; ({ c with ini := some m.1 }, m.2)
def member (c : Cf) (s : RS) : Cf × RS :=
  if sees kField s then
    let v := declared en kField (room (decide (40 ≤ c.fd.length)) s)
    ({ c with fd := c.fd ++ [v.1] }, v.2)
  else if sees kInit s then setup en c s
  else if row2 kStatic kMethod s || sees kMethod s then
    let m := method en (room (decide (40 ≤ c.ms.length)) s)
    ({ c with ms := c.ms ++ [m.1] }, m.2)
  else
    let v := declared en kStatic (room (decide (40 ≤ c.sc.length)) s)
    ({ c with sc := c.sc ++ [v.1] }, v.2)
def members : Nat → Cf → RS → Cf × RS
  | 0, c, s => (c, s)
  | n + 1, c, s => if seesAny [kField, kStatic, kMethod, kInit] s then
      let r := member en c s
      members n r.1 r.2
    else (c, s)
def cf0 (p : Nat × Nat) : Cf := ⟨e0, e0, false, [], [], [], [], none, p.1, p.2⟩
def face (s : RS) : Cf × RS :=
  let a := name en (take en kFace s)
  let b := faces en kExt a.2
  let t := take en [123] b.2
  let c := many (sees kMethod) (signature en) 40 (t.l.length + 1) [] t
  ({ cf0 (atP en s) with face := true, nm := a.1, fs := b.1, ms := c.1 }, take en [125] c.2)
def class' (s : RS) : Cf × RS :=
  let a := name en (take en kClass s)
  let x := skip en kExt a.2
  let b := if x.1 then name en x.2 else (e0, x.2)
  let f := faces en kImpl b.2
  let t := take en [123] f.2
  let c := members en (t.l.length + 1) { cf0 (atP en s) with nm := a.1, sup := b.1, fs := f.1 } t
  (c.1, take en [125] c.2)
def either (s : RS) : Cf × RS := if sees kFace s then face en s else class' en s
def program (s : RS) : Gf × RS :=
  let a := many (seesAny [kClass, kFace]) (either en) 60 (s.l.length + 1) [] s
  let m := routine en kMain a.2
  (⟨a.1, m.1⟩, m.2)
end
end Go.Proofs.YtnmhcgkccchacaaGreatDoor

/- What the plain parser keeps: the tokens that are left are a tail of those before, as deep as before; a thing that begins takes a token. Printed by mkmil.py. -/
set_option linter.unusedSimpArgs false
set_option linter.unusedVariables false
namespace Go.Proofs.YtnmhcgkccchacaaGreatDoor
open Go.RowKit

def Le (s s' : RS) : Prop := s'.deep = s.deep ∧ s'.l <:+ s.l
theorem Le.refl (s : RS) : Le s s := ⟨rfl, List.suffix_refl _⟩
theorem Le.trans {a b c : RS} (h : Le a b) (k : Le b c) : Le a c := ⟨k.1.trans h.1, k.2.trans h.2⟩
theorem Le.len {a b : RS} (h : Le a b) : b.l.length ≤ a.l.length := h.2.length_le
section
variable {en : Nat × Nat} {s a : RS}
theorem refuse_le (x : Nat) (h : Le s a) : Le s (refuse en x a) := by
  refine h.trans ?_
  unfold refuse
  split
  · exact ⟨rfl, List.nil_suffix⟩
  · exact ⟨rfl, List.nil_suffix⟩
theorem room_le (b : Bool) (h : Le s a) : Le s (room b a) := h.trans ⟨rfl, List.suffix_refl _⟩
theorem pass_le (h : Le s a) : Le s (pass en a).2 := by
  unfold pass
  split
  · exact refuse_le 13 h
  · split
    · exact h
    · rename_i t r e
      refine h.trans ⟨rfl, ?_⟩
      rw [e]
      exact List.suffix_cons _ _
theorem skip_le (t : List UInt8) (h : Le s a) : Le s (skip en t a).2 := by
  unfold skip
  split
  · exact pass_le h
  · exact h
theorem take_le (t : List UInt8) (h : Le s a) : Le s (take en t a) := by
  unfold take
  split
  · exact pass_le h
  · exact refuse_le 10 h
theorem takes_le : ∀ (ts : List (List UInt8)) {a : RS}, Le s a → Le s (takes en ts a)
  | [], a, h => h
  | t :: ts, a, h => takes_le ts (take_le t h)
theorem name_le (h : Le s a) : Le s (name en a).2 := by
  unfold name
  split
  · exact pass_le h
  · exact refuse_le 10 h
theorem finish_le (h : Le s a) : Le s (finish en a) := by
  unfold finish
  split
  · exact h
  · exact refuse_le 10 h
theorem many_le {α : Type} {begins : RS → Bool} {thing : RS → α × RS} (ht : ∀ s, Le s (thing s).2) (most : Nat) : ∀ (n : Nat) (acc : List α) {a : RS}, Le s a → Le s (many begins thing most n acc a).2
  | 0, acc, a, h => h
  | n + 1, acc, a, h => by
    unfold many
    split
    · exact many_le ht most n _ ((room_le _ h).trans (ht _))
    · exact h
theorem series_le {α : Type} {thing : RS → α × RS} (ht : ∀ s, Le s (thing s).2) : ∀ (n : Nat) (acc : List α) {a : RS}, Le s a → Le s (series en thing n acc a).2
  | 0, acc, a, h => h
  | n + 1, acc, a, h => by
    unfold series
    dsimp only
    split
    · exact series_le ht n _ (skip_le _ ((room_le _ h).trans (ht _)))
    · exact skip_le _ ((room_le _ h).trans (ht _))

theorem thingType_le (h : Le s a) : Le s (thingType en a).2 := by
  unfold thingType
  (try dsimp only)
  (repeat' split)
  all_goals (repeat (first | with_reducible assumption | with_reducible exact Le.refl _ | with_reducible apply refuse_le | with_reducible apply room_le | with_reducible apply pass_le | with_reducible apply skip_le | with_reducible apply take_le | with_reducible apply takes_le | with_reducible apply name_le))

theorem anyType_le (h : Le s a) : Le s (anyType en a).2 := by
  unfold anyType
  (try dsimp only)
  (repeat' split)
  all_goals (repeat (first | with_reducible assumption | with_reducible exact Le.refl _ | with_reducible apply refuse_le | with_reducible apply room_le | with_reducible apply pass_le | with_reducible apply skip_le | with_reducible apply take_le | with_reducible apply takes_le | with_reducible apply name_le | with_reducible apply thingType_le))

theorem answer_le (h : Le s a) : Le s (answer en a).2 := by
  unfold answer
  (try dsimp only)
  (repeat' split)
  all_goals (repeat (first | with_reducible assumption | with_reducible exact Le.refl _ | with_reducible apply refuse_le | with_reducible apply room_le | with_reducible apply pass_le | with_reducible apply skip_le | with_reducible apply take_le | with_reducible apply takes_le | with_reducible apply name_le | with_reducible apply thingType_le | with_reducible apply anyType_le))

theorem variable_le (h : Le s a) : Le s (variable' en a).2 := by
  unfold variable'
  (try dsimp only)
  (repeat' split)
  all_goals (repeat (first | with_reducible assumption | with_reducible exact Le.refl _ | with_reducible apply refuse_le | with_reducible apply room_le | with_reducible apply pass_le | with_reducible apply skip_le | with_reducible apply take_le | with_reducible apply takes_le | with_reducible apply name_le | with_reducible apply thingType_le | with_reducible apply anyType_le | with_reducible apply answer_le))

theorem declared_le (w : List UInt8) (h : Le s a) : Le s (declared en w a).2 := by
  unfold declared
  (try dsimp only)
  (repeat' split)
  all_goals (repeat (first | with_reducible assumption | with_reducible exact Le.refl _ | with_reducible apply refuse_le | with_reducible apply room_le | with_reducible apply pass_le | with_reducible apply skip_le | with_reducible apply take_le | with_reducible apply takes_le | with_reducible apply name_le | with_reducible apply thingType_le | with_reducible apply anyType_le | with_reducible apply answer_le | with_reducible apply variable_le))

theorem namesL_le (h : Le s a) : Le s (namesL en a).2 := series_le (fun s => name_le (Le.refl s)) _ _ h

theorem varsL_le (h : Le s a) : Le s (varsL en a).2 := series_le (fun s => variable_le (Le.refl s)) _ _ h

theorem faces_le (w : List UInt8) (h : Le s a) : Le s (faces en w a).2 := by
  unfold faces
  (try dsimp only)
  (repeat' split)
  all_goals (repeat (first | with_reducible assumption | with_reducible exact Le.refl _ | with_reducible apply refuse_le | with_reducible apply room_le | with_reducible apply pass_le | with_reducible apply skip_le | with_reducible apply take_le | with_reducible apply takes_le | with_reducible apply name_le | with_reducible apply thingType_le | with_reducible apply anyType_le | with_reducible apply answer_le | with_reducible apply variable_le | with_reducible apply declared_le | with_reducible apply namesL_le | with_reducible apply varsL_le))

theorem called_le (p : Sf) (d : Int) (h : Le s a) : Le s (called en p d a).2.2 := by
  unfold called
  (try dsimp only)
  (repeat' split)
  all_goals (repeat (first | with_reducible assumption | with_reducible exact Le.refl _ | with_reducible apply refuse_le | with_reducible apply room_le | with_reducible apply pass_le | with_reducible apply skip_le | with_reducible apply take_le | with_reducible apply takes_le | with_reducible apply name_le | with_reducible apply thingType_le | with_reducible apply anyType_le | with_reducible apply answer_le | with_reducible apply variable_le | with_reducible apply declared_le | with_reducible apply namesL_le | with_reducible apply varsL_le | with_reducible apply faces_le))

theorem ofVariable_le (p : Sf) (nm : ByteArray) (h : Le s a) : Le s (ofVariable en p nm a).2 := by
  unfold ofVariable
  (try dsimp only)
  (repeat' split)
  all_goals (repeat (first | with_reducible assumption | with_reducible exact Le.refl _ | with_reducible apply refuse_le | with_reducible apply room_le | with_reducible apply pass_le | with_reducible apply skip_le | with_reducible apply take_le | with_reducible apply takes_le | with_reducible apply name_le | with_reducible apply thingType_le | with_reducible apply anyType_le | with_reducible apply answer_le | with_reducible apply variable_le | with_reducible apply declared_le | with_reducible apply namesL_le | with_reducible apply varsL_le | with_reducible apply faces_le | with_reducible apply called_le))

theorem put_le (p : Sf) (d : Int) (h : Le s a) : Le s (put en p d a).2 := by
  unfold put
  (try dsimp only)
  (repeat' split)
  all_goals (repeat (first | with_reducible assumption | with_reducible exact Le.refl _ | with_reducible apply refuse_le | with_reducible apply room_le | with_reducible apply pass_le | with_reducible apply skip_le | with_reducible apply take_le | with_reducible apply takes_le | with_reducible apply name_le | with_reducible apply thingType_le | with_reducible apply anyType_le | with_reducible apply answer_le | with_reducible apply variable_le | with_reducible apply declared_le | with_reducible apply namesL_le | with_reducible apply varsL_le | with_reducible apply faces_le | with_reducible apply called_le | with_reducible apply ofVariable_le))

theorem made_le (p : Sf) (h : Le s a) : Le s (made en p a).2 := by
  unfold made
  (try dsimp only)
  (repeat' split)
  all_goals (repeat (first | with_reducible assumption | with_reducible exact Le.refl _ | with_reducible apply refuse_le | with_reducible apply room_le | with_reducible apply pass_le | with_reducible apply skip_le | with_reducible apply take_le | with_reducible apply takes_le | with_reducible apply name_le | with_reducible apply thingType_le | with_reducible apply anyType_le | with_reducible apply answer_le | with_reducible apply variable_le | with_reducible apply declared_le | with_reducible apply namesL_le | with_reducible apply varsL_le | with_reducible apply faces_le | with_reducible apply called_le | with_reducible apply ofVariable_le | with_reducible apply put_le))

theorem worked_le (p : Sf) (nm : ByteArray) (h : Le s a) : Le s (worked en p nm a).2 := by
  unfold worked
  (try dsimp only)
  (repeat' split)
  all_goals (repeat (first | with_reducible assumption | with_reducible exact Le.refl _ | with_reducible apply refuse_le | with_reducible apply room_le | with_reducible apply pass_le | with_reducible apply skip_le | with_reducible apply take_le | with_reducible apply takes_le | with_reducible apply name_le | with_reducible apply thingType_le | with_reducible apply anyType_le | with_reducible apply answer_le | with_reducible apply variable_le | with_reducible apply declared_le | with_reducible apply namesL_le | with_reducible apply varsL_le | with_reducible apply faces_le | with_reducible apply called_le | with_reducible apply ofVariable_le | with_reducible apply put_le | with_reducible apply made_le))

theorem value_le (p : Sf) (h : Le s a) : Le s (value en p a).2 := by
  unfold value
  (try dsimp only)
  (repeat' split)
  all_goals (repeat (first | with_reducible assumption | with_reducible exact Le.refl _ | with_reducible apply refuse_le | with_reducible apply room_le | with_reducible apply pass_le | with_reducible apply skip_le | with_reducible apply take_le | with_reducible apply takes_le | with_reducible apply name_le | with_reducible apply thingType_le | with_reducible apply anyType_le | with_reducible apply answer_le | with_reducible apply variable_le | with_reducible apply declared_le | with_reducible apply namesL_le | with_reducible apply varsL_le | with_reducible apply faces_le | with_reducible apply called_le | with_reducible apply ofVariable_le | with_reducible apply put_le | with_reducible apply made_le | with_reducible apply worked_le))

theorem named_le (p : Sf) (h : Le s a) : Le s (named en p a).2 := by
  unfold named
  (try dsimp only)
  (repeat' split)
  all_goals (repeat (first | with_reducible assumption | with_reducible exact Le.refl _ | with_reducible apply refuse_le | with_reducible apply room_le | with_reducible apply pass_le | with_reducible apply skip_le | with_reducible apply take_le | with_reducible apply takes_le | with_reducible apply name_le | with_reducible apply thingType_le | with_reducible apply anyType_le | with_reducible apply answer_le | with_reducible apply variable_le | with_reducible apply declared_le | with_reducible apply namesL_le | with_reducible apply varsL_le | with_reducible apply faces_le | with_reducible apply called_le | with_reducible apply ofVariable_le | with_reducible apply put_le | with_reducible apply made_le | with_reducible apply worked_le | with_reducible apply value_le))

theorem back_le (p : Sf) (h : Le s a) : Le s (back en p a).2 := by
  unfold back
  (try dsimp only)
  (repeat' split)
  all_goals (repeat (first | with_reducible assumption | with_reducible exact Le.refl _ | with_reducible apply refuse_le | with_reducible apply room_le | with_reducible apply pass_le | with_reducible apply skip_le | with_reducible apply take_le | with_reducible apply takes_le | with_reducible apply name_le | with_reducible apply thingType_le | with_reducible apply anyType_le | with_reducible apply answer_le | with_reducible apply variable_le | with_reducible apply declared_le | with_reducible apply namesL_le | with_reducible apply varsL_le | with_reducible apply faces_le | with_reducible apply called_le | with_reducible apply ofVariable_le | with_reducible apply put_le | with_reducible apply made_le | with_reducible apply worked_le | with_reducible apply value_le | with_reducible apply named_le))

theorem less_le (p : Sf) (h : Le s a) : Le s (less en p a).2 := by
  unfold less
  (try dsimp only)
  (repeat' split)
  all_goals (repeat (first | with_reducible assumption | with_reducible exact Le.refl _ | with_reducible apply refuse_le | with_reducible apply room_le | with_reducible apply pass_le | with_reducible apply skip_le | with_reducible apply take_le | with_reducible apply takes_le | with_reducible apply name_le | with_reducible apply thingType_le | with_reducible apply anyType_le | with_reducible apply answer_le | with_reducible apply variable_le | with_reducible apply declared_le | with_reducible apply namesL_le | with_reducible apply varsL_le | with_reducible apply faces_le | with_reducible apply called_le | with_reducible apply ofVariable_le | with_reducible apply put_le | with_reducible apply made_le | with_reducible apply worked_le | with_reducible apply value_le | with_reducible apply named_le | with_reducible apply back_le))

theorem stmtsW_le {st : RS → St × RS} (hs : ∀ s, Le s (st s).2) (h : Le s a) : Le s (stmtsW st a).2 := many_le hs _ _ _ h
theorem nestedW_le {st : RS → St × RS} (hs : ∀ s, Le s (st s).2) (h : Le s a) : Le s (nestedW en st a).2 := by
  have h1 := take_le (en := en) [123] (room_le (decide (8 ≤ a.deep)) (Le.refl a))
  unfold nestedW
  dsimp only
  refine h.trans (take_le _ ?_)
  obtain ⟨b, hb⟩ : ∃ b, take en [123] (room (decide (8 ≤ a.deep)) a) = b := ⟨_, rfl⟩
  rw [hb] at h1 ⊢
  have h2 := stmtsW_le hs (Le.refl { b with deep := b.deep + 1 })
  exact ⟨by simp only; rw [h2.1]; simp only; rw [h1.1]; omega, h2.2.trans h1.2⟩

theorem tryW_le {st : RS → St × RS} (hs : ∀ s, Le s (st s).2) (p : Sf) (h : Le s a) : Le s (tryW en st p a).2 := by
  unfold tryW
  (try dsimp only)
  (repeat' split)
  all_goals (repeat (first | with_reducible assumption | with_reducible exact Le.refl _ | with_reducible apply nestedW_le hs | with_reducible apply refuse_le | with_reducible apply room_le | with_reducible apply pass_le | with_reducible apply skip_le | with_reducible apply take_le | with_reducible apply takes_le | with_reducible apply name_le | with_reducible apply thingType_le | with_reducible apply anyType_le | with_reducible apply answer_le | with_reducible apply variable_le | with_reducible apply declared_le | with_reducible apply namesL_le | with_reducible apply varsL_le | with_reducible apply faces_le | with_reducible apply called_le | with_reducible apply ofVariable_le | with_reducible apply put_le | with_reducible apply made_le | with_reducible apply worked_le | with_reducible apply value_le | with_reducible apply named_le | with_reducible apply back_le | with_reducible apply less_le))

theorem choiceW_le {st : RS → St × RS} (hs : ∀ s, Le s (st s).2) (p : Sf) (h : Le s a) : Le s (choiceW en st p a).2 := by
  unfold choiceW
  (try dsimp only)
  (repeat' split)
  all_goals (repeat (first | with_reducible assumption | with_reducible exact Le.refl _ | with_reducible apply nestedW_le hs | with_reducible apply refuse_le | with_reducible apply room_le | with_reducible apply pass_le | with_reducible apply skip_le | with_reducible apply take_le | with_reducible apply takes_le | with_reducible apply name_le | with_reducible apply thingType_le | with_reducible apply anyType_le | with_reducible apply answer_le | with_reducible apply variable_le | with_reducible apply declared_le | with_reducible apply namesL_le | with_reducible apply varsL_le | with_reducible apply faces_le | with_reducible apply called_le | with_reducible apply ofVariable_le | with_reducible apply put_le | with_reducible apply made_le | with_reducible apply worked_le | with_reducible apply value_le | with_reducible apply named_le | with_reducible apply back_le | with_reducible apply less_le))

theorem loopW_le {st : RS → St × RS} (hs : ∀ s, Le s (st s).2) (p : Sf) (h : Le s a) : Le s (loopW en st p a).2 := by
  unfold loopW
  (try dsimp only)
  (repeat' split)
  all_goals (repeat (first | with_reducible assumption | with_reducible exact Le.refl _ | with_reducible apply nestedW_le hs | with_reducible apply refuse_le | with_reducible apply room_le | with_reducible apply pass_le | with_reducible apply skip_le | with_reducible apply take_le | with_reducible apply takes_le | with_reducible apply name_le | with_reducible apply thingType_le | with_reducible apply anyType_le | with_reducible apply answer_le | with_reducible apply variable_le | with_reducible apply declared_le | with_reducible apply namesL_le | with_reducible apply varsL_le | with_reducible apply faces_le | with_reducible apply called_le | with_reducible apply ofVariable_le | with_reducible apply put_le | with_reducible apply made_le | with_reducible apply worked_le | with_reducible apply value_le | with_reducible apply named_le | with_reducible apply back_le | with_reducible apply less_le))

theorem stmtF_le {st : RS → St × RS} (hs : ∀ s, Le s (st s).2) (h : Le s a) : Le s (stmtF en st a).2 := by
  unfold stmtF
  dsimp only
  (repeat' split)
  all_goals (repeat (first | with_reducible assumption | with_reducible exact Le.refl _ | with_reducible apply tryW_le hs | with_reducible apply choiceW_le hs | with_reducible apply loopW_le hs | with_reducible apply refuse_le | with_reducible apply room_le | with_reducible apply pass_le | with_reducible apply skip_le | with_reducible apply take_le | with_reducible apply takes_le | with_reducible apply name_le | with_reducible apply thingType_le | with_reducible apply anyType_le | with_reducible apply answer_le | with_reducible apply variable_le | with_reducible apply declared_le | with_reducible apply namesL_le | with_reducible apply varsL_le | with_reducible apply faces_le | with_reducible apply called_le | with_reducible apply ofVariable_le | with_reducible apply put_le | with_reducible apply made_le | with_reducible apply worked_le | with_reducible apply value_le | with_reducible apply named_le | with_reducible apply back_le | with_reducible apply less_le))
theorem stmtN_le : ∀ (n : Nat) (s : RS), Le s (stmtN en n s).2
  | 0, s => Le.refl s
  | n + 1, s => stmtF_le (stmtN_le n) (Le.refl s)
theorem stmt_le (h : Le s a) : Le s (stmt en a).2 := h.trans (stmtN_le 10 a)
theorem stmts_le (h : Le s a) : Le s (stmtsW (stmt en) a).2 := stmtsW_le (fun s => stmt_le (Le.refl s)) h

theorem manyD_le (w : List UInt8) (f : RS → Bool) (m n : Nat) (acc : List Vf) (h : Le s a) : Le s (many f (declared en w) m n acc a).2 := many_le (fun s => declared_le w (Le.refl s)) _ _ _ h

theorem block_le (m : Mf) (h : Le s a) : Le s (block en m a).2 := by
  unfold block
  (try dsimp only)
  (repeat' split)
  all_goals (repeat (first | with_reducible assumption | with_reducible exact Le.refl _ | with_reducible apply refuse_le | with_reducible apply room_le | with_reducible apply pass_le | with_reducible apply skip_le | with_reducible apply take_le | with_reducible apply takes_le | with_reducible apply name_le | with_reducible apply thingType_le | with_reducible apply anyType_le | with_reducible apply answer_le | with_reducible apply variable_le | with_reducible apply declared_le | with_reducible apply namesL_le | with_reducible apply varsL_le | with_reducible apply faces_le | with_reducible apply called_le | with_reducible apply ofVariable_le | with_reducible apply put_le | with_reducible apply made_le | with_reducible apply worked_le | with_reducible apply value_le | with_reducible apply named_le | with_reducible apply back_le | with_reducible apply less_le | with_reducible apply stmt_le | with_reducible apply stmts_le | with_reducible apply manyD_le))

theorem head_le (m : Mf) (h : Le s a) : Le s (head en m a).2 := by
  unfold head
  (try dsimp only)
  (repeat' split)
  all_goals (repeat (first | with_reducible assumption | with_reducible exact Le.refl _ | with_reducible apply refuse_le | with_reducible apply room_le | with_reducible apply pass_le | with_reducible apply skip_le | with_reducible apply take_le | with_reducible apply takes_le | with_reducible apply name_le | with_reducible apply thingType_le | with_reducible apply anyType_le | with_reducible apply answer_le | with_reducible apply variable_le | with_reducible apply declared_le | with_reducible apply namesL_le | with_reducible apply varsL_le | with_reducible apply faces_le | with_reducible apply called_le | with_reducible apply ofVariable_le | with_reducible apply put_le | with_reducible apply made_le | with_reducible apply worked_le | with_reducible apply value_le | with_reducible apply named_le | with_reducible apply back_le | with_reducible apply less_le | with_reducible apply stmt_le | with_reducible apply stmts_le | with_reducible apply manyD_le | with_reducible apply block_le))

theorem signature_le (h : Le s a) : Le s (signature en a).2 := by
  unfold signature
  (try dsimp only)
  (repeat' split)
  all_goals (repeat (first | with_reducible assumption | with_reducible exact Le.refl _ | with_reducible apply refuse_le | with_reducible apply room_le | with_reducible apply pass_le | with_reducible apply skip_le | with_reducible apply take_le | with_reducible apply takes_le | with_reducible apply name_le | with_reducible apply thingType_le | with_reducible apply anyType_le | with_reducible apply answer_le | with_reducible apply variable_le | with_reducible apply declared_le | with_reducible apply namesL_le | with_reducible apply varsL_le | with_reducible apply faces_le | with_reducible apply called_le | with_reducible apply ofVariable_le | with_reducible apply put_le | with_reducible apply made_le | with_reducible apply worked_le | with_reducible apply value_le | with_reducible apply named_le | with_reducible apply back_le | with_reducible apply less_le | with_reducible apply stmt_le | with_reducible apply stmts_le | with_reducible apply manyD_le | with_reducible apply block_le | with_reducible apply head_le))

theorem method_le (h : Le s a) : Le s (method en a).2 := by
  unfold method
  (try dsimp only)
  (repeat' split)
  all_goals (repeat (first | with_reducible assumption | with_reducible exact Le.refl _ | with_reducible apply refuse_le | with_reducible apply room_le | with_reducible apply pass_le | with_reducible apply skip_le | with_reducible apply take_le | with_reducible apply takes_le | with_reducible apply name_le | with_reducible apply thingType_le | with_reducible apply anyType_le | with_reducible apply answer_le | with_reducible apply variable_le | with_reducible apply declared_le | with_reducible apply namesL_le | with_reducible apply varsL_le | with_reducible apply faces_le | with_reducible apply called_le | with_reducible apply ofVariable_le | with_reducible apply put_le | with_reducible apply made_le | with_reducible apply worked_le | with_reducible apply value_le | with_reducible apply named_le | with_reducible apply back_le | with_reducible apply less_le | with_reducible apply stmt_le | with_reducible apply stmts_le | with_reducible apply manyD_le | with_reducible apply block_le | with_reducible apply head_le | with_reducible apply signature_le))

theorem routine_le (w : List UInt8) (h : Le s a) : Le s (routine en w a).2 := by
  unfold routine
  (try dsimp only)
  (repeat' split)
  all_goals (repeat (first | with_reducible assumption | with_reducible exact Le.refl _ | with_reducible apply refuse_le | with_reducible apply room_le | with_reducible apply pass_le | with_reducible apply skip_le | with_reducible apply take_le | with_reducible apply takes_le | with_reducible apply name_le | with_reducible apply thingType_le | with_reducible apply anyType_le | with_reducible apply answer_le | with_reducible apply variable_le | with_reducible apply declared_le | with_reducible apply namesL_le | with_reducible apply varsL_le | with_reducible apply faces_le | with_reducible apply called_le | with_reducible apply ofVariable_le | with_reducible apply put_le | with_reducible apply made_le | with_reducible apply worked_le | with_reducible apply value_le | with_reducible apply named_le | with_reducible apply back_le | with_reducible apply less_le | with_reducible apply stmt_le | with_reducible apply stmts_le | with_reducible apply manyD_le | with_reducible apply block_le | with_reducible apply head_le | with_reducible apply signature_le | with_reducible apply method_le))

theorem setup_le (c : Cf) (h : Le s a) : Le s (setup en c a).2 := by
  unfold setup
  (try dsimp only)
  (repeat' split)
  all_goals (repeat (first | with_reducible assumption | with_reducible exact Le.refl _ | with_reducible apply refuse_le | with_reducible apply room_le | with_reducible apply pass_le | with_reducible apply skip_le | with_reducible apply take_le | with_reducible apply takes_le | with_reducible apply name_le | with_reducible apply thingType_le | with_reducible apply anyType_le | with_reducible apply answer_le | with_reducible apply variable_le | with_reducible apply declared_le | with_reducible apply namesL_le | with_reducible apply varsL_le | with_reducible apply faces_le | with_reducible apply called_le | with_reducible apply ofVariable_le | with_reducible apply put_le | with_reducible apply made_le | with_reducible apply worked_le | with_reducible apply value_le | with_reducible apply named_le | with_reducible apply back_le | with_reducible apply less_le | with_reducible apply stmt_le | with_reducible apply stmts_le | with_reducible apply manyD_le | with_reducible apply block_le | with_reducible apply head_le | with_reducible apply signature_le | with_reducible apply method_le | with_reducible apply routine_le))

theorem member_le (c : Cf) (h : Le s a) : Le s (member en c a).2 := by
  unfold member
  (try dsimp only)
  (repeat' split)
  all_goals (repeat (first | with_reducible assumption | with_reducible exact Le.refl _ | with_reducible apply refuse_le | with_reducible apply room_le | with_reducible apply pass_le | with_reducible apply skip_le | with_reducible apply take_le | with_reducible apply takes_le | with_reducible apply name_le | with_reducible apply thingType_le | with_reducible apply anyType_le | with_reducible apply answer_le | with_reducible apply variable_le | with_reducible apply declared_le | with_reducible apply namesL_le | with_reducible apply varsL_le | with_reducible apply faces_le | with_reducible apply called_le | with_reducible apply ofVariable_le | with_reducible apply put_le | with_reducible apply made_le | with_reducible apply worked_le | with_reducible apply value_le | with_reducible apply named_le | with_reducible apply back_le | with_reducible apply less_le | with_reducible apply stmt_le | with_reducible apply stmts_le | with_reducible apply manyD_le | with_reducible apply block_le | with_reducible apply head_le | with_reducible apply signature_le | with_reducible apply method_le | with_reducible apply routine_le | with_reducible apply setup_le))

theorem members_le : ∀ (n : Nat) (c : Cf) {a : RS}, Le s a → Le s (members en n c a).2
  | 0, c, a, h => h
  | n + 1, c, a, h => by
    unfold members
    split
    · exact members_le n _ (member_le c h)
    · exact h
theorem manyG_le (f : RS → Bool) (m n : Nat) (acc : List Mf) (h : Le s a) : Le s (many f (signature en) m n acc a).2 := many_le (fun s => signature_le (Le.refl s)) _ _ _ h

theorem face_le (h : Le s a) : Le s (face en a).2 := by
  unfold face
  (try dsimp only)
  (repeat' split)
  all_goals (repeat (first | with_reducible assumption | with_reducible exact Le.refl _ | with_reducible apply refuse_le | with_reducible apply room_le | with_reducible apply pass_le | with_reducible apply skip_le | with_reducible apply take_le | with_reducible apply takes_le | with_reducible apply name_le | with_reducible apply thingType_le | with_reducible apply anyType_le | with_reducible apply answer_le | with_reducible apply variable_le | with_reducible apply declared_le | with_reducible apply namesL_le | with_reducible apply varsL_le | with_reducible apply faces_le | with_reducible apply called_le | with_reducible apply ofVariable_le | with_reducible apply put_le | with_reducible apply made_le | with_reducible apply worked_le | with_reducible apply value_le | with_reducible apply named_le | with_reducible apply back_le | with_reducible apply less_le | with_reducible apply stmt_le | with_reducible apply stmts_le | with_reducible apply manyD_le | with_reducible apply block_le | with_reducible apply head_le | with_reducible apply signature_le | with_reducible apply method_le | with_reducible apply routine_le | with_reducible apply setup_le | with_reducible apply member_le | with_reducible apply members_le | with_reducible apply manyG_le))

theorem class_le (h : Le s a) : Le s (class' en a).2 := by
  unfold class'
  dsimp only
  refine take_le _ (members_le _ _ (take_le _ (faces_le _ ?_)))
  split
  · exact name_le (skip_le _ (name_le (take_le _ h)))
  · exact skip_le _ (name_le (take_le _ h))

theorem either_le (h : Le s a) : Le s (either en a).2 := by
  unfold either
  (try dsimp only)
  (repeat' split)
  all_goals (repeat (first | with_reducible assumption | with_reducible exact Le.refl _ | with_reducible apply refuse_le | with_reducible apply room_le | with_reducible apply pass_le | with_reducible apply skip_le | with_reducible apply take_le | with_reducible apply takes_le | with_reducible apply name_le | with_reducible apply thingType_le | with_reducible apply anyType_le | with_reducible apply answer_le | with_reducible apply variable_le | with_reducible apply declared_le | with_reducible apply namesL_le | with_reducible apply varsL_le | with_reducible apply faces_le | with_reducible apply called_le | with_reducible apply ofVariable_le | with_reducible apply put_le | with_reducible apply made_le | with_reducible apply worked_le | with_reducible apply value_le | with_reducible apply named_le | with_reducible apply back_le | with_reducible apply less_le | with_reducible apply stmt_le | with_reducible apply stmts_le | with_reducible apply manyD_le | with_reducible apply block_le | with_reducible apply head_le | with_reducible apply signature_le | with_reducible apply method_le | with_reducible apply routine_le | with_reducible apply setup_le | with_reducible apply member_le | with_reducible apply members_le | with_reducible apply manyG_le | with_reducible apply face_le | with_reducible apply class_le))


/- What begins takes a token. -/
def Lt (s s' : RS) : Prop := s'.deep = s.deep ∧ s'.l.length < s.l.length
theorem Lt.le {a b : RS} (h : Lt s a) (k : Le a b) : Lt s b := ⟨k.1.trans h.1, Nat.lt_of_le_of_lt k.len h.2⟩
theorem Le.lt {a b : RS} (h : Le s a) (k : Lt a b) : Lt s b := ⟨k.1.trans h.1, Nat.lt_of_lt_of_le k.2 h.len⟩
theorem refuse_lt (x : Nat) (h : s.l ≠ []) : Lt s (refuse en x s) := by
  have := List.length_pos_iff.2 h
  unfold refuse
  split
  · exact ⟨rfl, this⟩
  · exact ⟨rfl, this⟩
theorem pass_lt (h : s.l ≠ []) : Lt s (pass en s).2 := by
  unfold pass
  split
  · exact refuse_lt 13 h
  · split
    · rename_i e
      exact absurd e h
    · rename_i t r e
      exact ⟨rfl, by rw [e]; simp⟩
theorem sees_ne {t : List UInt8} (h : sees t s = true) : s.l ≠ [] := fun e => by simp [sees, e] at h
theorem seesName_ne (h : seesName s = true) : s.l ≠ [] := fun e => by simp [seesName, e] at h
theorem take_lt (t : List UInt8) (h : s.l ≠ []) : Lt s (take en t s) := by
  unfold take
  split
  · exact pass_lt h
  · exact refuse_lt 10 h
theorem name_lt (h : s.l ≠ []) : Lt s (name en s).2 := by
  unfold name
  split
  · exact pass_lt h
  · exact refuse_lt 10 h
theorem skip_cases (t : List UInt8) (s : RS) : (skip en t s).1 = true ∧ Lt s (skip en t s).2 ∨ (skip en t s).1 = false ∧ (skip en t s).2 = s := by
  unfold skip
  split
  · rename_i h
    exact .inl ⟨rfl, pass_lt (sees_ne h)⟩
  · exact .inr ⟨rfl, rfl⟩
theorem room_lt {b : Bool} (h : Lt (room b s) a) : Lt s a := h
theorem declared_lt (w : List UInt8) (h : s.l ≠ []) : Lt s (declared en w s).2 := by
  unfold declared
  dsimp only
  exact (take_lt w h).le (take_le _ (variable_le (Le.refl _)))
theorem signature_lt (h : s.l ≠ []) : Lt s (signature en s).2 := by
  unfold signature head
  dsimp only
  split
  · exact (take_lt kMethod h).le (take_le _ (take_le _ (take_le _ (name_le (answer_le (Le.refl _))))))
  · exact (take_lt kMethod h).le (take_le _ (take_le _ (varsL_le (take_le _ (name_le (answer_le (Le.refl _)))))))
theorem either_lt (h : s.l ≠ []) : Lt s (either en s).2 := by
  unfold either
  split
  · unfold face
    dsimp only
    exact (take_lt kFace h).le (take_le _ (manyG_le _ _ _ _ (take_le _ (faces_le _ (name_le (Le.refl _))))))
  · unfold class'
    dsimp only
    refine (take_lt (en := en) kClass h).le (take_le _ (members_le _ _ (take_le _ (faces_le _ ?_))))
    split
    · exact name_le (skip_le _ (name_le (Le.refl _)))
    · exact skip_le _ (name_le (Le.refl _))
theorem method_lt (h : s.l ≠ []) : Lt s (method en s).2 := by
  unfold method
  dsimp only
  rcases skip_cases (en := en) kStatic s with ⟨_, h1⟩ | ⟨_, h1⟩
  · exact h1.le (block_le _ (head_le _ (Le.refl _)))
  · rw [h1]
    unfold head
    dsimp only
    split
    · exact (take_lt kMethod h).le (block_le _ (take_le _ (take_le _ (name_le (answer_le (Le.refl _))))))
    · exact (take_lt kMethod h).le (block_le _ (take_le _ (varsL_le (take_le _ (name_le (answer_le (Le.refl _)))))))
theorem routine_lt (w : List UInt8) (h : s.l ≠ []) : Lt s (routine en w s).2 := by
  unfold routine
  exact (take_lt w h).le (block_le _ (Le.refl _))
theorem member_lt (c : Cf) (h : s.l ≠ []) : Lt s (member en c s).2 := by
  unfold member
  split
  · exact room_lt (declared_lt _ h)
  split
  · unfold setup
    split
    · exact refuse_lt 10 h
    · exact routine_lt _ h
  split
  · exact room_lt (method_lt h)
  · exact room_lt (declared_lt _ h)
theorem named_lt (p : Sf) (h : s.l ≠ []) : Lt s (named en p s).2 := by
  have h1 := name_lt (en := en) h
  unfold named
  dsimp only
  obtain ⟨a, ha⟩ : ∃ a, (name en s).2 = a := ⟨_, rfl⟩
  rw [ha] at h1 ⊢
  refine h1.le ?_
  (repeat' split)
  all_goals (repeat (first | with_reducible assumption | with_reducible exact Le.refl _ | with_reducible apply refuse_le | with_reducible apply room_le | with_reducible apply pass_le | with_reducible apply skip_le | with_reducible apply take_le | with_reducible apply takes_le | with_reducible apply name_le | with_reducible apply thingType_le | with_reducible apply anyType_le | with_reducible apply answer_le | with_reducible apply variable_le | with_reducible apply declared_le | with_reducible apply namesL_le | with_reducible apply varsL_le | with_reducible apply faces_le | with_reducible apply called_le | with_reducible apply ofVariable_le | with_reducible apply put_le | with_reducible apply made_le | with_reducible apply worked_le | with_reducible apply value_le | with_reducible apply named_le | with_reducible apply back_le | with_reducible apply less_le | with_reducible apply stmt_le | with_reducible apply stmts_le | with_reducible apply manyD_le | with_reducible apply block_le | with_reducible apply head_le | with_reducible apply signature_le | with_reducible apply method_le | with_reducible apply routine_le | with_reducible apply setup_le | with_reducible apply member_le | with_reducible apply members_le | with_reducible apply manyG_le | with_reducible apply face_le | with_reducible apply class_le | with_reducible apply either_le))
theorem stmtF_lt {st : RS → St × RS} (hs : ∀ s, Le s (st s).2) (h : s.l ≠ []) : Lt s (stmtF en st s).2 := by
  unfold stmtF
  dsimp only
  rcases skip_cases (en := en) kThrow s with ⟨e1, h1⟩ | ⟨e1, h1⟩
  · rw [if_pos e1]; exact h1.le (take_le _ (name_le (Le.refl _)))
  rw [if_neg (by simp [e1]), h1]
  rcases skip_cases (en := en) kReturn s with ⟨e2, h2⟩ | ⟨e2, h2⟩
  · rw [if_pos e2]; exact h2.le (back_le _ (Le.refl _))
  rw [if_neg (by simp [e2]), h2]
  rcases skip_cases (en := en) kTry s with ⟨e3, h3⟩ | ⟨e3, h3⟩
  · rw [if_pos e3]; exact h3.le (tryW_le hs _ (Le.refl _))
  rw [if_neg (by simp [e3]), h3]
  rcases skip_cases (en := en) kIf s with ⟨e4, h4⟩ | ⟨e4, h4⟩
  · rw [if_pos e4]; exact h4.le (choiceW_le hs _ (Le.refl _))
  rw [if_neg (by simp [e4]), h4]
  rcases skip_cases (en := en) kWhile s with ⟨e5, h5⟩ | ⟨e5, h5⟩
  · rw [if_pos e5]; exact h5.le (loopW_le hs _ (Le.refl _))
  rw [if_neg (by simp [e5]), h5]
  exact named_lt _ h
theorem stmtN_lt (n : Nat) (h : s.l ≠ []) : Lt s (stmtN en (n + 1) s).2 := stmtF_lt (stmtN_le n) h
theorem beginsStmt_ne (h : beginsStmt s = true) : s.l ≠ [] := fun e => by simp [beginsStmt, seesName, seesAny, sees, e] at h
theorem seesAny_ne {ts : List (List UInt8)} (h : seesAny ts s = true) : s.l ≠ [] := fun e => by
  unfold seesAny at h
  rw [List.any_eq_true] at h
  obtain ⟨t, _, ht⟩ := h
  exact sees_ne ht e
end
end Go.Proofs.YtnmhcgkccchacaaGreatDoor

/- The parser's reader in memory: place, refuse, room, pass, row, sees, skip, take. -/
set_option linter.unusedSimpArgs false
set_option linter.unusedVariables false
set_option maxRecDepth 100000
namespace Go.Proofs.YtnmhcgkccchacaaGreatDoor
open Go.RowKit

/-- A token such as the lexer makes. -/
def GoodTok (t : Tok) : Prop := t.text.length ≤ 32 ∧ (t.kind = 1 → t.text ≠ [] ∧ t.text.length ≤ 3 ∧ ∀ c ∈ t.text, 48 ≤ c.toNat ∧ c.toNat ≤ 57)
/-- The slice v reads as the tokens l, in a block ahead of b. -/
def Lf (w : World) (b : Nat) (v : Value) (l : List Tok) : Prop :=
  ∃ A c, v = .slice A l.length c ∧ l.length ≤ c ∧ (l = [] ∨ ∃ tb off, A = some ⟨tb, off, none⟩ ∧ tb < b ∧ ∀ i t, l[i]? = some t → ∀ k y, t.cs[k]? = some y → w.cell? ⟨tb, off + i * 4 + k, none⟩ = some y)
structure RI (en : Nat × Nat) (w : World) (b : Nat) (s : RS) (v : Value) : Prop where
  blk : w.heap[b]? = some (.cells #[v, .int .i64 (en.1 : Int), .int .i64 (en.2 : Int), .int .i64 (s.e : Int), .int .i64 (s.fl : Int), .int .i64 (s.fc : Int), .bool s.full, .int .i64 (s.deep : Int)] 95 (0, 0))
  left : Lf w b v s.l
  kw : Kw w
  gt : 7 < b
  len : s.l.length ≤ 900000
  tok : ∀ t ∈ s.l, GoodTok t
/-- The parser's reader at b stands as s says. -/
def Pr (en : Nat × Nat) (w : World) (b : Nat) (s : RS) : Prop := ∃ v, RI en w b s v

section
variable {en : Nat × Nat} {w w' : World} {b : Nat} {s : RS} {v : Value}
theorem Lf.turn {F : List Nat} {l : List Tok} (h : Lf w b v l) (t : Turn F w w') (hF : ∀ g ∈ F, b ≤ g) (hb : b < w.heap.size) : Lf w' b v l := by
  obtain ⟨A, c, e, hc, h⟩ := h
  refine ⟨A, c, e, hc, ?_⟩
  rcases h with h | ⟨tb, off, ea, hlt, h⟩
  · exact .inl h
  · exact .inr ⟨tb, off, ea, hlt, fun i t' ht k y hy => (t.cell (p := ⟨tb, off + i * 4 + k, none⟩) (Nat.lt_trans hlt hb) (fun hg => by have := hF tb hg; omega)).trans (h i t' ht k y hy)⟩
theorem RI.lt (h : RI en w b s v) : b < w.heap.size := (Array.getElem?_eq_some_iff.1 h.blk).1
theorem RI.turn {F : List Nat} (h : RI en w b s v) (t : Turn F w w') (hF : ∀ g ∈ F, b < g) : RI en w' b s v :=
  ⟨t.heap h.blk (fun hg => Nat.lt_irrefl b (hF b hg)), h.left.turn t (fun g hg => Nat.le_of_lt (hF g hg)) h.lt, h.kw.turn t (fun hg => by have := hF _ hg; have := h.gt; omega), h.gt, h.len, h.tok⟩
theorem Pr.turn {F : List Nat} (h : Pr en w b s) (t : Turn F w w') (hF : ∀ g ∈ F, b < g) : Pr en w' b s := by
  obtain ⟨v, h⟩ := h
  exact ⟨v, h.turn t hF⟩
theorem Pr.up (h : Pr en w b s) (t : Turn [] w w') : Pr en w' b s := h.turn t (by simp)
theorem Pr.lt (h : Pr en w b s) : b < w.heap.size := by
  obtain ⟨v, h⟩ := h
  exact h.lt
theorem Lf.tail {t : Tok} {l : List Tok} {A : Option Addr} {n c : Nat} (h : Lf w b (.slice A n c) (t :: l)) : ∃ tb off, A = some ⟨tb, off, none⟩ ∧ n = l.length + 1 ∧ l.length + 1 ≤ c ∧ (∀ k y, t.cs[k]? = some y → w.cell? ⟨tb, off + k, none⟩ = some y) ∧
    ∀ c', l.length ≤ c' → Lf w b (.slice (some ⟨tb, off + 4, none⟩) l.length c') l := by
  obtain ⟨A', c', e, hc, h⟩ := h
  injection e with e1 e2 e3
  subst e1 e2 e3
  rcases h with h | ⟨tb, off, ea, hlt, h⟩
  · cases h
  · refine ⟨tb, off, ea, by simp, by simpa using hc, fun k y hy => ?_, fun c' hc' => ⟨_, c', rfl, hc', .inr ⟨tb, off + 4, rfl, hlt, fun i t' ht k y hy => ?_⟩⟩⟩
    · have := h 0 t rfl k y hy
      simpa using this
    · have := h (i + 1) t' (by simpa using ht) k y hy
      rw [show off + 4 + i * 4 + k = off + (i + 1) * 4 + k by omega]
      exact this
theorem Lf.nil (w : World) (b : Nat) : Lf w b (.slice none 0 0) [] := ⟨none, 0, rfl, Nat.le_refl _, .inl rfl⟩
end

theorem rset {w : World} {b i : Nat} {cs cs' : Array Value} {t : TypeId} {u : Value} (h : w.heap[b]? = some (.cells cs t (0, 0))) (e : cs.setIfInBounds i u = cs') : (w.setCell ⟨b, i, none⟩ u).heap[b]? = some (.cells cs' t (0, 0)) := by
  rw [heap_setCell_same w b i cs t u h, ← e]
theorem rset_o {w : World} {b g i : Nat} {o : Option Obj} {u : Value} (h : w.heap[b]? = o) (e : b ≠ g) : (w.setCell ⟨g, i, none⟩ u).heap[b]? = o := by
  rw [heap_setCell_other w ⟨g, i, none⟩ b u e, h]

/-- A slice of texts. -/
def mk (t : List UInt8) : ByteArray := ⟨t.toArray⟩
theorem mk_inj {a b : List UInt8} : mk a = mk b ↔ a = b := by
  constructor
  · intro h
    have := congrArg (fun x : ByteArray => x.data.toList) h
    simpa [mk] using this
  · rintro rfl
    rfl
def Sts (w : World) (A : Option Addr) (ts : List (List UInt8)) : Prop := Rws w 1 A ts.length (ts.map fun t => Value.string (mk t))
theorem Sts.at {w : World} {A : Option Addr} {ts : List (List UInt8)} (h : Sts w A ts) {k : Nat} {x : List UInt8} (hx : ts[k]? = some x) : ∃ b off, A = some ⟨b, off, none⟩ ∧ b < w.heap.size ∧ w.cell? ⟨b, off + k, none⟩ = some (.string (mk x)) := by
  rcases h.2 with h0 | ⟨b, off, e, hb, hc⟩
  · have := (List.getElem?_eq_some_iff.1 hx).1
    omega
  · exact ⟨b, off, e, hb, hc k _ (by rw [List.getElem?_map, hx]; rfl)⟩
theorem Sts.turn {w w' : World} {F : List Nat} {A : Option Addr} {ts : List (List UInt8)} (h : Sts w A ts) (t : Turn F w w') (hn : ∀ b off, A = some ⟨b, off, none⟩ → b ∉ F) : Sts w' A ts := Rws.turn h t hn
theorem sts_new (w : World) (ts : List (List UInt8)) (C : Array Value) (hC : C = (ts.map fun t => Value.string (mk t)).toArray) : Sts (w.alloc (.cells C 9)) (some ⟨w.heap.size, 0, none⟩) ts := by
  subst hC
  refine ⟨by simp, .inr ⟨w.heap.size, 0, rfl, by simp, fun j u hj => ?_⟩⟩
  rw [Nat.zero_add, cell_of_row _ w.heap.size _ _ _ _ (heap_alloc_new w _)]
  simpa using hj

set_option maxHeartbeats 1600000 in
theorem place_any (en : Nat × Nat) (b : Nat) (s : RS) (w : World) (h : Pr en w b s) :
    Calls Tryz.prog 60 #[.pointer (some ⟨b, 0, none⟩)] w fun e w' => e = .returned (.agg #[.int .i64 ((atP en s).1 : Int), .int .i64 ((atP en s).2 : Int)]) ∧ Turn [] w w' := by
  obtain ⟨v, h⟩ := h
  have hbl := h.lt
  have hne : b ≠ w.heap.size := by omega
  have hbk := ((Turn.refl [] w).alloc (.cells #[.int .i64 0, .int .i64 0] 27)).heap h.blk (by simp)
  have hrk := heap_alloc_new w (.cells #[.int .i64 0, .int .i64 0] 27)
  have hLf := h.left.turn ((Turn.refl [] w).alloc (.cells #[.int .i64 0, .int .i64 0] 27)) (by simp) hbl
  obtain ⟨l, e, fl, fc, full, deep⟩ := s
  simp only at hbk hLf
  obtain ⟨W, hW⟩ : ∃ W, w.alloc (.cells #[.int .i64 0, .int .i64 0] 27) = W := ⟨_, rfl⟩
  have hTW : Turn [] w W := by rw [← hW]; exact (Turn.refl [] w).alloc _
  rw [hW] at hbk hrk hLf
  obtain ⟨r, hr⟩ : ∃ r, w.heap.size = r := ⟨_, rfl⟩
  rw [hr] at hrk hne
  have b0 : W.cell? ⟨b, 0, none⟩ = some v := cell_of_row W b 0 _ 95 (0, 0) hbk
  have b1 : W.cell? ⟨b, 1, none⟩ = some (.int .i64 (en.1 : Int)) := cell_of_row W b 1 _ 95 (0, 0) hbk
  have b2 : W.cell? ⟨b, 2, none⟩ = some (.int .i64 (en.2 : Int)) := cell_of_row W b 2 _ 95 (0, 0) hbk
  have r0 : W.cell? ⟨r, 0, none⟩ = some (.int .i64 0) := cell_of_row W r 0 _ 27 (0, 0) hrk
  have r1 : W.cell? ⟨r, 1, none⟩ = some (.int .i64 0) := cell_of_row W r 1 _ 27 (0, 0) hrk
  have rf0 : W.frozen? ⟨r, 0, none⟩ = false := frozen_of_row W r 0 _ 27 hrk
  have rf1 : W.frozen? ⟨r, 1, none⟩ = false := frozen_of_row W r 1 _ 27 hrk
  have HTW := Lib.hid hTW
  have HW := Lib.hid hW
  have HR := Lib.hid hr
  have HN := Lib.hid hne
  cases l with
  | nil =>
    obtain ⟨A, c, rfl, _, _⟩ := hLf
    simp only [List.length_nil] at b0
    clear hbk hrk hTW hW hr hne h
    go_enter Tryz.func60, Tryz.ntmps60
    go_upto_region 1 with (fail)
    rw [HW.out, HR.out]
    go_wp2_with fail
    refine bodyPost_ret (v := .agg #[.int .i64 (en.1 : Int), .int .i64 (en.2 : Int)]) (by simp [results, Tryz.results60, go_sem, r0, r1]) rfl ⟨rfl, ?_⟩
    refine ((HTW.out).setCell (.inr ?_) _).setCell (.inr ?_) _ <;> (simp; have := HR.out; omega)
  | cons t l =>
    obtain ⟨A, c, rfl, hc, _⟩ := id hLf
    obtain ⟨tb, off, rfl, _, _, ht, _⟩ := hLf.tail
    have t2 : W.cell? ⟨tb, off + 2, none⟩ = some (.int .i64 (t.line : Int)) := ht 2 _ rfl
    have t3 : W.cell? ⟨tb, off + 3, none⟩ = some (.int .i64 (t.col : Int)) := ht 3 _ rfl
    have hl0 : ¬ ((l.length : Int) + 1 = 0) := by omega
    have hl1 : decide ((l.length : Int) + 1 = 0) = false := by simp; omega
    simp only [List.length_cons] at b0 hc
    clear hbk hrk hTW hW hr hne h hLf ht
    go_enter Tryz.func60, Tryz.ntmps60
    go_upto_region 1 with (fail)
    rw [HW.out, HR.out]
    go_wp2_with fail
    refine bodyPost_ret (v := .agg #[.int .i64 (t.line : Int), .int .i64 (t.col : Int)]) (by simp [results, Tryz.results60, go_sem, r0, r1]) rfl ⟨rfl, ?_⟩
    refine ((HTW.out).setCell (.inr ?_) _).setCell (.inr ?_) _ <;> (simp; have := HR.out; omega)

set_option maxHeartbeats 3200000 in
theorem refuse_any (en : Nat × Nat) (b x : Nat) (s : RS) (w : World) (h : Pr en w b s) :
    Calls Tryz.prog 79 #[.pointer (some ⟨b, 0, none⟩), .int .i64 (x : Int)] w fun e w' => e = .returned (.tuple #[]) ∧ Pr en w' b (refuse en x s) ∧ Turn [b] w w' := by
  have h0 := h
  have HP := Lib.hid h
  obtain ⟨v, h⟩ := h
  have hbk := h.blk
  have hbl := h.lt
  by_cases he : s.e = 0
  · have b3 : w.cell? ⟨b, 3, none⟩ = some (.int .i64 0) := by
      rw [cell_of_row w b 3 _ 95 (0, 0) hbk, he]
      rfl
    have HE := Lib.hid he
    have HI := Lib.hid h
    clear h hbk h0 he
    go_enter Tryz.func79, Tryz.ntmps79
    go_wp2_with fail
    refine (place_any en b s w HP.out).mono ?_
    rintro e w1 ⟨rfl, t1⟩
    have hi1 := HI.out.turn t1 (by simp)
    have HI1 := Lib.hid hi1
    have hb1 := hi1.lt
    obtain ⟨p1, hp1⟩ : ∃ p, (atP en s).1 = p := ⟨_, rfl⟩
    obtain ⟨p2, hp2⟩ : ∃ p, (atP en s).2 = p := ⟨_, rfl⟩
    rw [hp1, hp2]
    have HP1 := Lib.hid hp1
    have HP2 := Lib.hid hp2
    have hg : ∀ W : World, Turn [] w1 W → W.heap[b]? = some (.cells #[v, .int .i64 (en.1 : Int), .int .i64 (en.2 : Int), .int .i64 (s.e : Int), .int .i64 (s.fl : Int), .int .i64 (s.fc : Int), .bool s.full, .int .i64 (s.deep : Int)] 95 (0, 0)) := fun W t => t.heap hi1.blk (by simp)
    have HG := Lib.hid hg
    have HT1 := Lib.hid t1
    clear t1 hi1 hp1 hp2 hg
    go_upto_region 2 with (fail)
    obtain ⟨W, hW⟩ : ∃ W, w1.alloc (.cells #[.int .i64 (p1 : Int), .int .i64 (p2 : Int)] 27) = W := ⟨_, rfl⟩
    obtain ⟨r, hr⟩ : ∃ r, w1.heap.size = r := ⟨_, rfl⟩
    rw [hW, hr]
    have hTW : Turn [] w1 W := by rw [← hW]; exact (Turn.refl [] w1).alloc _
    have hrk : W.heap[r]? = some (.cells #[.int .i64 (p1 : Int), .int .i64 (p2 : Int)] 27 (0, 0)) := by rw [← hW, ← hr]; exact heap_alloc_new w1 _
    have r0 : W.cell? ⟨r, 0, none⟩ = some (.int .i64 (p1 : Int)) := cell_of_row W r 0 _ 27 (0, 0) hrk
    have r1 : W.cell? ⟨r, 1, none⟩ = some (.int .i64 (p2 : Int)) := cell_of_row W r 1 _ 27 (0, 0) hrk
    have hbk := HG.out W hTW
    have q0 : W.cell? ⟨b, 0, none⟩ = some v := cell_of_row W b 0 _ 95 (0, 0) hbk
    have q3 : W.cell? ⟨b, 3, none⟩ = some (.int .i64 (s.e : Int)) := cell_of_row W b 3 _ 95 (0, 0) hbk
    have q4 : W.cell? ⟨b, 4, none⟩ = some (.int .i64 (s.fl : Int)) := cell_of_row W b 4 _ 95 (0, 0) hbk
    have q5 : W.cell? ⟨b, 5, none⟩ = some (.int .i64 (s.fc : Int)) := cell_of_row W b 5 _ 95 (0, 0) hbk
    have f0 : W.frozen? ⟨b, 0, none⟩ = false := frozen_of_row W b 0 _ 95 hbk
    have f3 : W.frozen? ⟨b, 3, none⟩ = false := frozen_of_row W b 3 _ 95 hbk
    have f4 : W.frozen? ⟨b, 4, none⟩ = false := frozen_of_row W b 4 _ 95 hbk
    have f5 : W.frozen? ⟨b, 5, none⟩ = false := frozen_of_row W b 5 _ 95 hbk
    have HTW := Lib.hid hTW
    have HBK := Lib.hid hbk
    clear hW hr hTW hrk hbk
    go_wp2_with fail
    go_end0
    refine ⟨rfl, ⟨.slice none 0 0, ?_⟩, ?_⟩
    · unfold refuse
      rw [if_pos HE.out]
      refine ⟨?_, Lf.nil _ _, (HI1.out.kw.turn HTW.out (by simp)).turn (F := [b]) ?_ (by have := HI1.out.gt; simp; omega), HI1.out.gt, by simp, by simp⟩
      · rw [HP1.out, HP2.out]
        exact rset (rset (rset (rset HBK.out rfl) rfl) rfl) rfl
      · exact ((((Turn.refl [b] W).setCell (.inl (by simp)) _).setCell (.inl (by simp)) _).setCell (.inl (by simp)) _).setCell (.inl (by simp)) _
    · exact (((((HT1.out.trans' HTW.out).more (by simp)).setCell (.inl (by simp)) _).setCell (.inl (by simp)) _).setCell (.inl (by simp)) _).setCell (.inl (by simp)) _
  · have b3 : w.cell? ⟨b, 3, none⟩ = some (.int .i64 (s.e : Int)) := cell_of_row w b 3 _ 95 (0, 0) hbk
    have b0 : w.cell? ⟨b, 0, none⟩ = some v := cell_of_row w b 0 _ 95 (0, 0) hbk
    have f0 : w.frozen? ⟨b, 0, none⟩ = false := frozen_of_row w b 0 _ 95 hbk
    have z1 : decide ((s.e : Int) = 0) = false := by simp; omega
    have z2 : ((s.e : Int) == 0) = false := by simp; omega
    have z3 : ¬ (s.e : Int) = 0 := by omega
    have z4 : ¬ s.e = 0 := he
    have HE := Lib.hid he
    have HI := Lib.hid h
    clear h hbk h0 he
    go_enter Tryz.func79, Tryz.ntmps79
    go_wp2_with fail
    go_end0
    refine ⟨rfl, ⟨.slice none 0 0, ?_⟩, (Turn.refl [b] w).setCell (.inl (by simp)) _⟩
    unfold refuse
    rw [if_neg HE.out]
    exact ⟨rset HI.out.blk rfl, Lf.nil _ _, HI.out.kw.turn ((Turn.refl [b] w).setCell (.inl (by simp)) _) (by have := HI.out.gt; simp; omega), HI.out.gt, by simp, by simp⟩

theorem room_any (en : Nat × Nat) (b k m : Nat) (s : RS) (w : World) (h : Pr en w b s) :
    Calls Tryz.prog 80 #[.pointer (some ⟨b, 0, none⟩), .int .i64 (k : Int), .int .i64 (m : Int)] w fun e w' => e = .returned (.tuple #[]) ∧ Pr en w' b (room (decide (m ≤ k)) s) ∧ Turn [b] w w' := by
  obtain ⟨v, h⟩ := h
  have hbk := h.blk
  have b6 : w.cell? ⟨b, 6, none⟩ = some (.bool s.full) := cell_of_row w b 6 _ 95 (0, 0) hbk
  have f6 : w.frozen? ⟨b, 6, none⟩ = false := frozen_of_row w b 6 _ 95 hbk
  have HI := Lib.hid h
  obtain ⟨q, hq⟩ : ∃ q, decide (m ≤ k) = q := ⟨_, rfl⟩
  have hq1 : decide ((m : Int) ≤ (k : Int)) = q := by rw [← hq]; simp
  rw [hq]
  clear h hbk
  go_enter Tryz.func80, Tryz.ntmps80
  go_wp2_with fail
  go_end0
  refine ⟨rfl, ⟨v, ?_⟩, (Turn.refl [b] w).setCell (.inl (by simp)) _⟩
  have t : Turn [b] w (w.setCell ⟨b, 6, none⟩ (.bool q)) := (Turn.refl [b] w).setCell (.inl (by simp)) _
  first
  | exact ⟨rset HI.out.blk rfl, HI.out.left.turn t (by simp) HI.out.lt, HI.out.kw.turn t (by have := HI.out.gt; simp; omega), HI.out.gt, HI.out.len, HI.out.tok⟩
  | (rw [hq1]; exact ⟨rset HI.out.blk rfl, HI.out.left.turn t (by simp) HI.out.lt, HI.out.kw.turn t (by have := HI.out.gt; simp; omega), HI.out.gt, HI.out.len, HI.out.tok⟩)

set_option maxHeartbeats 3200000 in
theorem pPass_any (en : Nat × Nat) (b : Nat) (s : RS) (w : World) (h : Pr en w b s) (hs : s.l ≠ []) :
    Calls Tryz.prog 88 #[.pointer (some ⟨b, 0, none⟩)] w fun e w' => e = .returned (.string (pass en s).1) ∧ Pr en w' b (pass en s).2 ∧ Turn [b] w w' := by
  have HP := Lib.hid h
  obtain ⟨v, h⟩ := h
  have hbk := h.blk
  have b6 : w.cell? ⟨b, 6, none⟩ = some (.bool s.full) := cell_of_row w b 6 _ 95 (0, 0) hbk
  cases hf : s.full with
  | true =>
    rw [hf] at b6
    have HF := Lib.hid hf
    clear h hbk hf hs
    go_enter Tryz.func88, Tryz.ntmps88
    go_wp2_with fail
    refine (refuse_any en b 13 s w HP.out).mono ?_
    rintro e w1 ⟨rfl, h1, t1⟩
    have H1 := Lib.hid h1
    have HT1 := Lib.hid t1
    clear h1 t1
    go_wp2_with fail
    go_ret
    have e1 : pass en s = (e0, refuse en 13 s) := by unfold pass; rw [if_pos HF.out]
    rw [e1]
    exact ⟨rfl, H1.out, HT1.out⟩
  | false =>
    rw [hf] at b6
    have HF := Lib.hid hf
    have HI := Lib.hid h
    obtain ⟨l, e, fl, fc, full, deep⟩ := s
    cases l with
    | nil => exact absurd rfl hs
    | cons t l =>
      have hLf := h.left
      simp only at hLf
      obtain ⟨A, c, rfl, hc, _⟩ := id hLf
      obtain ⟨tb, off, rfl, _, hcl, ht, hnx⟩ := hLf.tail
      have b0 : w.cell? ⟨b, 0, none⟩ = some (.slice (some ⟨tb, off, none⟩) (l.length + 1) c) := cell_of_row w b 0 _ 95 (0, 0) hbk
      have f0 : w.frozen? ⟨b, 0, none⟩ = false := frozen_of_row w b 0 _ 95 hbk
      have t1 : w.cell? ⟨tb, off + 1, none⟩ = some (.string ⟨t.text.toArray⟩) := ht 1 _ rfl
      have hl0 : (0 : Int) < (l.length : Int) + 1 := by omega
      have hl1 : (1 : Int) ≤ (l.length : Int) + 1 := by omega
      have hc1 : ((l.length : Int) + 1) ≤ (c : Int) := by omega
      have HNX := Lib.hid (hnx (c - 1) (by omega))
      have HT := Lib.hid t1
      have e1 : pass en ⟨t :: l, e, fl, fc, full, deep⟩ = (⟨t.text.toArray⟩, ⟨l, e, fl, fc, full, deep⟩) := by
        have := HF.out
        simp only at this
        unfold pass
        rw [if_neg (by simp [this])]
      rw [e1]
      have hlen := HI.out.len
      simp only [List.length_cons] at hlen
      have hfin : ∀ V : Value, Lf (w.setCell ⟨b, 0, none⟩ V) b V l → RI en (w.setCell ⟨b, 0, none⟩ V) b ⟨l, e, fl, fc, full, deep⟩ V := fun V hV =>
        ⟨rset HI.out.blk rfl, hV, HI.out.kw.turn ((Turn.refl [b] w).setCell (.inl (by simp)) _) (by have := HI.out.gt; simp; omega), HI.out.gt, by simp only; omega, fun u hu => HI.out.tok u (by simp only; exact List.mem_cons_of_mem _ hu)⟩
      have HFN := Lib.hid hfin
      by_cases hc0 : c = 1
      · subst hc0
        obtain rfl : l = [] := List.eq_nil_of_length_eq_zero (by omega)
        clear h hbk hf hs hLf hc ht hnx e1 hfin hlen hcl
        simp only [List.length_nil] at b0
        go_enter Tryz.func88, Tryz.ntmps88
        go_wp2_with fail
        go_ret
        exact ⟨rfl, ⟨_, HFN.out _ ⟨_, _, rfl, Nat.le_refl _, .inl rfl⟩⟩, (Turn.refl [b] w).setCell (.inl (by simp)) _⟩
      · have hc2 : ¬ (c : Int) = 1 := by omega
        have hc3 : ¬ (c : Int) - 1 = 0 := by omega
        have hc4 : ¬ c - 1 = 0 := by omega
        clear h hbk hf hs hLf hc ht hnx e1 hfin hlen
        go_enter Tryz.func88, Tryz.ntmps88
        go_wp2_with fail
        go_ret
        refine ⟨rfl, ⟨.slice (some ⟨tb, off + 4, none⟩) l.length (c - 1), HFN.out _ (HNX.out.turn ((Turn.refl [b] w).setCell (.inl (by simp)) _) (by simp) HI.out.lt)⟩, (Turn.refl [b] w).setCell (.inl (by simp)) _⟩
end Go.Proofs.YtnmhcgkccchacaaGreatDoor

/- The parser's reader: row, sees, skip, take, names. -/
set_option linter.unusedSimpArgs false
set_option linter.unusedVariables false
set_option maxRecDepth 100000
namespace Go.Proofs.YtnmhcgkccchacaaGreatDoor
open Go.RowKit

/-- Are the next tokens these? -/
def rowL : List (List UInt8) → List Tok → Bool
  | [], _ => true
  | _ :: _, [] => false
  | t :: ts, u :: l => decide (u.text = t) && rowL ts l
theorem rowL_iff : ∀ (ts : List (List UInt8)) (l : List Tok), rowL ts l = true ↔ ∀ (j : Nat) t, ts[j]? = some t → ∃ u, l[j]? = some u ∧ u.text = t
  | [], l => by simp [rowL]
  | t :: ts, [] => by
    simp only [rowL]
    constructor
    · intro h; cases h
    · intro h
      obtain ⟨u, hu, _⟩ := h 0 t rfl
      simp at hu
  | t :: ts, u :: l => by
    simp only [rowL, Bool.and_eq_true, decide_eq_true_eq]
    rw [rowL_iff ts l]
    constructor
    · rintro ⟨h1, h2⟩ j x hx
      cases j with
      | zero => simp at hx; subst hx; exact ⟨u, rfl, h1⟩
      | succ j => simpa using h2 j x (by simpa using hx)
    · intro h
      refine ⟨?_, fun j x hx => ?_⟩
      · obtain ⟨u', hu, e⟩ := h 0 t rfl
        simp at hu
        subst hu
        exact e
      · simpa using h (j + 1) x (by simpa using hx)
theorem sees_row (t : List UInt8) (s : RS) : sees t s = rowL [t] s.l := by
  unfold sees
  cases s.l with
  | nil => rfl
  | cons u l => simp [rowL]
theorem row2_row (x y : List UInt8) (s : RS) : row2 x y s = rowL [x, y] s.l := by
  unfold row2
  rcases s.l with _ | ⟨u, _ | ⟨v, l⟩⟩
  · rfl
  · simp [rowL]
  · simp [rowL]

theorem Lf.at {w : World} {b : Nat} {l : List Tok} {A : Option Addr} {n c : Nat} (h : Lf w b (.slice A n c) l) {i : Nat} {t : Tok} (hi : l[i]? = some t) : ∃ tb off, A = some ⟨tb, off, none⟩ ∧ ∀ k y, t.cs[k]? = some y → w.cell? ⟨tb, off + i * 4 + k, none⟩ = some y := by
  obtain ⟨A', c', e, hc, h⟩ := h
  injection e with e1 e2 e3
  subst e1
  rcases h with h | ⟨tb, off, ea, hlt, h⟩
  · subst h; simp at hi
  · exact ⟨tb, off, ea, h i t hi⟩

set_option maxHeartbeats 3200000 in
theorem row_any (en : Nat × Nat) (b : Nat) (s : RS) (w : World) (h : Pr en w b s) (A : Option Addr) (c : Nat) (ts : List (List UInt8)) (hS : Sts w A ts) (hn : ts.length ≤ 1000) :
    Calls Tryz.prog 104 #[.pointer (some ⟨b, 0, none⟩), .slice A ts.length c] w fun e w' => e = .returned (.bool (rowL ts s.l)) ∧ w = w' := by
  obtain ⟨v, h⟩ := h
  have hLf := h.left
  have hlen := h.len
  obtain ⟨L, c0, rfl, hcl, _⟩ := id hLf
  have b0 : w.cell? ⟨b, 0, none⟩ = some (.slice L s.l.length c0) := cell_of_row w b 0 _ 95 (0, 0) h.blk
  have HL := Lib.hid hLf
  have HS := Lib.hid hS
  obtain ⟨n, hnn⟩ : ∃ n, ts.length = n := ⟨_, rfl⟩
  obtain ⟨m, hm⟩ : ∃ m, s.l.length = m := ⟨_, rfl⟩
  have HN := Lib.hid hnn
  have HM := Lib.hid hm
  rw [hnn] at hn ⊢
  rw [hm] at b0 hlen hcl HL
  clear h hLf hS hnn hm
  go_enter Tryz.func104, Tryz.ntmps104
  go_wp2_with fail
  go_loopw [9] (fun ti wr => ∃ k : Nat, k ≤ n ∧ ti = .int .i64 (k : Int) ∧ Hid (∀ (j : Nat) t, j < k → ts[j]? = some t → ∃ u, s.l[j]? = some u ∧ u.text = t) ∧ w = wr) (fun ti _ => n - (intOf ti).toNat)
  case atStart => exact ⟨0, by omega, rfl, Lib.hid (fun j t hj => by omega), rfl⟩
  case round =>
    obtain ⟨k, hk, rfl, HA, rfl⟩ := hrel
    by_cases hlt : k < n
    · obtain ⟨x, hx⟩ := at_lt (l := ts) (k := k) (by rw [HN.out]; exact hlt)
      obtain ⟨g, off, rfl, hg, hcx⟩ := HS.out.at hx
      have hkI : (k : Int) < (n : Int) := by omega
      have hkd : decide ((k : Int) < (n : Int)) = true := by simp; omega
      obtain ⟨X, hX⟩ : ∃ X, mk x = X := ⟨_, rfl⟩
      rw [hX] at hcx
      have HX := Lib.hid hX
      have HXT := Lib.hid hx
      clear hX hx
      by_cases hkm : k < m
      · obtain ⟨u, hu⟩ := at_lt (l := s.l) (k := k) (by rw [HM.out]; exact hkm)
        obtain ⟨tb, o2, rfl, hcu⟩ := HL.out.at hu
        have hc1 : w.cell? ⟨tb, o2 + k * 4 + 1, none⟩ = some (.string (mk u.text)) := hcu 1 _ rfl
        obtain ⟨U, hU⟩ : ∃ U, mk u.text = U := ⟨_, rfl⟩
        rw [hU] at hc1
        have HU := Lib.hid hU
        have HUT := Lib.hid hu
        have m1 : (k : Int) < (m : Int) := by omega
        have m2 : decide ((m : Int) ≤ (k : Int)) = false := by simp; omega
        have m3 : ¬ (m : Int) ≤ (k : Int) := by omega
        clear hU hu hcu
        by_cases he : U = X
        · have e1 := bytes_t he
          have HE : Hid (u.text = x) := Lib.hid (mk_inj.1 (by rw [HU.out, HX.out, he]))
          clear he
          go_wp2_with fail
          go_roundw
          case rel =>
            refine ⟨k + 1, by omega, by go_num, Lib.hid (fun j t hj ht => ?_), by first | rfl | trivial⟩
            by_cases hjk : j < k
            · exact HA.out j t hjk ht
            · obtain rfl : j = k := by omega
              rw [HXT.out] at ht
              cases ht
              exact ⟨u, HUT.out, HE.out⟩
          case measure => simp [intOf]; omega
        · have e1 := bytes_f he
          have HE : Hid (u.text ≠ x) := Lib.hid (fun e => he (by rw [← HU.out, ← HX.out, e]))
          clear he
          go_wp2_with fail
          go_ret
          refine ⟨ret_bool ?_, rfl⟩
          symm
          rw [Bool.eq_false_iff]
          intro hr
          obtain ⟨u', hu', e⟩ := (rowL_iff _ _).1 hr k x HXT.out
          rw [HUT.out] at hu'
          cases hu'
          exact HE.out e
      · have m1 : (m : Int) ≤ (k : Int) := by omega
        have m2 : decide ((m : Int) ≤ (k : Int)) = true := by simp; omega
        go_wp2_with fail
        go_ret
        refine ⟨ret_bool ?_, rfl⟩
        symm
        rw [Bool.eq_false_iff]
        intro hr
        obtain ⟨u', hu', e⟩ := (rowL_iff _ _).1 hr k x HXT.out
        have := (List.getElem?_eq_some_iff.1 hu').1
        rw [HM.out] at this
        omega
    · obtain rfl : k = n := by omega
      go_wp2_with fail
      go_ret
      refine ⟨ret_bool ?_, rfl⟩
      symm
      refine (rowL_iff _ _).2 (fun j t ht => HA.out j t ?_ ht)
      have := (List.getElem?_eq_some_iff.1 ht).1
      rw [HN.out] at this
      exact this

set_option maxHeartbeats 3200000 in
theorem sees_any (en : Nat × Nat) (b : Nat) (s : RS) (w : World) (h : Pr en w b s) (A : Option Addr) (c : Nat) (ts : List (List UInt8)) (hS : Sts w A ts) (hn : ts.length ≤ 1000) :
    Calls Tryz.prog 82 #[.pointer (some ⟨b, 0, none⟩), .slice A ts.length c] w fun e w' => e = .returned (.bool (seesAny ts s)) ∧ Turn [] w w' := by
  have HP := Lib.hid h
  have HS := Lib.hid hS
  obtain ⟨n, hnn⟩ : ∃ n, ts.length = n := ⟨_, rfl⟩
  have HN := Lib.hid hnn
  rw [hnn] at hn ⊢
  clear h hS hnn
  go_enter Tryz.func82, Tryz.ntmps82
  go_wp2_with fail
  go_loopw [9] (fun ti wr => ∃ k : Nat, k ≤ n ∧ ti = .int .i64 (k : Int) ∧ Hid (∀ (j : Nat) t, j < k → ts[j]? = some t → sees t s = false) ∧ Hid (Turn [] w wr)) (fun ti _ => n - (intOf ti).toNat)
  case atStart => exact ⟨0, by omega, rfl, Lib.hid (fun j t hj => by omega), Lib.hid (Turn.refl _ _)⟩
  case round =>
    obtain ⟨k, hk, rfl, HA, HT⟩ := hrel
    by_cases hlt : k < n
    · obtain ⟨x, hx⟩ := at_lt (l := ts) (k := k) (by rw [HN.out]; exact hlt)
      obtain ⟨g, off, rfl, hg, hcx⟩ := (HS.out.turn HT.out (by simp)).at hx
      have hkI : (k : Int) < (n : Int) := by omega
      have hkd : decide ((k : Int) < (n : Int)) = true := by simp; omega
      obtain ⟨X, hX⟩ : ∃ X, mk x = X := ⟨_, rfl⟩
      rw [hX] at hcx
      have HX := Lib.hid hX
      have HXT := Lib.hid hx
      have HR := Lib.hid (row_any en b s (wr.alloc (.cells #[.string X] 9)) ((HP.out.up HT.out).up ((Turn.refl [] wr).alloc _)) (some ⟨wr.heap.size, 0, none⟩) 1 [x] (sts_new wr [x] _ (by rw [← hX]; rfl)) (by simp))
      clear hX hx
      go_wp2_with fail
      refine HR.out.mono ?_
      rintro e w1 ⟨rfl, rfl⟩
      have HT1 : Hid (Turn [] w (wr.alloc (.cells #[.string X] 9))) := Lib.hid (HT.out.alloc _)
      rw [← sees_row]
      cases hq : sees x s with
      | true =>
        have HQ := Lib.hid hq
        clear hq
        go_wp2_with fail
        go_ret
        refine ⟨ret_bool ?_, HT1.out⟩
        symm
        exact List.any_eq_true.2 ⟨x, List.mem_of_getElem? HXT.out, HQ.out⟩
      | false =>
        have HQ := Lib.hid hq
        clear hq
        go_wp2_with fail
        go_roundw
        case rel =>
          refine ⟨k + 1, by omega, by go_num, Lib.hid (fun j t hj ht => ?_), HT1⟩
          by_cases hjk : j < k
          · exact HA.out j t hjk ht
          · obtain rfl : j = k := by omega
            rw [HXT.out] at ht
            cases ht
            exact HQ.out
        case measure => simp [intOf]; omega
    · obtain rfl : k = n := by omega
      go_wp2_with fail
      go_ret
      refine ⟨ret_bool ?_, HT.out⟩
      symm
      unfold seesAny
      rw [Bool.eq_false_iff]
      intro hr
      obtain ⟨t, ht, e⟩ := List.any_eq_true.1 hr
      obtain ⟨j, hj, rfl⟩ := List.mem_iff_getElem.1 ht
      have := HA.out j ts[j] (by rw [← HN.out]; exact hj) (List.getElem?_eq_getElem hj)
      rw [this] at e
      cases e

/-- sees of one text, laid in a block of its own just ahead. -/
theorem sees1_any (en : Nat × Nat) (b : Nat) (s : RS) (t : List UInt8) (w : World) (C : Array Value) (hC : C = #[.string (mk t)]) (h : Pr en w b s) :
    Calls Tryz.prog 82 #[.pointer (some ⟨b, 0, none⟩), .slice (some ⟨w.heap.size, 0, none⟩) 1 1] (w.alloc (.cells C 9)) fun e w' => e = .returned (.bool (sees t s)) ∧ Turn [] w w' := by
  subst hC
  refine (sees_any en b s _ (h.up ((Turn.refl [] w).alloc _)) (some ⟨w.heap.size, 0, none⟩) 1 [t] (sts_new w [t] _ rfl) (by simp)).mono ?_
  rintro e w' ⟨rfl, t1⟩
  exact ⟨ret_bool (by simp [seesAny]), ((Turn.refl [] w).alloc _).trans' t1⟩

set_option maxHeartbeats 1600000 in
theorem pSkip_any (en : Nat × Nat) (b : Nat) (s : RS) (t : List UInt8) (T : ByteArray) (hT : T = mk t) (w : World) (h : Pr en w b s) :
    Calls Tryz.prog 61 #[.pointer (some ⟨b, 0, none⟩), .string T] w fun e w' => e = .returned (.bool (skip en t s).1) ∧ Pr en w' b (skip en t s).2 ∧ Turn [b] w w' := by
  have HS := Lib.hid (sees1_any en b s t w #[.string T] (by rw [hT]) h)
  have HP := Lib.hid h
  clear h hT
  go_enter Tryz.func61, Tryz.ntmps61
  go_wp2_with fail
  refine HS.out.mono ?_
  rintro e w1 ⟨rfl, t1⟩
  have HP1 := Lib.hid (HP.out.up t1)
  have HT1 := Lib.hid t1
  clear t1
  cases hq : sees t s with
  | false =>
    have HQ := Lib.hid hq
    clear hq
    go_wp2_with fail
    go_ret
    have e1 : skip en t s = (false, s) := by unfold skip; rw [HQ.out]; rfl
    rw [e1]
    exact ⟨rfl, HP1.out, HT1.out.more (by simp)⟩
  | true =>
    have HQ := Lib.hid hq
    clear hq
    go_wp2_with fail
    refine (pPass_any en b s w1 HP1.out (sees_ne HQ.out)).mono ?_
    rintro e w2 ⟨rfl, h2, t2⟩
    have H2 := Lib.hid h2
    have HT2 := Lib.hid t2
    clear h2 t2
    go_wp2_with fail
    go_ret
    have e1 : skip en t s = (true, (pass en s).2) := by unfold skip; rw [HQ.out]; rfl
    rw [e1]
    exact ⟨rfl, H2.out, (HT1.out.more (by simp)).trans HT2.out (fun g hg => .inl hg)⟩

set_option maxHeartbeats 3200000 in
theorem pTakes_any (en : Nat × Nat) (b : Nat) (s : RS) (w : World) (h : Pr en w b s) (A : Option Addr) (c : Nat) (ts : List (List UInt8)) (hS : Sts w A ts) (hA : ∀ g off, A = some ⟨g, off, none⟩ → g ≠ b) (hn : ts.length ≤ 1000) :
    Calls Tryz.prog 63 #[.pointer (some ⟨b, 0, none⟩), .slice A ts.length c] w fun e w' => e = .returned (.tuple #[]) ∧ Pr en w' b (takes en ts s) ∧ Turn [b] w w' := by
  have HP := Lib.hid h
  have HS := Lib.hid hS
  have HNA := Lib.hid hA
  obtain ⟨n, hnn⟩ : ∃ n, ts.length = n := ⟨_, rfl⟩
  have HN := Lib.hid hnn
  rw [hnn] at hn ⊢
  clear h hS hnn hA
  go_enter Tryz.func63, Tryz.ntmps63
  go_wp2_with fail
  go_loopw [8] (fun ti wr => ∃ k : Nat, k ≤ n ∧ ti = .int .i64 (k : Int) ∧ Hid (Pr en wr b (takes en (ts.take k) s)) ∧ Hid (Turn [b] w wr)) (fun ti _ => n - (intOf ti).toNat)
  case atStart => exact ⟨0, by omega, rfl, Lib.hid HP.out, Lib.hid (Turn.refl _ _)⟩
  case round =>
    obtain ⟨k, hk, rfl, HA, HT⟩ := hrel
    by_cases hlt : k < n
    · obtain ⟨x, hx⟩ := at_lt (l := ts) (k := k) (by rw [HN.out]; exact hlt)
      obtain ⟨g, off, rfl, hg, hcx⟩ := (HS.out.turn HT.out (fun g off e hg => HNA.out g off e (by simpa using hg))).at hx
      have hkI : (k : Int) < (n : Int) := by omega
      have hkd : decide ((k : Int) < (n : Int)) = true := by simp; omega
      have hnx : takes en (ts.take (k + 1)) s = take en x (takes en (ts.take k) s) := by
        rw [take_snoc hx]
        simp [takes, List.foldl_append]
      obtain ⟨q, hq⟩ : ∃ q, takes en (ts.take k) s = q := ⟨_, rfl⟩
      rw [hq] at hnx HA
      have HNX := Lib.hid hnx
      obtain ⟨X, hX⟩ : ∃ X, mk x = X := ⟨_, rfl⟩
      rw [hX] at hcx
      have HX := Lib.hid hX
      clear hX hx hnx hq
      go_wp2_with fail
      refine (pSkip_any en b q x X HX.out.symm wr HA.out).mono ?_
      rintro e w1 ⟨rfl, h1, t1⟩
      have H1 := Lib.hid h1
      have HT1 := Lib.hid t1
      clear h1 t1
      cases hq : sees x q with
      | true =>
        have e1 : skip en x q = (true, (pass en q).2) := by unfold skip; rw [hq]; rfl
        have e2 : take en x q = (pass en q).2 := by unfold take; rw [hq]; rfl
        rw [e1] at H1 ⊢
        have HE2 := Lib.hid e2
        clear hq e1 e2
        go_wp2_with fail
        go_roundw
        case rel =>
          refine ⟨k + 1, by omega, by go_num, Lib.hid ?_, Lib.hid ((HT.out).trans HT1.out (fun g hg => .inl hg))⟩
          rw [HNX.out, HE2.out]
          exact H1.out
        case measure => simp [intOf]; omega
      | false =>
        have e1 : skip en x q = (false, q) := by unfold skip; rw [hq]; rfl
        have e2 : take en x q = refuse en 10 q := by unfold take; rw [hq]; rfl
        rw [e1] at H1 ⊢
        have HE2 := Lib.hid e2
        clear hq e1 e2
        go_wp2_with fail
        refine (refuse_any en b 10 q w1 H1.out).mono ?_
        rintro e w2 ⟨rfl, h2, t2⟩
        have H2 := Lib.hid h2
        have HT2 := Lib.hid t2
        clear h2 t2
        go_wp2_with fail
        go_roundw
        case rel =>
          refine ⟨k + 1, by omega, by go_num, Lib.hid ?_, Lib.hid (((HT.out).trans HT1.out (fun g hg => .inl hg)).trans HT2.out (fun g hg => .inl hg))⟩
          rw [HNX.out, HE2.out]
          exact H2.out
        case measure => simp [intOf]; omega
    · obtain rfl : k = n := by omega
      go_wp2_with fail
      go_end0
      have := HA.out
      rw [← HN.out, List.take_length] at this
      exact ⟨rfl, this, HT.out⟩
/-- take of one text, laid in a block of its own just ahead. -/
theorem pTake_any (en : Nat × Nat) (b : Nat) (s : RS) (t : List UInt8) (w : World) (C : Array Value) (hC : C = #[.string (mk t)]) (h : Pr en w b s) :
    Calls Tryz.prog 63 #[.pointer (some ⟨b, 0, none⟩), .slice (some ⟨w.heap.size, 0, none⟩) 1 1] (w.alloc (.cells C 9)) fun e w' => e = .returned (.tuple #[]) ∧ Pr en w' b (take en t s) ∧ Turn [b] w w' := by
  subst hC
  refine (pTakes_any en b s _ (h.up ((Turn.refl [] w).alloc _)) (some ⟨w.heap.size, 0, none⟩) 1 [t] (sts_new w [t] _ rfl) (fun g off e => by injection e with e; injection e with e; have := h.lt; omega) (by simp)).mono ?_
  rintro e w' ⟨rfl, h1, t1⟩
  exact ⟨rfl, h1, (((Turn.refl [] w).alloc _).more (by simp)).trans t1 (fun g hg => .inl hg)⟩
end Go.Proofs.YtnmhcgkccchacaaGreatDoor

/- The parser's reader: names, numbers, types. -/
set_option linter.unusedSimpArgs false
set_option linter.unusedVariables false
set_option maxRecDepth 100000
namespace Go.Proofs.YtnmhcgkccchacaaGreatDoor
open Go.RowKit

set_option maxHeartbeats 1600000 in
theorem seesName_any (en : Nat × Nat) (b : Nat) (s : RS) (w : World) (h : Pr en w b s) :
    Calls Tryz.prog 89 #[.pointer (some ⟨b, 0, none⟩)] w fun e w' => e = .returned (.bool (seesName s)) ∧ Turn [] w w' := by
  obtain ⟨v, h⟩ := h
  have hLf := h.left
  have hkw := h.kw
  obtain ⟨L, c0, rfl, hcl, _⟩ := id hLf
  have b0 : w.cell? ⟨b, 0, none⟩ = some (.slice L s.l.length c0) := cell_of_row w b 0 _ 95 (0, 0) h.blk
  have hgt : ∀ t ∈ s.l, t.text.length ≤ 32 := fun t ht => (h.tok t ht).1
  obtain ⟨l, e, fl, fc, full, deep⟩ := s
  simp only at hLf b0 hcl hgt
  cases l with
  | nil =>
    simp only [List.length_nil] at b0
    clear h hLf hkw hgt hcl
    go_enter Tryz.func89, Tryz.ntmps89
    go_wp2_with fail
    go_ret
    exact ⟨rfl, Turn.refl _ _⟩
  | cons t l =>
    obtain ⟨tb, off, rfl, _, _, ht, _⟩ := hLf.tail
    have t1 : w.cell? ⟨tb, off + 1, none⟩ = some (.string (mk t.text)) := ht 1 _ rfl
    have hl0 : (0 : Int) < (l.length : Int) + 1 := by omega
    have hl1 : decide ((0 : Int) < (l.length : Int) + 1) = true := decide_eq_true (by omega)
    have HN := Lib.hid (name_any (mk t.text) w hkw (by have := hgt t (by simp); rw [Lib.size_eq]; simp [mk]; omega))
    have HR : Hid (nameB (mk t.text).data.toList = seesName ⟨t :: l, e, fl, fc, full, deep⟩) := Lib.hid (by simp [seesName, mk])
    obtain ⟨X, hX⟩ : ∃ X, mk t.text = X := ⟨_, rfl⟩
    rw [hX] at HN t1 HR
    simp only [List.length_cons] at b0 hcl
    clear h hLf hkw hgt ht hX
    go_enter Tryz.func89, Tryz.ntmps89
    go_wp2_with fail
    refine HN.out.mono ?_
    rintro e1 w1 ⟨rfl, ht1⟩
    rw [HR.out]
    have HT := Lib.hid ht1
    clear ht1
    obtain ⟨Q, hQ⟩ : ∃ Q, seesName ⟨t :: l, e, fl, fc, full, deep⟩ = Q := ⟨_, rfl⟩
    rw [hQ]
    have HQ := Lib.hid hQ
    clear hQ
    go_wp2_with fail
    go_ret
    exact ⟨ret_bool (by first | exact HQ.out.symm | (rw [HQ.out]; simp)), HT.out⟩

set_option maxHeartbeats 1600000 in
theorem seesNum_any (en : Nat × Nat) (b : Nat) (s : RS) (w : World) (h : Pr en w b s) :
    Calls Tryz.prog 120 #[.pointer (some ⟨b, 0, none⟩)] w fun e w' => e = .returned (.bool (seesNum s)) ∧ w = w' := by
  obtain ⟨v, h⟩ := h
  have hLf := h.left
  obtain ⟨L, c0, rfl, hcl, _⟩ := id hLf
  have b0 : w.cell? ⟨b, 0, none⟩ = some (.slice L s.l.length c0) := cell_of_row w b 0 _ 95 (0, 0) h.blk
  obtain ⟨l, e, fl, fc, full, deep⟩ := s
  simp only at hLf b0 hcl
  cases l with
  | nil =>
    simp only [List.length_nil] at b0
    clear h hLf hcl
    go_enter Tryz.func120, Tryz.ntmps120
    go_wp2_with fail
    go_ret
    exact ⟨rfl, rfl⟩
  | cons t l =>
    obtain ⟨tb, off, rfl, _, _, ht, _⟩ := hLf.tail
    have t1 : w.cell? ⟨tb, off, none⟩ = some (.int .i64 (t.kind : Int)) := ht 0 _ rfl
    have t0 : w.cell? ⟨tb, off + 0, none⟩ = some (.int .i64 (t.kind : Int)) := ht 0 _ rfl
    have hl0 : (0 : Int) < (l.length : Int) + 1 := by omega
    have hl1 : decide ((0 : Int) < (l.length : Int) + 1) = true := decide_eq_true (by omega)
    simp only [List.length_cons] at b0 hcl
    clear h hLf ht
    go_enter Tryz.func120, Tryz.ntmps120
    go_wp2_with fail
    go_ret
    refine ⟨ret_bool ?_, rfl⟩
    simp only [seesNum]
    first
    | done
    | (by_cases hk : t.kind = 1 <;> simp [hk] <;> omega)

set_option maxHeartbeats 1600000 in
theorem pName_any (en : Nat × Nat) (b : Nat) (s : RS) (w : World) (h : Pr en w b s) :
    Calls Tryz.prog 62 #[.pointer (some ⟨b, 0, none⟩)] w fun e w' => e = .returned (.string (name en s).1) ∧ Pr en w' b (name en s).2 ∧ Turn [b] w w' := by
  have HS := Lib.hid (seesName_any en b s w h)
  have HP := Lib.hid h
  clear h
  go_enter Tryz.func62, Tryz.ntmps62
  go_wp2_with fail
  refine HS.out.mono ?_
  rintro e w1 ⟨rfl, t1⟩
  have HP1 := Lib.hid (HP.out.up t1)
  have HT1 := Lib.hid t1
  clear t1
  cases hq : seesName s with
  | false =>
    have HQ := Lib.hid hq
    clear hq
    go_wp2_with fail
    refine (refuse_any en b 10 s w1 HP1.out).mono ?_
    rintro e w2 ⟨rfl, h2, t2⟩
    have H2 := Lib.hid h2
    have HT2 := Lib.hid t2
    clear h2 t2
    go_wp2_with fail
    go_ret
    have e1 : name en s = (e0, refuse en 10 s) := by unfold name; rw [HQ.out]; rfl
    rw [e1]
    exact ⟨rfl, H2.out, (HT1.out.more (by simp)).trans HT2.out (fun g hg => .inl hg)⟩
  | true =>
    have HQ := Lib.hid hq
    clear hq
    go_wp2_with fail
    refine (pPass_any en b s w1 HP1.out (seesName_ne HQ.out)).mono ?_
    rintro e w2 ⟨rfl, h2, t2⟩
    have H2 := Lib.hid h2
    have HT2 := Lib.hid t2
    clear h2 t2
    go_wp2_with fail
    go_ret
    have e1 : name en s = pass en s := by unfold name; rw [HQ.out]; rfl
    rw [e1]
    exact ⟨rfl, H2.out, (HT1.out.more (by simp)).trans HT2.out (fun g hg => .inl hg)⟩

/-- What name answers is short. -/
theorem pass_size (en : Nat × Nat) (s : RS) (h : ∀ t ∈ s.l, GoodTok t) : (pass en s).1.size ≤ 32 := by
  unfold pass
  split
  · exact Nat.zero_le _
  · split
    · exact Nat.zero_le _
    · rename_i t r e
      have := (h t (by rw [e]; simp)).1
      rw [Lib.size_eq]
      simpa using this
theorem name_size (en : Nat × Nat) (s : RS) (h : ∀ t ∈ s.l, GoodTok t) : (name en s).1.size ≤ 32 := by
  unfold name
  split
  · exact pass_size en s h
  · exact Nat.zero_le _

set_option maxHeartbeats 1600000 in
theorem finish_any (en : Nat × Nat) (b : Nat) (s : RS) (w : World) (h : Pr en w b s) :
    Calls Tryz.prog 47 #[.pointer (some ⟨b, 0, none⟩)] w fun e w' => e = .returned (.tuple #[]) ∧ Pr en w' b (finish en s) ∧ Turn [b] w w' := by
  have HP := Lib.hid h
  obtain ⟨v, h⟩ := h
  have hLf := h.left
  obtain ⟨L, c0, rfl, hcl, _⟩ := id hLf
  have b0 : w.cell? ⟨b, 0, none⟩ = some (.slice L s.l.length c0) := cell_of_row w b 0 _ 95 (0, 0) h.blk
  by_cases h0 : s.l.length = 0
  · have e1 : finish en s = s := by
      unfold finish
      rw [List.eq_nil_of_length_eq_zero h0]
    rw [e1]
    have b0' : w.cell? ⟨b, 0, none⟩ = some (.slice L 0 c0) := by rw [b0, h0]
    clear h hLf hcl h0 e1 b0
    go_enter Tryz.func47, Tryz.ntmps47
    go_wp2_with fail
    go_end0
    exact ⟨rfl, HP.out, Turn.refl _ _⟩
  · have e1 : finish en s = refuse en 10 s := by
      unfold finish
      cases hh : s.l with
      | nil => rw [hh] at h0; exact absurd rfl h0
      | cons t l => rfl
    rw [e1]
    obtain ⟨m, hm⟩ : ∃ m, s.l.length = m := ⟨_, rfl⟩
    rw [hm] at b0 h0
    have d1 : (0 : Int) < (m : Int) := by omega
    have d2 : decide ((0 : Int) < (m : Int)) = true := by simp; omega
    clear h hLf hcl e1 hm
    go_enter Tryz.func47, Tryz.ntmps47
    go_wp2_with fail
    refine (refuse_any en b 10 s w HP.out).mono ?_
    rintro e w2 ⟨rfl, h2, t2⟩
    have H2 := Lib.hid h2
    have HT2 := Lib.hid t2
    clear h2 t2
    go_wp2_with fail
    go_end0
    exact ⟨rfl, H2.out, HT2.out⟩
end Go.Proofs.YtnmhcgkccchacaaGreatDoor

/- A statement that is being read: its block. -/
set_option linter.unusedSimpArgs false
set_option linter.unusedVariables false
set_option maxRecDepth 100000
namespace Go.Proofs.YtnmhcgkccchacaaGreatDoor
open Go.RowKit

def sbC (p : Sf) (V1 V2 V3 : Value) : Array Value := #[.int .i64 p.d, .string p.x, .string p.y, .string p.z, .string p.t, .string p.f, V1, .int .i64 p.n, V2, V3, .int .i64 p.ln, .int .i64 p.cl]
structure SB (w : World) (b sb : Nat) (p : Sf) (V1 V2 V3 : Value) : Prop where
  gt : b < sb
  blk : w.heap[sb]? = some (.cells (sbC p V1 V2 V3) 41 (0, 0))
  ag : RdV 1 RdT (fun g => sb < g) w V1 p.ag
  bd : RdV 12 RdS (fun g => sb < g) w V2 p.bd
  ot : RdV 12 RdS (fun g => sb < g) w V3 p.ot
/-- The block sb, behind b, holds the statement p. -/
def Sb (w : World) (b sb : Nat) (p : Sf) : Prop := ∃ V1 V2 V3, SB w b sb p V1 V2 V3
section
variable {w w' : World} {b sb : Nat} {p : Sf}
theorem Sb.turn {F : List Nat} (h : Sb w b sb p) (t : Turn F w w') (hF : ∀ g ∈ F, g < sb) : Sb w' b sb p := by
  obtain ⟨V1, V2, V3, h⟩ := h
  exact ⟨V1, V2, V3, h.gt, t.heap h.blk (fun hg => Nat.lt_irrefl _ (hF _ hg)), h.ag.turn goodT t (fun g hg h1 => by have := hF g hg; omega), h.bd.turn goodS t (fun g hg h1 => by have := hF g hg; omega), h.ot.turn goodS t (fun g hg h1 => by have := hF g hg; omega)⟩
theorem Sb.gt (h : Sb w b sb p) : b < sb := by
  obtain ⟨V1, V2, V3, h⟩ := h
  exact h.gt
theorem Sb.turnb (h : Sb w b sb p) (t : Turn [b] w w') : Sb w' b sb p := h.turn t (by simp; exact h.gt)
theorem Sb.up (h : Sb w b sb p) (t : Turn [] w w') : Sb w' b sb p := h.turn t (by simp)
theorem Sb.lt (h : Sb w b sb p) : sb < w.heap.size := by
  obtain ⟨V1, V2, V3, h⟩ := h
  exact (Array.getElem?_eq_some_iff.1 h.blk).1
theorem Sb.cells (h : Sb w b sb p) : ∃ V1 V2 V3, (∀ i, w.cell? ⟨sb, i, none⟩ = (sbC p V1 V2 V3)[i]?) ∧ ∀ i, w.frozen? ⟨sb, i, none⟩ = false := by
  obtain ⟨V1, V2, V3, h⟩ := h
  exact ⟨V1, V2, V3, fun i => cell_of_row w sb i _ _ _ h.blk, fun i => frozen_of_row w sb i _ _ h.blk⟩
theorem Sb.set0 {p' : Sf} {i : Nat} {u : Value} (h : Sb w b sb p) (e : ∀ V1 V2 V3, (sbC p V1 V2 V3).setIfInBounds i u = sbC p' V1 V2 V3) (e1 : p'.ag = p.ag) (e2 : p'.bd = p.bd) (e3 : p'.ot = p.ot) : Sb (w.setCell ⟨sb, i, none⟩ u) b sb p' := by
  obtain ⟨V1, V2, V3, h⟩ := h
  have t : Turn [sb] w (w.setCell ⟨sb, i, none⟩ u) := (Turn.refl [sb] w).setCell (.inl (by simp)) _
  exact ⟨V1, V2, V3, h.gt, rset h.blk (e V1 V2 V3), by rw [e1]; exact h.ag.turn goodT t (by simp), by rw [e2]; exact h.bd.turn goodS t (by simp), by rw [e3]; exact h.ot.turn goodS t (by simp)⟩
theorem Sb.set_d (h : Sb w b sb p) (u : Int) : Sb (w.setCell ⟨sb, 0, none⟩ (.int .i64 u)) b sb { p with d := u } := h.set0 (fun _ _ _ => rfl) rfl rfl rfl
theorem Sb.set_x (h : Sb w b sb p) (u : ByteArray) : Sb (w.setCell ⟨sb, 1, none⟩ (.string u)) b sb { p with x := u } := h.set0 (fun _ _ _ => rfl) rfl rfl rfl
theorem Sb.set_y (h : Sb w b sb p) (u : ByteArray) : Sb (w.setCell ⟨sb, 2, none⟩ (.string u)) b sb { p with y := u } := h.set0 (fun _ _ _ => rfl) rfl rfl rfl
theorem Sb.set_z (h : Sb w b sb p) (u : ByteArray) : Sb (w.setCell ⟨sb, 3, none⟩ (.string u)) b sb { p with z := u } := h.set0 (fun _ _ _ => rfl) rfl rfl rfl
theorem Sb.set_t (h : Sb w b sb p) (u : ByteArray) : Sb (w.setCell ⟨sb, 4, none⟩ (.string u)) b sb { p with t := u } := h.set0 (fun _ _ _ => rfl) rfl rfl rfl
theorem Sb.set_f (h : Sb w b sb p) (u : ByteArray) : Sb (w.setCell ⟨sb, 5, none⟩ (.string u)) b sb { p with f := u } := h.set0 (fun _ _ _ => rfl) rfl rfl rfl
theorem Sb.set_n (h : Sb w b sb p) (u : Int) : Sb (w.setCell ⟨sb, 7, none⟩ (.int .i64 u)) b sb { p with n := u } := h.set0 (fun _ _ _ => rfl) rfl rfl rfl
theorem Sb.set_ag (h : Sb w b sb p) {V : Value} {l : List ByteArray} (k : RdV 1 RdT (fun g => sb < g) w V l) : Sb (w.setCell ⟨sb, 6, none⟩ V) b sb { p with ag := l } := by
  obtain ⟨V1, V2, V3, h⟩ := h
  have t : Turn [sb] w (w.setCell ⟨sb, 6, none⟩ V) := (Turn.refl [sb] w).setCell (.inl (by simp)) _
  exact ⟨V, V2, V3, h.gt, rset h.blk rfl, k.turn goodT t (by simp), h.bd.turn goodS t (by simp), h.ot.turn goodS t (by simp)⟩
theorem Sb.set_bd (h : Sb w b sb p) {V : Value} {l : List St} (k : RdV 12 RdS (fun g => sb < g) w V l) : Sb (w.setCell ⟨sb, 8, none⟩ V) b sb { p with bd := l } := by
  obtain ⟨V1, V2, V3, h⟩ := h
  have t : Turn [sb] w (w.setCell ⟨sb, 8, none⟩ V) := (Turn.refl [sb] w).setCell (.inl (by simp)) _
  exact ⟨V1, V, V3, h.gt, rset h.blk rfl, h.ag.turn goodT t (by simp), k.turn goodS t (by simp), h.ot.turn goodS t (by simp)⟩
theorem Sb.set_ot (h : Sb w b sb p) {V : Value} {l : List St} (k : RdV 12 RdS (fun g => sb < g) w V l) : Sb (w.setCell ⟨sb, 9, none⟩ V) b sb { p with ot := l } := by
  obtain ⟨V1, V2, V3, h⟩ := h
  have t : Turn [sb] w (w.setCell ⟨sb, 9, none⟩ V) := (Turn.refl [sb] w).setCell (.inl (by simp)) _
  exact ⟨V1, V2, V, h.gt, rset h.blk rfl, h.ag.turn goodT t (by simp), h.bd.turn goodS t (by simp), k.turn goodS t (by simp)⟩
end

/-- take and sees of one text, laid in a block of its own just ahead, the number of that block a letter. -/
theorem takeN_any (en : Nat × Nat) (b : Nat) (s : RS) (t : List UInt8) (w : World) (n : Nat) (hn : w.heap.size = n) (C : Array Value) (hC : C = #[.string (mk t)]) (h : Pr en w b s) :
    Calls Tryz.prog 63 #[.pointer (some ⟨b, 0, none⟩), .slice (some ⟨n, 0, none⟩) 1 1] (w.alloc (.cells C 9)) fun e w' => e = .returned (.tuple #[]) ∧ Pr en w' b (take en t s) ∧ Turn [b] w w' := by
  subst hn
  exact pTake_any en b s t w C hC h
theorem take2N_any (en : Nat × Nat) (b : Nat) (s : RS) (t u : List UInt8) (w : World) (n : Nat) (hn : w.heap.size = n) (C : Array Value) (hC : C = #[.string (mk t), .string (mk u)]) (h : Pr en w b s) :
    Calls Tryz.prog 63 #[.pointer (some ⟨b, 0, none⟩), .slice (some ⟨n, 0, none⟩) 2 2] (w.alloc (.cells C 9)) fun e w' => e = .returned (.tuple #[]) ∧ Pr en w' b (takes en [t, u] s) ∧ Turn [b] w w' := by
  subst hn hC
  refine (pTakes_any en b s _ (h.up ((Turn.refl [] w).alloc _)) (some ⟨w.heap.size, 0, none⟩) 2 [t, u] (sts_new w [t, u] _ rfl) (fun g off e => by injection e with e; injection e with e; have := h.lt; omega) (by simp)).mono ?_
  rintro e w' ⟨rfl, h1, t1⟩
  exact ⟨rfl, h1, (((Turn.refl [] w).alloc _).more (by simp)).trans t1 (fun g hg => .inl hg)⟩
theorem seesN_any (en : Nat × Nat) (b : Nat) (s : RS) (t : List UInt8) (w : World) (n : Nat) (hn : w.heap.size = n) (C : Array Value) (hC : C = #[.string (mk t)]) (h : Pr en w b s) :
    Calls Tryz.prog 82 #[.pointer (some ⟨b, 0, none⟩), .slice (some ⟨n, 0, none⟩) 1 1] (w.alloc (.cells C 9)) fun e w' => e = .returned (.bool (sees t s)) ∧ Turn [] w w' := by
  subst hn
  exact sees1_any en b s t w C hC h
end Go.Proofs.YtnmhcgkccchacaaGreatDoor

/- Walks of the parser's functions, printed by gen7.py: thingType, anyType, answer. -/
set_option linter.unusedSimpArgs false
set_option linter.unusedVariables false
set_option maxRecDepth 100000
namespace Go.Proofs.YtnmhcgkccchacaaGreatDoor
open Go.RowKit

structure R0 (en : Nat × Nat) (w0 w : World) (b : Nat) (s : RS) : Prop where
  pr : Pr en w b s
  tt : Turn [b] w0 w
theorem R0.mk0 {en : Nat × Nat} {w : World} {b : Nat} {s : RS} (h : Pr en w b s) : R0 en w w b s := ⟨h, Turn.refl _ _⟩
theorem R0.call {en : Nat × Nat} {w0 w w' : World} {b : Nat} {s s' : RS} (h : R0 en w0 w b s) (k : Pr en w' b s') (t : Turn [b] w w') : R0 en w0 w' b s' := ⟨k, h.tt.trans t (fun g hg => .inl hg)⟩
theorem R0.up {en : Nat × Nat} {w0 w w' : World} {b : Nat} {s : RS} (h : R0 en w0 w b s) (t : Turn [] w w') : R0 en w0 w' b s := ⟨h.pr.up t, h.tt.trans' t⟩
structure St8 (en : Nat × Nat) (w0 w : World) (b sb : Nat) (s : RS) (p : Sf) : Prop where
  pr : Pr en w b s
  ss : Sb w b sb p
  tt : Turn [b, sb] w0 w
section
variable {en : Nat × Nat} {w0 w w' : World} {b sb : Nat} {s s' : RS} {p p' : Sf}
theorem St8.mk0 (h : Pr en w b s) (k : Sb w b sb p) : St8 en w w b sb s p := ⟨h, k, Turn.refl _ _⟩
theorem St8.call (h : St8 en w0 w b sb s p) (k : Pr en w' b s') (t : Turn [b] w w') : St8 en w0 w' b sb s' p := ⟨k, h.ss.turnb t, h.tt.trans t (fun g hg => .inl (by simp at hg; simp [hg]))⟩
theorem St8.up (h : St8 en w0 w b sb s p) (t : Turn [] w w') : St8 en w0 w' b sb s p := ⟨h.pr.up t, h.ss.up t, h.tt.trans' t⟩
theorem St8.callS (h : St8 en w0 w b sb s p) (k : St8 en w w' b sb s' p') : St8 en w0 w' b sb s' p' := ⟨k.pr, k.ss, h.tt.trans k.tt (fun g hg => .inl hg)⟩
theorem St8.set (h : St8 en w0 w b sb s p) {i : Nat} {u : Value} (k : Sb (w.setCell ⟨sb, i, none⟩ u) b sb p') : St8 en w0 (w.setCell ⟨sb, i, none⟩ u) b sb s p' :=
  ⟨h.pr.turn (F := [sb]) ((Turn.refl [sb] w).setCell (.inl (by simp)) _) (by simp; exact h.ss.gt), k, h.tt.setCell (.inl (by simp)) _⟩
theorem St8.set_d (h : St8 en w0 w b sb s p) (u : Int) : St8 en w0 (w.setCell ⟨sb, 0, none⟩ (.int .i64 u)) b sb s { p with d := u } := h.set (h.ss.set_d u)
theorem St8.set_x (h : St8 en w0 w b sb s p) (u : ByteArray) : St8 en w0 (w.setCell ⟨sb, 1, none⟩ (.string u)) b sb s { p with x := u } := h.set (h.ss.set_x u)
theorem St8.set_y (h : St8 en w0 w b sb s p) (u : ByteArray) : St8 en w0 (w.setCell ⟨sb, 2, none⟩ (.string u)) b sb s { p with y := u } := h.set (h.ss.set_y u)
theorem St8.set_z (h : St8 en w0 w b sb s p) (u : ByteArray) : St8 en w0 (w.setCell ⟨sb, 3, none⟩ (.string u)) b sb s { p with z := u } := h.set (h.ss.set_z u)
theorem St8.set_t (h : St8 en w0 w b sb s p) (u : ByteArray) : St8 en w0 (w.setCell ⟨sb, 4, none⟩ (.string u)) b sb s { p with t := u } := h.set (h.ss.set_t u)
theorem St8.set_f (h : St8 en w0 w b sb s p) (u : ByteArray) : St8 en w0 (w.setCell ⟨sb, 5, none⟩ (.string u)) b sb s { p with f := u } := h.set (h.ss.set_f u)
theorem St8.set_n (h : St8 en w0 w b sb s p) (u : Int) : St8 en w0 (w.setCell ⟨sb, 7, none⟩ (.int .i64 u)) b sb s { p with n := u } := h.set (h.ss.set_n u)
theorem St8.set_ag (h : St8 en w0 w b sb s p) {V : Value} {l : List ByteArray} (k : RdV 1 RdT (fun g => sb < g) w V l) : St8 en w0 (w.setCell ⟨sb, 6, none⟩ V) b sb s { p with ag := l } := h.set (h.ss.set_ag k)
theorem St8.set_bd (h : St8 en w0 w b sb s p) {V : Value} {l : List St} (k : RdV 12 RdS (fun g => sb < g) w V l) : St8 en w0 (w.setCell ⟨sb, 8, none⟩ V) b sb s { p with bd := l } := h.set (h.ss.set_bd k)
theorem St8.set_ot (h : St8 en w0 w b sb s p) {V : Value} {l : List St} (k : RdV 12 RdS (fun g => sb < g) w V l) : St8 en w0 (w.setCell ⟨sb, 9, none⟩ V) b sb s { p with ot := l } := h.set (h.ss.set_ot k)
end
theorem Pr.tok {en : Nat × Nat} {w : World} {b : Nat} {s : RS} (h : Pr en w b s) : ∀ t ∈ s.l, GoodTok t := by
  obtain ⟨v, h⟩ := h
  exact h.tok
theorem Pr.len {en : Nat × Nat} {w : World} {b : Nat} {s : RS} (h : Pr en w b s) : s.l.length ≤ 900000 := by
  obtain ⟨v, h⟩ := h
  exact h.len
theorem Pr.gt {en : Nat × Nat} {w : World} {b : Nat} {s : RS} (h : Pr en w b s) : 7 < b := by
  obtain ⟨v, h⟩ := h
  exact h.gt

set_option maxHeartbeats 3200000 in
theorem thingType_any (en : Nat × Nat) (b : Nat) (s : RS) (w : World) (hP : Pr en w b s) :
    Calls Tryz.prog 122 #[.pointer (some ⟨b, 0, none⟩)] w fun e w' => e = .returned (.string (thingType en s).1) ∧ Pr en w' b (thingType en s).2 ∧ Turn [b] w w' := by
  have H0 := Lib.hid (R0.mk0 hP)
  clear hP
  go_enter Tryz.func122, Tryz.ntmps122
  go_wp2_with fail
  refine (pName_any en b s _ H0.out.pr).mono ?_
  rintro e1 w1 ⟨rfl, h1, t1⟩
  have H1 := Lib.hid (H0.out.call h1 t1)
  clear h1 t1
  obtain ⟨v1, ea1⟩ : ∃ v, (name en s).1 = v := ⟨_, rfl⟩
  rw [ea1]
  have hz1 : v1.size ≤ 32 := by rw [← ea1]; exact name_size en s H0.out.pr.tok
  obtain ⟨s1, es1⟩ : ∃ q, (name en s).2 = q := ⟨_, rfl⟩
  rw [es1] at H1
  have Hes1 := Lib.hid es1
  clear es1
  have Hea1 := Lib.hid ea1
  clear ea1
  go_wp2_with fail
  refine (pSkip_any en b s1 [91] _ rfl _ H1.out.pr).mono ?_
  rintro e2 w2 ⟨rfl, h2, t2⟩
  have H2 := Lib.hid (H1.out.call h2 t2)
  clear h2 t2
  obtain ⟨s2, es2⟩ : ∃ q, (skip en [91] s1).2 = q := ⟨_, rfl⟩
  rw [es2] at H2
  have Hes2 := Lib.hid es2
  clear es2
  cases hq2 : (skip en [91] s1).1 with
  | true =>
    have HQ2 := Lib.hid hq2
    clear hq2
    go_wp2_with fail
    refine (takeN_any en b s2 [93] _ w2.heap.size rfl _ rfl H2.out.pr).mono ?_
    rintro e3 w3 ⟨rfl, h3, t3⟩
    have H3 := Lib.hid (H2.out.call h3 t3)
    clear h3 t3
    obtain ⟨s3, es3⟩ : ∃ q, take en [93] s2 = q := ⟨_, rfl⟩
    rw [es3] at H3
    have Hes3 := Lib.hid es3
    clear es3
    go_wp2_with fail
    go_ret
    have EF : thingType en s = ((v1 ++ ⟨#[91, 93]⟩), s3) := by
      refine Prod.ext ?_ ?_ <;> (unfold thingType; simp only [Hes1.out, Hea1.out, Hes2.out, HQ2.out, Hes3.out, if_true, if_false, Bool.false_eq_true, reduceIte])
    rw [EF]
    exact ⟨rfl, H3.out.pr, H3.out.tt⟩
  | false =>
    have HQ2 := Lib.hid hq2
    clear hq2
    go_wp2_with fail
    go_ret
    have EF : thingType en s = (v1, s2) := by
      refine Prod.ext ?_ ?_ <;> (unfold thingType; simp only [Hes1.out, Hea1.out, Hes2.out, HQ2.out, if_true, if_false, Bool.false_eq_true, reduceIte])
    rw [EF]
    exact ⟨rfl, H2.out.pr, H2.out.tt⟩

set_option maxHeartbeats 3200000 in
theorem anyType_any (en : Nat × Nat) (b : Nat) (s : RS) (w : World) (hP : Pr en w b s) :
    Calls Tryz.prog 162 #[.pointer (some ⟨b, 0, none⟩)] w fun e w' => e = .returned (.string (anyType en s).1) ∧ Pr en w' b (anyType en s).2 ∧ Turn [b] w w' := by
  have H0 := Lib.hid (R0.mk0 hP)
  clear hP
  go_enter Tryz.func162, Tryz.ntmps162
  go_wp2_with fail
  refine (pSkip_any en b s kInt _ rfl _ H0.out.pr).mono ?_
  rintro e1 w1 ⟨rfl, h1, t1⟩
  have H1 := Lib.hid (H0.out.call h1 t1)
  clear h1 t1
  obtain ⟨s1, es1⟩ : ∃ q, (skip en kInt s).2 = q := ⟨_, rfl⟩
  rw [es1] at H1
  have Hes1 := Lib.hid es1
  clear es1
  cases hq1 : (skip en kInt s).1 with
  | true =>
    have HQ1 := Lib.hid hq1
    clear hq1
    go_wp2_with fail
    go_ret
    have EF : anyType en s = (⟨kInt.toArray⟩, s1) := by
      refine Prod.ext ?_ ?_ <;> (unfold anyType; simp only [Hes1.out, HQ1.out, if_true, if_false, Bool.false_eq_true, reduceIte])
    rw [EF]
    exact ⟨rfl, H1.out.pr, H1.out.tt⟩
  | false =>
    have HQ1 := Lib.hid hq1
    clear hq1
    go_wp2_with fail
    refine (thingType_any en b s1 _ H1.out.pr).mono ?_
    rintro e2 w2 ⟨rfl, h2, t2⟩
    have H2 := Lib.hid (H1.out.call h2 t2)
    clear h2 t2
    obtain ⟨v2, ea2⟩ : ∃ v, (thingType en s1).1 = v := ⟨_, rfl⟩
    rw [ea2]
    obtain ⟨s2, es2⟩ : ∃ q, (thingType en s1).2 = q := ⟨_, rfl⟩
    rw [es2] at H2
    have Hes2 := Lib.hid es2
    clear es2
    have Hea2 := Lib.hid ea2
    clear ea2
    go_wp2_with fail
    go_ret
    have EF : anyType en s = (v2, s2) := by
      refine Prod.ext ?_ ?_ <;> (unfold anyType; simp only [Hes1.out, HQ1.out, Hes2.out, Hea2.out, if_true, if_false, Bool.false_eq_true, reduceIte])
    rw [EF]
    exact ⟨rfl, H2.out.pr, H2.out.tt⟩

set_option maxHeartbeats 3200000 in
theorem answer_any (en : Nat × Nat) (b : Nat) (s : RS) (w : World) (hP : Pr en w b s) :
    Calls Tryz.prog 152 #[.pointer (some ⟨b, 0, none⟩)] w fun e w' => e = .returned (.string (answer en s).1) ∧ Pr en w' b (answer en s).2 ∧ Turn [b] w w' := by
  have H0 := Lib.hid (R0.mk0 hP)
  clear hP
  go_enter Tryz.func152, Tryz.ntmps152
  go_wp2_with fail
  refine (pSkip_any en b s kVoid _ rfl _ H0.out.pr).mono ?_
  rintro e1 w1 ⟨rfl, h1, t1⟩
  have H1 := Lib.hid (H0.out.call h1 t1)
  clear h1 t1
  obtain ⟨s1, es1⟩ : ∃ q, (skip en kVoid s).2 = q := ⟨_, rfl⟩
  rw [es1] at H1
  have Hes1 := Lib.hid es1
  clear es1
  cases hq1 : (skip en kVoid s).1 with
  | true =>
    have HQ1 := Lib.hid hq1
    clear hq1
    go_wp2_with fail
    go_ret
    have EF : answer en s = (⟨kVoid.toArray⟩, s1) := by
      refine Prod.ext ?_ ?_ <;> (unfold answer; simp only [Hes1.out, HQ1.out, if_true, if_false, Bool.false_eq_true, reduceIte])
    rw [EF]
    exact ⟨rfl, H1.out.pr, H1.out.tt⟩
  | false =>
    have HQ1 := Lib.hid hq1
    clear hq1
    go_wp2_with fail
    refine (anyType_any en b s1 _ H1.out.pr).mono ?_
    rintro e2 w2 ⟨rfl, h2, t2⟩
    have H2 := Lib.hid (H1.out.call h2 t2)
    clear h2 t2
    obtain ⟨v2, ea2⟩ : ∃ v, (anyType en s1).1 = v := ⟨_, rfl⟩
    rw [ea2]
    obtain ⟨s2, es2⟩ : ∃ q, (anyType en s1).2 = q := ⟨_, rfl⟩
    rw [es2] at H2
    have Hes2 := Lib.hid es2
    clear es2
    have Hea2 := Lib.hid ea2
    clear ea2
    go_wp2_with fail
    go_ret
    have EF : answer en s = (v2, s2) := by
      refine Prod.ext ?_ ?_ <;> (unfold answer; simp only [Hes1.out, HQ1.out, Hes2.out, Hea2.out, if_true, if_false, Bool.false_eq_true, reduceIte])
    rw [EF]
    exact ⟨rfl, H2.out.pr, H2.out.tt⟩

end Go.Proofs.YtnmhcgkccchacaaGreatDoor

/- Walks of the parser's functions, printed by gen7.py: put, made, less, back. -/
set_option linter.unusedSimpArgs false
set_option linter.unusedVariables false
set_option maxRecDepth 100000
namespace Go.Proofs.YtnmhcgkccchacaaGreatDoor
open Go.RowKit

set_option maxHeartbeats 6400000 in
theorem put_any (en : Nat × Nat) (b sb : Nat) (s : RS) (p : Sf) (dd : Int) (w : World) (hP : Pr en w b s) (hS : Sb w b sb p) :
    Calls Tryz.prog 94 #[.pointer (some ⟨b, 0, none⟩), .pointer (some ⟨sb, 0, none⟩), .int .i64 dd] w fun e w' => e = .returned (.tuple #[]) ∧ St8 en w w' b sb (put en p dd s).2 (put en p dd s).1 := by
  obtain ⟨d, x, y, z, t, f, ag, n, bd, ot, ln, cl⟩ := p
  have H0 := Lib.hid (St8.mk0 hP hS)
  clear hP hS
  obtain ⟨U1_0, U2_0, U3_0, hcc, hff⟩ := H0.out.ss.cells
  have c0_d : w.cell? ⟨sb, 0, none⟩ = some (.int .i64 d) := hcc 0
  have g0_d : w.frozen? ⟨sb, 0, none⟩ = false := hff 0
  clear hcc hff
  go_enter Tryz.func94, Tryz.ntmps94
  have H0s : Hid (St8 en w (w.setCell ⟨sb, 0, none⟩ (.int .i64 dd)) b sb s ⟨dd, x, y, z, t, f, ag, n, bd, ot, ln, cl⟩) := Lib.hid (H0.out.set_d dd)
  go_wp2_with fail
  refine (takeN_any en b s [61] _ w.heap.size (by simp) _ rfl H0s.out.pr).mono ?_
  rintro e1 w1 ⟨rfl, h1, t1⟩
  have H1 := Lib.hid (H0s.out.call h1 t1)
  clear h1 t1
  obtain ⟨s1, es1⟩ : ∃ q, take en [61] s = q := ⟨_, rfl⟩
  rw [es1] at H1
  have Hes1 := Lib.hid es1
  clear es1
  go_wp2_with fail
  refine (pName_any en b s1 _ H1.out.pr).mono ?_
  rintro e2 w2 ⟨rfl, h2, t2⟩
  have H2 := Lib.hid (H1.out.call h2 t2)
  clear h2 t2
  obtain ⟨v2, ea2⟩ : ∃ v, (name en s1).1 = v := ⟨_, rfl⟩
  rw [ea2]
  obtain ⟨s2, es2⟩ : ∃ q, (name en s1).2 = q := ⟨_, rfl⟩
  rw [es2] at H2
  have Hes2 := Lib.hid es2
  clear es2
  have Hea2 := Lib.hid ea2
  clear ea2
  obtain ⟨U1_2, U2_2, U3_2, hcc, hff⟩ := H2.out.ss.cells
  have c2_y : w2.cell? ⟨sb, 2, none⟩ = some (.string y) := hcc 2
  have g2_y : w2.frozen? ⟨sb, 2, none⟩ = false := hff 2
  clear hcc hff
  have H2s : Hid (St8 en w (w2.setCell ⟨sb, 2, none⟩ (.string v2)) b sb s2 ⟨dd, x, v2, z, t, f, ag, n, bd, ot, ln, cl⟩) := Lib.hid (H2.out.set_y v2)
  go_wp2_with fail
  (first | go_end0 | refine bodyPost_ret (v := .tuple #[]) (by simp [results, Tryz.results94, go_sem]) rfl ?_)
  have EF : put en ⟨d, x, y, z, t, f, ag, n, bd, ot, ln, cl⟩ dd s = (⟨dd, x, v2, z, t, f, ag, n, bd, ot, ln, cl⟩, s2) := by
    refine Prod.ext ?_ ?_ <;> (unfold put; simp only [Hes1.out, Hes2.out, Hea2.out, if_true, if_false, Bool.false_eq_true, reduceIte])
  rw [EF]
  exact ⟨rfl, H2s.out⟩

set_option maxHeartbeats 6400000 in
theorem made_any (en : Nat × Nat) (b sb : Nat) (s : RS) (p : Sf) (w : World) (hP : Pr en w b s) (hS : Sb w b sb p) :
    Calls Tryz.prog 119 #[.pointer (some ⟨b, 0, none⟩), .pointer (some ⟨sb, 0, none⟩)] w fun e w' => e = .returned (.tuple #[]) ∧ St8 en w w' b sb (made en p s).2 (made en p s).1 := by
  obtain ⟨d, x, y, z, t, f, ag, n, bd, ot, ln, cl⟩ := p
  have H0 := Lib.hid (St8.mk0 hP hS)
  clear hP hS
  go_enter Tryz.func119, Tryz.ntmps119
  go_wp2_with fail
  refine (pName_any en b s _ H0.out.pr).mono ?_
  rintro e1 w1 ⟨rfl, h1, t1⟩
  have H1 := Lib.hid (H0.out.call h1 t1)
  clear h1 t1
  obtain ⟨v1, ea1⟩ : ∃ v, (name en s).1 = v := ⟨_, rfl⟩
  rw [ea1]
  obtain ⟨s1, es1⟩ : ∃ q, (name en s).2 = q := ⟨_, rfl⟩
  rw [es1] at H1
  have Hes1 := Lib.hid es1
  clear es1
  have Hea1 := Lib.hid ea1
  clear ea1
  obtain ⟨U1_1, U2_1, U3_1, hcc, hff⟩ := H1.out.ss.cells
  have c1_d : w1.cell? ⟨sb, 0, none⟩ = some (.int .i64 d) := hcc 0
  have g1_d : w1.frozen? ⟨sb, 0, none⟩ = false := hff 0
  have c1_t : w1.cell? ⟨sb, 4, none⟩ = some (.string t) := hcc 4
  have g1_t : w1.frozen? ⟨sb, 4, none⟩ = false := hff 4
  clear hcc hff
  have H1s : Hid (St8 en w ((w1.setCell ⟨sb, 0, none⟩ (.int .i64 0)).setCell ⟨sb, 4, none⟩ (.string v1)) b sb s1 ⟨0, x, y, z, v1, f, ag, n, bd, ot, ln, cl⟩) := Lib.hid ((H1.out.set_d 0).set_t v1)
  go_wp2_with fail
  refine (pSkip_any en b s1 [91] _ rfl _ H1s.out.pr).mono ?_
  rintro e2 w2 ⟨rfl, h2, t2⟩
  have H2 := Lib.hid (H1s.out.call h2 t2)
  clear h2 t2
  obtain ⟨s2, es2⟩ : ∃ q, (skip en [91] s1).2 = q := ⟨_, rfl⟩
  rw [es2] at H2
  have Hes2 := Lib.hid es2
  clear es2
  cases hq2 : (skip en [91] s1).1 with
  | true =>
    have HQ2 := Lib.hid hq2
    clear hq2
    go_wp2_with fail
    refine (takeN_any en b s2 [93] _ w2.heap.size rfl _ rfl H2.out.pr).mono ?_
    rintro e3 w3 ⟨rfl, h3, t3⟩
    have H3 := Lib.hid (H2.out.call h3 t3)
    clear h3 t3
    obtain ⟨s3, es3⟩ : ∃ q, take en [93] s2 = q := ⟨_, rfl⟩
    rw [es3] at H3
    have Hes3 := Lib.hid es3
    clear es3
    obtain ⟨U1_3, U2_3, U3_3, hcc, hff⟩ := H3.out.ss.cells
    have c3_d : w3.cell? ⟨sb, 0, none⟩ = some (.int .i64 0) := hcc 0
    have g3_d : w3.frozen? ⟨sb, 0, none⟩ = false := hff 0
    clear hcc hff
    have H3s : Hid (St8 en w (w3.setCell ⟨sb, 0, none⟩ (.int .i64 1)) b sb s3 ⟨1, x, y, z, v1, f, ag, n, bd, ot, ln, cl⟩) := Lib.hid (H3.out.set_d 1)
    go_wp2_with fail
    (first | go_end0 | refine bodyPost_ret (v := .tuple #[]) (by simp [results, Tryz.results119, go_sem]) rfl ?_)
    have EF : made en ⟨d, x, y, z, t, f, ag, n, bd, ot, ln, cl⟩ s = (⟨1, x, y, z, v1, f, ag, n, bd, ot, ln, cl⟩, s3) := by
      refine Prod.ext ?_ ?_ <;> (unfold made; simp only [Hes1.out, Hea1.out, Hes2.out, HQ2.out, Hes3.out, if_true, if_false, Bool.false_eq_true, reduceIte])
    rw [EF]
    exact ⟨rfl, H3s.out⟩
  | false =>
    have HQ2 := Lib.hid hq2
    clear hq2
    go_wp2_with fail
    (first | go_end0 | refine bodyPost_ret (v := .tuple #[]) (by simp [results, Tryz.results119, go_sem]) rfl ?_)
    have EF : made en ⟨d, x, y, z, t, f, ag, n, bd, ot, ln, cl⟩ s = (⟨0, x, y, z, v1, f, ag, n, bd, ot, ln, cl⟩, s2) := by
      refine Prod.ext ?_ ?_ <;> (unfold made; simp only [Hes1.out, Hea1.out, Hes2.out, HQ2.out, if_true, if_false, Bool.false_eq_true, reduceIte])
    rw [EF]
    exact ⟨rfl, H2.out⟩

set_option maxHeartbeats 6400000 in
theorem less_any (en : Nat × Nat) (b sb : Nat) (s : RS) (p : Sf) (w : World) (hP : Pr en w b s) (hS : Sb w b sb p) :
    Calls Tryz.prog 91 #[.pointer (some ⟨b, 0, none⟩), .pointer (some ⟨sb, 0, none⟩)] w fun e w' => e = .returned (.tuple #[]) ∧ St8 en w w' b sb (less en p s).2 (less en p s).1 := by
  obtain ⟨d, x, y, z, t, f, ag, n, bd, ot, ln, cl⟩ := p
  have H0 := Lib.hid (St8.mk0 hP hS)
  clear hP hS
  go_enter Tryz.func91, Tryz.ntmps91
  go_wp2_with fail
  refine (takeN_any en b s [40] _ w.heap.size rfl _ rfl H0.out.pr).mono ?_
  rintro e1 w1 ⟨rfl, h1, t1⟩
  have H1 := Lib.hid (H0.out.call h1 t1)
  clear h1 t1
  obtain ⟨s1, es1⟩ : ∃ q, take en [40] s = q := ⟨_, rfl⟩
  rw [es1] at H1
  have Hes1 := Lib.hid es1
  clear es1
  go_wp2_with fail
  refine (pName_any en b s1 _ H1.out.pr).mono ?_
  rintro e2 w2 ⟨rfl, h2, t2⟩
  have H2 := Lib.hid (H1.out.call h2 t2)
  clear h2 t2
  obtain ⟨v2, ea2⟩ : ∃ v, (name en s1).1 = v := ⟨_, rfl⟩
  rw [ea2]
  obtain ⟨s2, es2⟩ : ∃ q, (name en s1).2 = q := ⟨_, rfl⟩
  rw [es2] at H2
  have Hes2 := Lib.hid es2
  clear es2
  have Hea2 := Lib.hid ea2
  clear ea2
  obtain ⟨U1_2, U2_2, U3_2, hcc, hff⟩ := H2.out.ss.cells
  have c2_y : w2.cell? ⟨sb, 2, none⟩ = some (.string y) := hcc 2
  have g2_y : w2.frozen? ⟨sb, 2, none⟩ = false := hff 2
  clear hcc hff
  have H2s : Hid (St8 en w (w2.setCell ⟨sb, 2, none⟩ (.string v2)) b sb s2 ⟨d, x, v2, z, t, f, ag, n, bd, ot, ln, cl⟩) := Lib.hid (H2.out.set_y v2)
  go_wp2_with fail
  refine (takeN_any en b s2 [60] _ w2.heap.size (by simp) _ rfl H2s.out.pr).mono ?_
  rintro e3 w3 ⟨rfl, h3, t3⟩
  have H3 := Lib.hid (H2s.out.call h3 t3)
  clear h3 t3
  obtain ⟨s3, es3⟩ : ∃ q, take en [60] s2 = q := ⟨_, rfl⟩
  rw [es3] at H3
  have Hes3 := Lib.hid es3
  clear es3
  go_wp2_with fail
  refine (pName_any en b s3 _ H3.out.pr).mono ?_
  rintro e4 w4 ⟨rfl, h4, t4⟩
  have H4 := Lib.hid (H3.out.call h4 t4)
  clear h4 t4
  obtain ⟨v4, ea4⟩ : ∃ v, (name en s3).1 = v := ⟨_, rfl⟩
  rw [ea4]
  obtain ⟨s4, es4⟩ : ∃ q, (name en s3).2 = q := ⟨_, rfl⟩
  rw [es4] at H4
  have Hes4 := Lib.hid es4
  clear es4
  have Hea4 := Lib.hid ea4
  clear ea4
  obtain ⟨U1_4, U2_4, U3_4, hcc, hff⟩ := H4.out.ss.cells
  have c4_z : w4.cell? ⟨sb, 3, none⟩ = some (.string z) := hcc 3
  have g4_z : w4.frozen? ⟨sb, 3, none⟩ = false := hff 3
  clear hcc hff
  have H4s : Hid (St8 en w (w4.setCell ⟨sb, 3, none⟩ (.string v4)) b sb s4 ⟨d, x, v2, v4, t, f, ag, n, bd, ot, ln, cl⟩) := Lib.hid (H4.out.set_z v4)
  go_wp2_with fail
  refine (takeN_any en b s4 [41] _ w4.heap.size (by simp) _ rfl H4s.out.pr).mono ?_
  rintro e5 w5 ⟨rfl, h5, t5⟩
  have H5 := Lib.hid (H4s.out.call h5 t5)
  clear h5 t5
  obtain ⟨s5, es5⟩ : ∃ q, take en [41] s4 = q := ⟨_, rfl⟩
  rw [es5] at H5
  have Hes5 := Lib.hid es5
  clear es5
  go_wp2_with fail
  (first | go_end0 | refine bodyPost_ret (v := .tuple #[]) (by simp [results, Tryz.results91, go_sem]) rfl ?_)
  have EF : less en ⟨d, x, y, z, t, f, ag, n, bd, ot, ln, cl⟩ s = (⟨d, x, v2, v4, t, f, ag, n, bd, ot, ln, cl⟩, s5) := by
    refine Prod.ext ?_ ?_ <;> (unfold less; simp only [Hes1.out, Hes2.out, Hea2.out, Hes3.out, Hes4.out, Hea4.out, Hes5.out, if_true, if_false, Bool.false_eq_true, reduceIte])
  rw [EF]
  exact ⟨rfl, H5.out⟩

set_option maxHeartbeats 6400000 in
theorem back_any (en : Nat × Nat) (b sb : Nat) (s : RS) (p : Sf) (w : World) (hP : Pr en w b s) (hS : Sb w b sb p) :
    Calls Tryz.prog 64 #[.pointer (some ⟨b, 0, none⟩), .pointer (some ⟨sb, 0, none⟩)] w fun e w' => e = .returned (.tuple #[]) ∧ St8 en w w' b sb (back en p s).2 (back en p s).1 := by
  obtain ⟨d, x, y, z, t, f, ag, n, bd, ot, ln, cl⟩ := p
  have H0 := Lib.hid (St8.mk0 hP hS)
  clear hP hS
  obtain ⟨U1_0, U2_0, U3_0, hcc, hff⟩ := H0.out.ss.cells
  have c0_d : w.cell? ⟨sb, 0, none⟩ = some (.int .i64 d) := hcc 0
  have g0_d : w.frozen? ⟨sb, 0, none⟩ = false := hff 0
  clear hcc hff
  go_enter Tryz.func64, Tryz.ntmps64
  have H0s : Hid (St8 en w (w.setCell ⟨sb, 0, none⟩ (.int .i64 22)) b sb s ⟨22, x, y, z, t, f, ag, n, bd, ot, ln, cl⟩) := Lib.hid (H0.out.set_d 22)
  go_wp2_with fail
  refine (seesN_any en b s [59] _ w.heap.size (by simp) _ rfl H0s.out.pr).mono ?_
  rintro e1 w1 ⟨rfl, t1⟩
  have H1 := Lib.hid (H0s.out.up t1)
  clear t1
  cases hq1 : sees [59] s with
  | true =>
    have HQ1 := Lib.hid hq1
    clear hq1
    go_wp2_with fail
    refine (takeN_any en b s [59] _ w1.heap.size rfl _ rfl H1.out.pr).mono ?_
    rintro e2 w2 ⟨rfl, h2, t2⟩
    have H2 := Lib.hid (H1.out.call h2 t2)
    clear h2 t2
    obtain ⟨s2, es2⟩ : ∃ q, take en [59] s = q := ⟨_, rfl⟩
    rw [es2] at H2
    have Hes2 := Lib.hid es2
    clear es2
    go_wp2_with fail
    (first | go_end0 | refine bodyPost_ret (v := .tuple #[]) (by simp [results, Tryz.results64, go_sem]) rfl ?_)
    have EF : back en ⟨d, x, y, z, t, f, ag, n, bd, ot, ln, cl⟩ s = (⟨22, x, y, z, t, f, ag, n, bd, ot, ln, cl⟩, s2) := by
      refine Prod.ext ?_ ?_ <;> (unfold back; simp only [HQ1.out, Hes2.out, if_true, if_false, Bool.false_eq_true, reduceIte])
    rw [EF]
    exact ⟨rfl, H2.out⟩
  | false =>
    have HQ1 := Lib.hid hq1
    clear hq1
    go_wp2_with fail
    refine (pName_any en b s _ H1.out.pr).mono ?_
    rintro e2 w2 ⟨rfl, h2, t2⟩
    have H2 := Lib.hid (H1.out.call h2 t2)
    clear h2 t2
    obtain ⟨v2, ea2⟩ : ∃ v, (name en s).1 = v := ⟨_, rfl⟩
    rw [ea2]
    obtain ⟨s2, es2⟩ : ∃ q, (name en s).2 = q := ⟨_, rfl⟩
    rw [es2] at H2
    have Hes2 := Lib.hid es2
    clear es2
    have Hea2 := Lib.hid ea2
    clear ea2
    obtain ⟨U1_2, U2_2, U3_2, hcc, hff⟩ := H2.out.ss.cells
    have c2_x : w2.cell? ⟨sb, 1, none⟩ = some (.string x) := hcc 1
    have g2_x : w2.frozen? ⟨sb, 1, none⟩ = false := hff 1
    clear hcc hff
    have H2s : Hid (St8 en w (w2.setCell ⟨sb, 1, none⟩ (.string v2)) b sb s2 ⟨22, v2, y, z, t, f, ag, n, bd, ot, ln, cl⟩) := Lib.hid (H2.out.set_x v2)
    go_wp2_with fail
    refine (takeN_any en b s2 [59] _ w2.heap.size (by simp) _ rfl H2s.out.pr).mono ?_
    rintro e3 w3 ⟨rfl, h3, t3⟩
    have H3 := Lib.hid (H2s.out.call h3 t3)
    clear h3 t3
    obtain ⟨s3, es3⟩ : ∃ q, take en [59] s2 = q := ⟨_, rfl⟩
    rw [es3] at H3
    have Hes3 := Lib.hid es3
    clear es3
    go_wp2_with fail
    (first | go_end0 | refine bodyPost_ret (v := .tuple #[]) (by simp [results, Tryz.results64, go_sem]) rfl ?_)
    have EF : back en ⟨d, x, y, z, t, f, ag, n, bd, ot, ln, cl⟩ s = (⟨22, v2, y, z, t, f, ag, n, bd, ot, ln, cl⟩, s3) := by
      refine Prod.ext ?_ ?_ <;> (unfold back; simp only [HQ1.out, Hes2.out, Hea2.out, Hes3.out, if_true, if_false, Bool.false_eq_true, reduceIte])
    rw [EF]
    exact ⟨rfl, H3.out⟩

end Go.Proofs.YtnmhcgkccchacaaGreatDoor

/- series, of names. -/
set_option linter.unusedSimpArgs false
set_option linter.unusedVariables false
set_option maxRecDepth 100000
namespace Go.Proofs.YtnmhcgkccchacaaGreatDoor
open Go.RowKit

def lenAt (w : World) (b : Nat) : Nat := match w.cell? ⟨b, 0, none⟩ with | some (.slice _ n _) => n | _ => 0
structure SRel {α : Type} (f : Nat → List α → RS → List α × RS) (Q : Bool) (acc : List α) (s1 : RS) (R : List α × RS) : Prop where
  yes : Q = true → acc.length + s1.l.length ≤ 900000 ∧ ∃ n, s1.l.length < n ∧ f n acc s1 = R
  no : Q = false → (acc, s1) = R
def boolN : Value → Nat
  | .bool true => 1
  | _ => 0
theorem Pr.lenAt {en : Nat × Nat} {w : World} {b : Nat} {s : RS} (h : Pr en w b s) : lenAt w b = s.l.length := by
  obtain ⟨v, h⟩ := h
  obtain ⟨A, c, rfl, _⟩ := h.left
  unfold Go.Proofs.YtnmhcgkccchacaaGreatDoor.lenAt
  rw [cell_of_row w b 0 _ 95 (0, 0) h.blk]
  rfl
theorem OwnL.form {α : Type} {e sz : Nat} {R : Rdg α} {A : Nat → Prop} {w : World} {v : Value} {l : List α} (h : OwnL e sz R A w v l) : ∃ P c, v = .slice P l.length c ∧ l.length ≤ c := by
  obtain ⟨css, _, h, _⟩ := h
  obtain ⟨P, c, e, h1, _⟩ := owns_form h
  exact ⟨P, c, e, h1⟩
theorem text_info : (Tryz.prog.info? 9).map (fun i => (i.zero, i.size, i.bytes)) = some (some (.string ⟨#[]⟩), 1, 16) := by kernel_rfl
theorem var_info : (Tryz.prog.info? 107).map (fun i => (i.zero, i.size, i.bytes)) = some (some (.agg #[.string ⟨#[]⟩, .string ⟨#[]⟩, .int .i64 0, .int .i64 0]), 4, 48) := by kernel_rfl

set_option maxHeartbeats 6400000 in
theorem namesL_any (en : Nat × Nat) (b : Nat) (s : RS) (w : World) (hP : Pr en w b s) :
    Calls Tryz.prog 124 #[.pointer (some ⟨b, 0, none⟩), .func (.func 62) #[.pointer (some ⟨b, 0, none⟩)] #[]] w fun e w' =>
      ∃ V, e = .returned V ∧ RdV 1 RdT (fun g => w.heap.size ≤ g) w' V (namesL en s).1 ∧ Pr en w' b (namesL en s).2 ∧ Turn [b] w w' := by
  have HP0 := Lib.hid hP
  have hl := hP.len
  have hbl := hP.lt
  obtain ⟨R, hR⟩ : ∃ R, namesL en s = R := ⟨_, rfl⟩
  rw [hR]
  have HR0 := Lib.hid hR
  clear hP hR
  go_enter Tryz.func124, Tryz.ntmps124
  go_wp2_with fail
  go_loopw [5, 6] (fun v q wr => ∃ (acc : List ByteArray) (s1 : RS) (Q : Bool), q = .bool Q ∧ Hid (OwnL 9 1 RdT (fun g => w.heap.size ≤ g) wr v acc) ∧ Hid (Pr en wr b s1) ∧ Hid (Turn [b] w wr) ∧ acc.length ≤ 900001 ∧ SRel (series en (name en)) Q acc s1 R) (fun v q wr => 2 * lenAt wr b + boolN q)
  case atStart => exact ⟨[], s, true, by first | rfl | trivial, Lib.hid (OwnL.nil _ _ _), Lib.hid HP0.out, Lib.hid (Turn.refl _ _), by simp, ⟨fun _ => ⟨by simpa using hl, s.l.length + 1, by omega, HR0.out⟩, fun h => by cases h⟩⟩
  case round =>
    obtain ⟨acc, s1, Q, rfl, HO, HP, HT, hacc, HR⟩ := hrel
    obtain ⟨A0, c0, rfl, hc0⟩ := HO.out.form
    cases Q with
    | false =>
      go_wp2_with fail
      go_ret
      have e1 := HR.no rfl
      subst e1
      exact ⟨.slice A0 acc.length c0, rfl, HO.out.rdv goodT, HP.out, HT.out⟩
    | true =>
      obtain ⟨hle, n, hn, hser⟩ := HR.yes rfl
      have HSE := Lib.hid hser
      clear hser
      go_wp2_with fail
      refine (room_any en b acc.length 40 s1 wr HP.out).mono ?_
      rintro e2 w2 ⟨rfl, h2, t2⟩
      have HP2 := Lib.hid h2
      have HO2 := Lib.hid (HO.out.turn goodT t2 (by simp; omega))
      have HT2 := Lib.hid (HT.out.trans t2 (fun g hg => .inl hg))
      obtain ⟨s2, es2⟩ : ∃ q, room (decide (40 ≤ acc.length)) s1 = q := ⟨_, rfl⟩
      rw [es2] at HP2
      have hl2 : s2.l.length = s1.l.length := by rw [← es2]; rfl
      have HES2 := Lib.hid es2
      clear h2 t2 es2
      go_wp2_with fail
      refine (pName_any en b s2 w2 HP2.out).mono ?_
      rintro e3 w3 ⟨rfl, h3, t3⟩
      have HP3 := Lib.hid h3
      have HO3 := Lib.hid (HO2.out.turn goodT t3 (by simp; omega))
      have HT3 := Lib.hid (HT2.out.trans t3 (fun g hg => .inl hg))
      obtain ⟨x3, ex3⟩ : ∃ q, (name en s2).1 = q := ⟨_, rfl⟩
      obtain ⟨s3, es3⟩ : ∃ q, (name en s2).2 = q := ⟨_, rfl⟩
      rw [es3] at HP3
      rw [ex3]
      have hl3 : s3.l.length ≤ s2.l.length := by rw [← es3]; exact (name_le (Le.refl s2)).len
      have HEX3 := Lib.hid ex3
      have HES3 := Lib.hid es3
      have hsz3 : w.heap.size ≤ w3.heap.size := HT3.out.size
      clear h3 t3 ex3 es3
      go_wp2_with (refine wpList_appL rfl (.tmp 14) (.tmp 17) 39 rfl w3 9 1 16 _ RdT goodT (fun g => w.heap.size ≤ g) Tryz.underlying39 text_info rfl (by omega) (by omega) (.slice A0 acc.length c0) acc rfl HO3.out _ [.string x3] x3 _ rfl rfl rfl (by omega) (by show w.heap.size ≤ w3.heap.size + 1; omega) ?_)
      intro v4 w4 ho4 t4 hb4
      have t5 : Turn [] w3 w3 := Turn.refl _ _
      have hvb : ∀ g, (Value.slice A0 acc.length c0).ownBlock = some g → w.heap.size ≤ g := fun g hg => (HO3.out.lt hg).2
      have HP4 := Lib.hid (HP3.out.turn t4 (fun g hg => by have := hvb g (by simpa using hg); omega))
      have HO4 := Lib.hid ho4
      have HT4 := Lib.hid (HT3.out.trans t4 (fun g hg => .inr (hvb g (by simpa using hg))))
      clear ho4 t4 hb4 hvb t5
      go_wp2_with fail
      refine (pSkip_any en b s3 [44] _ rfl w4 HP4.out).mono ?_
      rintro e5 w5 ⟨rfl, h5, t5⟩
      have HP5 := Lib.hid h5
      have HO5 := Lib.hid (HO4.out.turn goodT t5 (by simp; omega))
      have HT5 := Lib.hid (HT4.out.trans t5 (fun g hg => .inl hg))
      clear h5 t5
      obtain ⟨m, rfl⟩ : ∃ m, n = m + 1 := ⟨n - 1, by omega⟩
      have hser := HSE.out
      unfold series at hser
      dsimp only at hser
      rw [HES2.out, HES3.out, HEX3.out] at hser
      have HSR := Lib.hid hser
      clear hser
      rcases skip_cases (en := en) [44] s3 with ⟨eq, hlt⟩ | ⟨eq, es5⟩
      · have hlt2 := hlt.2
        obtain ⟨s5, es5⟩ : ∃ q, (skip en [44] s3).2 = q := ⟨_, rfl⟩
        rw [es5] at HP5 hlt2
        rw [eq]
        have HQ := Lib.hid eq
        have HES5 := Lib.hid es5
        clear eq es5 hlt
        go_wp2_with fail
        go_roundw
        case rel =>
          refine ⟨acc ++ [x3], s5, true, by first | rfl | trivial, HO5, HP5, HT5, by simp; omega, ⟨fun _ => ⟨by simp; omega, m, by omega, ?_⟩, fun h => by cases h⟩⟩
          have := HSR.out
          rw [HQ.out, if_pos rfl, HES5.out] at this
          exact this
        case measure =>
          rw [HP5.out.lenAt, HP.out.lenAt]
          simp [boolN]
          omega
      · rw [es5] at HP5
        rw [eq]
        have HQ := Lib.hid eq
        have HES5 := Lib.hid es5
        clear eq es5
        go_wp2_with fail
        go_roundw
        case rel =>
          refine ⟨acc ++ [x3], s3, false, by first | rfl | trivial, HO5, HP5, HT5, by simp; omega, ⟨fun h => (by cases h), fun _ => ?_⟩⟩
          have := HSR.out
          rw [HQ.out, if_neg (by simp), HES5.out] at this
          exact this
        case measure =>
          rw [HP5.out.lenAt, HP.out.lenAt]
          simp [boolN]
          omega
end Go.Proofs.YtnmhcgkccchacaaGreatDoor
