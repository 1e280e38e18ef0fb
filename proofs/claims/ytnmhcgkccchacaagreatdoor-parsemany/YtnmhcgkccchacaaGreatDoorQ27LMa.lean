import Derived.Test.YtnmhcgkccchacaaGreatDoorQ15Pm0a
import Derived.Test.YtnmhcgkccchacaaGreatDoorQ16Pm0b
import Derived.Test.YtnmhcgkccchacaaGreatDoorQ17Pm1a
import Derived.Test.YtnmhcgkccchacaaGreatDoorQ18Pm1b
import Derived.Test.YtnmhcgkccchacaaGreatDoorQ19Pm2a
import Derived.Test.YtnmhcgkccchacaaGreatDoorQ20Pm2b
import Derived.Test.YtnmhcgkccchacaaGreatDoorQ21Pm3a
import Derived.Test.YtnmhcgkccchacaaGreatDoorQ22Pm3b
import Derived.Test.YtnmhcgkccchacaaGreatDoorQ23Pm3c
import Derived.Test.YtnmhcgkccchacaaGreatDoorQ24Pm4a
import Derived.Test.YtnmhcgkccchacaaGreatDoorQ25Pm4b
import Derived.Test.YtnmhcgkccchacaaGreatDoorQ26Pl0

/- ParseMany's law: the five kinds of lists, at all ninety numbers. -/
set_option linter.unusedSimpArgs false
set_option linter.unusedVariables false
set_option maxRecDepth 100000
namespace Go.Proofs.YtnmhcgkccchacaaGreatDoor
open Go.RowKit

theorem pm_of2 {J : Nat} (h0 : ∀ k : Fin 45, pmOk J (0 + k.val) = true) (h1 : ∀ k : Fin 45, pmOk J (45 + k.val) = true) (k : Nat) (hk : k < 90) : pmOk J k = true := by
  by_cases h : k < 45
  · have := h0 ⟨k, h⟩
    rwa [show 0 + (⟨k, h⟩ : Fin 45).val = k from Nat.zero_add k] at this
  · have hl : k - 45 < 45 := by omega
    have := h1 ⟨k - 45, hl⟩
    rwa [show 45 + (⟨k - 45, hl⟩ : Fin 45).val = k from by show 45 + (k - 45) = k; omega] at this
theorem pm_of3 {J : Nat} (h0 : ∀ k : Fin 30, pmOk J (0 + k.val) = true) (h1 : ∀ k : Fin 30, pmOk J (30 + k.val) = true) (h2 : ∀ k : Fin 30, pmOk J (60 + k.val) = true) (k : Nat) (hk : k < 90) : pmOk J k = true := by
  by_cases h : k < 30
  · have := h0 ⟨k, h⟩
    rwa [show 0 + (⟨k, h⟩ : Fin 30).val = k from Nat.zero_add k] at this
  · by_cases h' : k < 60
    · have hl : k - 30 < 30 := by omega
      have := h1 ⟨k - 30, hl⟩
      rwa [show 30 + (⟨k - 30, hl⟩ : Fin 30).val = k from by show 30 + (k - 30) = k; omega] at this
    · have hl : k - 60 < 30 := by omega
      have := h2 ⟨k - 60, hl⟩
      rwa [show 60 + (⟨k - 60, hl⟩ : Fin 30).val = k from by show 60 + (k - 60) = k; omega] at this

theorem parseMany_law (n m : Nat) (hn : n ≤ 255) (w : World) (hS : Sg w) (hK : Kw w) (h8 : 7 < w.heap.size) :
    Calls Tryz.prog 6 #[.int .u8 (n : Int), .int .u8 (m : Int)] w fun e w' => e = .returned (.bool true) ∧ Turn [] w w' := by
  have h : m % 5 = 0 ∨ m % 5 = 1 ∨ m % 5 = 2 ∨ m % 5 = 3 ∨ m % 5 = 4 := by omega
  rcases h with h | h | h | h | h
  · exact many0_law n m hn h (pm_of2 pm0_0 pm0_1) w hS hK h8
  · exact many1_law n m hn h (pm_of2 pm1_0 pm1_1) w hS hK h8
  · exact many2_law n m hn h (pm_of2 pm2_0 pm2_1) w hS hK h8
  · exact many3_law n m hn h (pm_of3 pm3_0 pm3_1 pm3_2) w hS hK h8
  · exact many4_law n m hn h (pm_of2 pm4_0 pm4_1) w hS hK h8
end Go.Proofs.YtnmhcgkccchacaaGreatDoor
