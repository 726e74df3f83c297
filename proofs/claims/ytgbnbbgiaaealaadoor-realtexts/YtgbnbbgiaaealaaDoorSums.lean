/- Plain facts on sums of float64, one by one: what is no number stays so. No program is named. -/
import Derived.Test.YtgbnbbgiaaealaaDoorMath
import Derived.Laws.FloatBits
namespace RealMath
open Ieee

/-- one more: 'none': what is no number -/
def addO (acc : Option Nat) (b : Nat) : Option Nat := acc.bind fun a => Ieee.double.add a b
/-- the sum of some, from 0 on -/
def sumO (l : List Nat) : Option Nat := l.foldl addO (some 0)
/-- a word that is that sum -/
def AccIs (acc : Option Nat) (s : Nat) : Prop := s < 18446744073709551616 ∧ (∀ r, acc = some r → s = r) ∧ (acc = none → isNan s = true)

theorem add_nan (s b : Nat) (h : isNan s = true) : Ieee.double.add s b = none := by
  have := (isNan_iff s).1 h
  unfold Format.add
  rw [read_nan s this]
  cases Ieee.double.read b <;> rfl

theorem AccIs.step {acc : Option Nat} {s b r : Nat} (h : AccIs acc s) (h1 : ∀ q, Ieee.double.add s b = some q → r = q) (h2 : Ieee.double.add s b = none → isNan r = true) (hr : r < 18446744073709551616) :
    AccIs (addO acc b) r := by
  refine ⟨hr, ?_, ?_⟩
  · intro q hq
    cases acc with
    | none => cases hq
    | some a =>
      obtain rfl := h.2.1 a rfl
      exact h1 q hq
  · intro hq
    cases acc with
    | none => exact h2 (add_nan s b (h.2.2 rfl))
    | some a =>
      obtain rfl := h.2.1 a rfl
      exact h2 hq

theorem sumO_snoc (l : List Nat) (b : Nat) : sumO (l ++ [b]) = addO (sumO l) b := by unfold sumO; rw [List.foldl_append]; rfl
theorem acc_start : AccIs (sumO []) 0 := ⟨by decide, fun r h => by cases h; rfl, fun h => by cases h⟩
theorem acc_canon {acc : Option Nat} {s t : Nat} (h : AccIs acc s) (k : AccIs acc t) : canonB s = canonB t := by
  cases acc with
  | none => rw [canonB_nan (h.2.2 rfl), canonB_nan (k.2.2 rfl)]
  | some r => rw [h.2.1 r rfl, k.2.1 r rfl]
/-- the word of a sum, one of all that are alike -/
def canonO (acc : Option Nat) : Nat := match acc with | none => NAN | some r => canonB r
theorem AccIs.canon {acc : Option Nat} {s : Nat} (h : AccIs acc s) : canonB s = canonO acc := by
  cases acc with
  | none => exact canonB_nan (h.2.2 rfl)
  | some r => rw [h.2.1 r rfl]; rfl
theorem nan_word (t : Nat) : isNan ((t % 2) * 2 ^ 63 + 0x7ff0000000000000 + 1 + (t / 2) % (2 ^ 52 - 1)) = true ∧ (t % 2) * 2 ^ 63 + 0x7ff0000000000000 + 1 + (t / 2) % (2 ^ 52 - 1) < 18446744073709551616 := by
  have h1 : (t / 2) % (2 ^ 52 - 1) < 2 ^ 52 - 1 := Nat.mod_lt _ (by decide)
  have h2 : t % 2 < 2 := Nat.mod_lt _ (by decide)
  generalize (t / 2) % (2 ^ 52 - 1) = x at *
  generalize t % 2 = y at *
  rw [isNan_iff]
  constructor <;> omega
end RealMath
