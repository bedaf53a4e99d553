/-
  Contracts of modexp's factor and Inverse, over this seat's translation. Conditions: at most 400 words.
-/
import Derived.Test.YtbefchlgonlfiaaModB
namespace Go.Proofs.Ytbefchlgonlfiaa
open Go.RowKit
set_option linter.unusedVariables false

/-- What the answer is: below the modulus, and times the number it leaves 1. -/
def Inv (A M X : Nat) : Prop := X < M ∧ A * X % M = 1 % M

theorem cmp_one {N : Nat} (h : N ≠ 1) : (cmpI N 1 != 0) = true := by unfold cmpI; split <;> simp_all <;> omega
end Go.Proofs.Ytbefchlgonlfiaa
