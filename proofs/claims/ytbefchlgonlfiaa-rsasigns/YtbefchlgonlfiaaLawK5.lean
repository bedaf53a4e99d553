/-
  What the laws of layer 5 want besides: comparisons. No conditions.
-/
import Derived.Test.YtbefchlgonlfiaaAlive5
import Derived.Test.YtbefchlgonlfiaaRefK
namespace Go.Proofs.Ytbefchlgonlfiaa
theorem cmp_lt {a b : Nat} (h : a < b) : cmpI a b = -1 := by unfold cmpI; rw [if_pos h]
theorem cmp_same {a : Nat} : cmpI a a = 0 := by unfold cmpI; simp
end Go.Proofs.Ytbefchlgonlfiaa
