/-
  Strings told apart by their bytes. No conditions.
-/
import Derived.Test.YtbefchlgonlfiaaRsaQ
import Derived.Lib.Strings
namespace Go.Proofs.Ytbefchlgonlfiaa.R10
theorem str_same (a b : ByteArray) : (a.toList == b.toList) = decide (a = b) := by
  rw [Lib.toList_data, Lib.toList_data]
  by_cases h : a = b
  · subst h; simp
  · rw [decide_eq_false h]
    refine beq_eq_false_iff_ne.2 fun hc => h ?_
    cases a; cases b
    simp at hc
    rw [hc]
end Go.Proofs.Ytbefchlgonlfiaa.R10
