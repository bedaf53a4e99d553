/-
  Strings told apart by their bytes. No conditions.
-/
import Derived.Test.YtbefchlgonlfiaaRsaQ
import Derived.Lib.Strings
namespace Go.Proofs.Ytbefchlgonlfiaa.R10
theorem str_same (a b : ByteArray) : (a.toList == b.toList) = decide (a = b) := by
  rw [Lib.toList_data, Lib.toList_data]
  by_cases h : a = b
  · subst h; simp
  · rw [decide_eq_false h]
    have hne : a.data.toList ≠ b.data.toList := by
      intro hc
      apply h
      cases a; cases b
      simp at hc
      rw [hc]
    simpa using hne
end Go.Proofs.Ytbefchlgonlfiaa.R10
