/-
  The two tables of the library that a row lists are laid down as they are; no walk of this program reads them. No condition.
-/
import Derived.Test.YtcllmkfaifalgaaDoorTie
import Derived.Lay
namespace Go.Proofs.YtcllmkfaifalgaaDoor.T
open Go
set_option linter.unusedVariables false
set_option maxRecDepth 100000

def laid1 : List (String × DataW Unit) := [("unicode/utf8.acceptRanges", Rows.laid_unicode_utf8_acceptRanges), ("unicode/utf8.first", Rows.laid_unicode_utf8_first)]
theorem laid_met (os : Os) (args : Array Value) : laidMetH Tryd.prog laid1 ((World.laidAll Tryd.prog os laid1).forCall (fun _ _ => 0) ⟨#[], args, []⟩).memory := by
  rw [MakeChecks.laidMetH_plain _ _ _ (by kernel_rfl)]
  exact laidMet_laidAll _ (by kernel_rfl) (by kernel_rfl)
end Go.Proofs.YtcllmkfaifalgaaDoor.T
