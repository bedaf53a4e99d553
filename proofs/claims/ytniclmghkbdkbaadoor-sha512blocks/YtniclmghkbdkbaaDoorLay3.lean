/-
  The steps' numbers that the package's initialiser lays: what the row's condition gives the walks. No conditions.
-/
import Derived.Test.YtniclmghkbdkbaaDoorSh3C
import Derived.Test.YtniclmghkbdkbaaDoorKit10
namespace Go.Proofs.YtniclmghkbdkbaaDoor.S3
open Go.RowKit Go.ChangeShapes Go.WideShapes Go.ChangeAt
set_option linter.unusedVariables false

/-- The row's list of variables. -/
def laid1 : List (String × DataW Unit) := [("affiant/sha512.stepNumbers", Rows.laid_affiant_sha512_stepNumbers)]
theorem gTab : Tryd.prog.globalNamed "affiant/sha512.stepNumbers" = some 0 := by kernel_rfl
theorem tTab : (Tryd.prog.globals[0]?).map (·.type) = some 45 := by kernel_rfl
theorem dTab : (Rows.laid_affiant_sha512_stepNumbers : DataW Unit) = .agg (K3L.map fun (x : Nat) => DataW.lit (.int .u64 (x : Int))) := by kernel_rfl
theorem of_laid {W : World} (h : laidMetH Tryd.prog laid1 W) : Tab W := by
  rw [MakeChecks.laidMetH_plain _ _ _ (by kernel_rfl)] at h
  exact laid_block gTab tTab Tryd.underlying45 Tryd.underlying30 (by kernel_rfl) (by kernel_rfl) K3L_length dTab h
theorem door_met (os : Os) (args : Array Value) : laidMetH Tryd.prog laid1 ((World.doorLaid Tryd.prog 400 os).forCall (fun _ _ => 0) ⟨#[], args, []⟩).memory :=
  laidMetH_of_parts3 (fuel := 8) (laidMet_of_run' 8 (by kernel_rfl) (by kernel_rfl)) (by kernel_rfl) (by kernel_rfl)
end Go.Proofs.YtniclmghkbdkbaaDoor.S3
