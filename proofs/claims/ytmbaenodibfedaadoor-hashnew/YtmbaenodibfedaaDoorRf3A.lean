/-
  Contracts of the document's steps and Step of the third hash, over this seat's translation. Conditions: each as it says.
-/
import Derived.Test.YtmbaenodibfedaaDoorSh3B
namespace Go.Proofs.YtmbaenodibfedaaDoor.S3
open Go.RowKit
set_option linter.unusedVariables false
set_option maxRecDepth 10000

set_option maxRecDepth 20000 in
set_option maxHeartbeats 1600000 in
theorem refsteps_any (w : World) : Calls Tryd.prog 63 #[] w fun e w' => e = .returned (.slice (some ⟨w.heap.size, 0, none⟩) 80 80) ∧ w' = w.alloc (.cells (C .u64 K3L).toArray 37) := by
  go_enter Tryd.func63, Tryd.ntmps63
  go_wp2
  go_ret
  exact ⟨rfl, rfl⟩
end Go.Proofs.YtmbaenodibfedaaDoor.S3
