/-
  Contracts of the document's steps and Step of the third hash, over this seat's translation. Conditions: each as it says.
-/
import Derived.Test.YtniclmghkbdkbaaDoorSh3B
namespace Go.Proofs.YtniclmghkbdkbaaDoor.S3
open Go.RowKit
set_option linter.unusedVariables false

set_option maxRecDepth 20000 in
set_option maxHeartbeats 1600000 in
theorem refsteps_any (w : World) : Calls Tryd.prog 22 #[] w fun e w' => e = .returned (.slice (some ⟨w.heap.size, 0, none⟩) 80 80) ∧ w' = w.alloc (.cells (C .u64 K3L).toArray 30) := by
  go_enter Tryd.func22, Tryd.ntmps22
  go_wp2
  go_ret
  exact ⟨rfl, rfl⟩
theorem refstep_in (t : Nat) (ht : t < 80) (w : World) :
    Calls Tryd.prog 13 #[.int .i64 (t : Int)] w fun e w' => e = .returned (.tuple #[.int .u64 (K3 t : Nat), .int .i64 0]) ∧ Below w.heap.size w w' := by
  have hR := Row.new w 30 (C .u64 K3L)
  have hL := (Below.more (Below.refl w.heap.size w) (Nat.le_refl _) (.cells (C .u64 K3L).toArray 30)).1
  have hc := hR.cell t
  rw [C_get .u64 (by rw [K3L_length]; exact ht), show K3L.getD t 0 = K3 t from rfl] at hc
  generalize K3 t = x at *
  have h1 : ¬ (t : Int) < 0 := by omega
  have h2 : (t : Int) < 80 := by omega
  have h3 : ¬ (79 : Int) < (t : Int) := by omega
  go_enter Tryd.func13, Tryd.ntmps13
  go_wp2_with fail
  refine (refsteps_any _).mono ?_
  rintro _ w1 ⟨rfl, rfl⟩
  generalize w.alloc (.cells (C .u64 K3L).toArray 30) = w2 at *
  go_wp2
  go_ret2
  exact ⟨rfl, hL⟩
theorem refstep_out (t : Int) (ht : t < 0 ∨ 80 ≤ t) (w : World) :
    Calls Tryd.prog 13 #[.int .i64 t] w fun e w' => e = .returned (.tuple #[.int .u64 0, .int .i64 1]) ∧ w = w' := by
  by_cases h0 : t < 0
  · go_enter Tryd.func13, Tryd.ntmps13
    go_wp2
    go_ret2
    exact ⟨rfl, rfl⟩
  · have h1 : 79 < t := by omega
    go_enter Tryd.func13, Tryd.ntmps13
    go_wp2
    go_ret2
    exact ⟨rfl, rfl⟩
end Go.Proofs.YtniclmghkbdkbaaDoor.S3
