/-
  Contracts of the document's steps and Step of the second hash, over this seat's translation. Conditions: each as it says.
-/
import Derived.Test.YtcidmapknijdkaaDoorSh2B
namespace Go.Proofs.YtcidmapknijdkaaDoor.S2
open Go.RowKit
open S1 (or_lt32 and_lt32 xor_lt32 shr_lt32 mod_lt32 wd wd_lt be be8 zs1 pad1 out4 not32)
set_option linter.unusedVariables false

set_option maxRecDepth 20000 in
theorem refsteps_any (w : World) : Calls Tryd.prog 22 #[] w fun e w' => e = .returned (.slice (some ⟨w.heap.size, 0, none⟩) 64 64) ∧ w' = w.alloc (.cells (C .u32 K2L).toArray 30) := by
  go_enter Tryd.func22, Tryd.ntmps22
  go_wp2
  go_ret
  exact ⟨rfl, rfl⟩
theorem refstep_in (t : Nat) (ht : t < 64) (w : World) :
    Calls Tryd.prog 13 #[.int .i64 (t : Int)] w fun e w' => e = .returned (.tuple #[.int .u32 (K2 t : Nat), .int .i64 0]) ∧ Below w.heap.size w w' := by
  have hR := Row.new w 30 (C .u32 K2L)
  have hL := (Below.more (Below.refl w.heap.size w) (Nat.le_refl _) (.cells (C .u32 K2L).toArray 30)).1
  have hc := hR.cell t
  rw [C_get .u32 (by rw [K2L_length]; exact ht), show K2L.getD t 0 = K2 t from rfl] at hc
  generalize K2 t = x at *
  have h1 : ¬ (t : Int) < 0 := by omega
  have h2 : (t : Int) < 64 := by omega
  have h3 : ¬ (63 : Int) < (t : Int) := by omega
  go_enter Tryd.func13, Tryd.ntmps13
  go_wp2_with fail
  refine (refsteps_any _).mono ?_
  rintro _ w1 ⟨rfl, rfl⟩
  generalize w.alloc (.cells (C .u32 K2L).toArray 30) = w2 at *
  go_wp2
  go_ret2
  exact ⟨rfl, hL⟩
theorem refstep_out (t : Int) (ht : t < 0 ∨ 64 ≤ t) (w : World) :
    Calls Tryd.prog 13 #[.int .i64 t] w fun e w' => e = .returned (.tuple #[.int .u32 0, .int .i64 1]) ∧ w = w' := by
  by_cases h0 : t < 0
  · go_enter Tryd.func13, Tryd.ntmps13
    go_wp2
    go_ret2
    exact ⟨rfl, rfl⟩
  · have h1 : 63 < t := by omega
    go_enter Tryd.func13, Tryd.ntmps13
    go_wp2
    go_ret2
    exact ⟨rfl, rfl⟩
end Go.Proofs.YtcidmapknijdkaaDoor.S2
