/-
  Contract of alive, the live question of layer 5, over this seat's translation. No conditions.
-/
import Derived.Test.YtbefchlgonlfiaaModC
namespace Go.Proofs.Ytbefchlgonlfiaa
open Go.RowKit
set_option linter.unusedVariables false

theorem num_lit (w : World) (n : Nat) (h0 : n ≠ 0) (hn : n < 4294967296) : Num (w.alloc (.cells #[.int .u32 (n : Int)] 45)) (.slice (some ⟨w.heap.size, 0, none⟩) 1 1) n 1 := by
  have := (ra_lit w n h0 hn).num (K := 1) (by rw [Nat.pow_one]; exact hn)
  simpa only [C, List.map_cons, List.map_nil] using this
theorem below_lit (w : World) (v : Value) : Below w.heap.size w (w.alloc (.cells #[v] 45)) := (Below.refl _ _).alloc (Nat.le_refl _) _
theorem ra_one (w : World) (n : Nat) (h0 : n ≠ 0) (hn : n < 4294967296) : RA (w.alloc (.cells #[.int .u32 (n : Int)] 45)) (.slice (some ⟨w.heap.size, 0, none⟩) 1 1) n := by
  have := ra_lit w n h0 hn
  simpa only [C, List.map_cons, List.map_nil] using this

theorem below_sized {B : Nat} {w w' : World} (h : Below B w w') (e : w.heap.size = B) : Below w.heap.size w w' := e ▸ h

end Go.Proofs.Ytbefchlgonlfiaa
