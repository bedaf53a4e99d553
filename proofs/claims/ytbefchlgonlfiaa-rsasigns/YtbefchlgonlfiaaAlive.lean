/-
  Contract of alive, the live question, over this seat's translation. No conditions.
-/
import Derived.Test.YtbefchlgonlfiaaRefF
namespace Go.Proofs.Ytbefchlgonlfiaa
open Go.RowKit
set_option linter.unusedVariables false

theorem SlV_lit (w : World) (ns : List Nat) (hm : ns.length ≤ 1000) : SlV (w.alloc (.cells (C .u32 ns).toArray 45)) (.slice (some ⟨w.heap.size, 0, none⟩) ns.length ns.length) (C .u32 ns) := by
  have := (Row.new w 45 (C .u32 ns)).slAll (by rw [C_length]; unfold maxLen; omega)
  rwa [C_length] at this
theorem ra_lit (w : World) (n : Nat) (h0 : n ≠ 0) (hn : n < 4294967296) : RA (w.alloc (.cells (C .u32 [n]).toArray 45)) (.slice (some ⟨w.heap.size, 0, none⟩) 1 1) n := by
  refine ⟨[n], ⟨by simp [val], by intro u hu; show u < 4294967296; simp at hu; omega, fun _ => by simp; omega⟩, SlV_lit w [n] (by simp)⟩

end Go.Proofs.Ytbefchlgonlfiaa
