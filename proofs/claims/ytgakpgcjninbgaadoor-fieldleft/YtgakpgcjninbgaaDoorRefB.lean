/-
  Contracts of the document's Whole, Same, From, compare, Cmp, over this seat's translation. Conditions: at most 100000 words.
-/
import Derived.Test.YtgakpgcjninbgaaDoorRefA
namespace Go.Proofs.YtgakpgcjninbgaaDoor
open Go.RowKit
set_option linter.unusedVariables false

/-- A slice that reads as the words of N, without noughts at their end. -/
def RA (w : World) (v : Value) (N : Nat) : Prop := ∃ zs, Is W32 N zs ∧ SlV w v (C .u32 zs)
theorem RA.below {w w' : World} {v : Value} {N : Nat} (h : RA w v N) (hb : Below w.heap.size w w') : RA w' v N := by
  obtain ⟨zs, h1, h2⟩ := h; exact ⟨zs, h1, h2.below hb⟩
theorem Ans.ra {B : Nat} {w : World} {v : Value} {N : Nat} (h : Ans B w v N) : RA w v N := by
  obtain ⟨zs, h1, h2, _⟩ := h; exact ⟨zs, h1, h2⟩

end Go.Proofs.YtgakpgcjninbgaaDoor
