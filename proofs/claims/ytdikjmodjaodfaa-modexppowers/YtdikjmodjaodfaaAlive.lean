/-
  Contract of alive, the live question, over this seat's translation. No conditions.
-/
import Derived.Test.YtdikjmodjaodfaaRefF
namespace Go.Proofs.Ytdikjmodjaodfaa
open Go.RowKit
set_option linter.unusedVariables false

theorem SlV_lit (w : World) (ns : List Nat) (hm : ns.length ≤ 1000) : SlV (w.alloc (.cells (C .u32 ns).toArray 34)) (.slice (some ⟨w.heap.size, 0, none⟩) ns.length ns.length) (C .u32 ns) := by
  have := (Row.new w 34 (C .u32 ns)).slAll (by rw [C_length]; unfold maxLen; omega)
  rwa [C_length] at this
theorem ra_lit (w : World) (n : Nat) (h0 : n ≠ 0) (hn : n < 4294967296) : RA (w.alloc (.cells (C .u32 [n]).toArray 34)) (.slice (some ⟨w.heap.size, 0, none⟩) 1 1) n := by
  refine ⟨[n], ⟨by simp [val], by intro u hu; show u < 4294967296; simp at hu; omega, fun _ => by simp; omega⟩, SlV_lit w [n] (by simp)⟩

theorem same_rb (va vb : Value) (N K : Nat) (w : World) (ha : RA w va N) (hb : RA w vb N) (hK : K ≤ 1000000) (hN : N < W32 ^ K) :
    Calls Try.prog 13 #[va, vb] w fun e w' => e = .returned (.bool true) ∧ Below w.heap.size w w' := by
  obtain ⟨xs, h1, h2⟩ := ha
  obtain ⟨ys, h3, h4⟩ := hb
  exact same_any va vb xs ys w h2 h4 (h1.uniq (by decide) h3) (Nat.le_trans ((h1.len (by decide) K).2 hN) hK)
end Go.Proofs.Ytdikjmodjaodfaa
