/-
  Contracts of the document's Read, Add, less, Sub, times, Shl, over this seat's translation. Conditions: at most 100000 words.
-/
import Derived.Test.YtdikjmodjaodfaaRefC
namespace Go.Proofs.Ytdikjmodjaodfaa
open Go.RowKit
set_option linter.unusedVariables false

/-- A byte more, from the lowest on. -/
theorem refread_math {ds : List Nat} {T i x t : Nat} (hl : i / 2 < ds.length) (hlo : Lo W16 ds) (hv : val W16 ds = T) (hT : T < 256 ^ i) (ht : ds.getD (i / 2) 0 = t) (hx : x < 256) :
    t + x * 256 ^ (i % 2) < 65536 ∧ val W16 (ds.set (i / 2) (t + x * 256 ^ (i % 2))) = T + 256 ^ i * x := by
  have h0 : 256 ^ i = W16 ^ (i / 2) * 256 ^ (i % 2) := by
    rw [show (W16 : Nat) = 256 ^ 2 from rfl, ← Nat.pow_mul, ← Nat.pow_add]; congr 1; omega
  have e2 := val_set (B := W16) hl (x * 256 ^ (i % 2))
  rw [ht, hv] at e2
  have ht' := getD_val (B := W16) (by decide) hlo (i / 2)
  rw [ht, hv] at ht'
  have hlt : t < 256 ^ (i % 2) := by
    rw [ht']
    refine Nat.lt_of_le_of_lt (Nat.mod_le _ _) ?_
    rw [Nat.div_lt_iff_lt_mul (Nat.pow_pos (by decide)), Nat.mul_comm, ← h0]
    exact hT
  refine ⟨?_, ?_⟩
  · rcases (show i % 2 = 0 ∨ i % 2 = 1 by omega) with h | h
    · rw [h] at hlt ⊢; simp at hlt ⊢; omega
    · rw [h] at hlt ⊢; simp at hlt ⊢; omega
  · rw [e2, h0]
    congr 1
    rw [Nat.mul_comm x, Nat.mul_assoc]

end Go.Proofs.Ytdikjmodjaodfaa
