/-
  More mathematics of numbers in digits: bytes put into words, the highest first. Over no program.
-/
import Derived.Test.YtdpahahfcdldcaaDoorNatM3
namespace Go.Proofs.YtdpahahfcdldcaaDoor
set_option linter.unusedVariables false
theorem rev_succ {bs : List Nat} {k : Nat} (h : k < bs.length) : val 256 (bs.take (k + 1)).reverse = bs.getD k 0 + 256 * val 256 (bs.take k).reverse := by
  rw [List.take_succ_eq_append_getElem h, List.reverse_append]
  simp [val, List.getD, h]
/-- One byte more, put into its word. -/
theorem read_math {out : List Nat} {T p x t : Nat} (hl : p / 4 < out.length) (hlo : Lo W32 out) (hv : val W32 out = 256 ^ (p + 1) * T) (ht : out.getD (p / 4) 0 = t) (hx : x < 256) :
    t + x * 2 ^ (p % 4 * 8) < 4294967296 ∧ t ||| x * 2 ^ (p % 4 * 8) = t + x * 2 ^ (p % 4 * 8) ∧ x * 2 ^ (p % 4 * 8) < 4294967296 ∧ val W32 (out.set (p / 4) (t + x * 2 ^ (p % 4 * 8))) = 256 ^ p * (x + 256 * T) := by
  have hr : p % 4 < 4 := Nat.mod_lt _ (by decide)
  have h1 : 256 ^ (p + 1) = W32 ^ (p / 4) * 2 ^ (p % 4 * 8 + 8) := by
    rw [pow8, pow32, ← Nat.pow_add]; congr 1; omega
  have h0 : 256 ^ p = W32 ^ (p / 4) * 2 ^ (p % 4 * 8) := by
    rw [pow8, pow32, ← Nat.pow_add]; congr 1; omega
  have e2 := val_set (B := W32) hl (x * 2 ^ (p % 4 * 8))
  have ht' := getD_val (B := W32) (by decide) hlo (p / 4)
  rw [ht, hv, h1, Nat.mul_assoc, Nat.mul_div_cancel_left _ (Nat.pow_pos (by decide))] at ht'
  rw [ht, hv, Nat.pow_succ, h0] at e2
  generalize p % 4 = r at *
  have h3 : W32 = 2 ^ (r * 8 + 8) * 2 ^ (24 - r * 8) := by rw [← Nat.pow_add, show r * 8 + 8 + (24 - r * 8) = 32 by omega]
  have h4 : t = 2 ^ (r * 8 + 8) * (T % 2 ^ (24 - r * 8)) := by
    rw [ht']
    conv => lhs; rw [h3]
    rw [Nat.mul_mod_mul_left]
  have h5 : x * 2 ^ (r * 8) < 2 ^ (r * 8 + 8) := by
    rw [Nat.pow_add, Nat.mul_comm]
    exact Nat.mul_lt_mul_of_pos_left hx (Nat.pow_pos (by decide))
  have h6 : t + 2 ^ (r * 8 + 8) ≤ 4294967296 := by
    rw [h4]
    have h7 : 2 ^ (r * 8 + 8) * (T % 2 ^ (24 - r * 8) + 1) ≤ 2 ^ (r * 8 + 8) * 2 ^ (24 - r * 8) := Nat.mul_le_mul_left _ (Nat.mod_lt _ (Nat.pow_pos (by decide)))
    rw [← h3, Nat.mul_add, Nat.mul_one] at h7
    exact h7
  refine ⟨by omega, ?_, by omega, ?_⟩
  · rw [h4, ← Nat.two_pow_add_eq_or_of_lt h5]
  · rw [e2, h0]
    generalize W32 ^ (p / 4) = Q
    generalize 2 ^ (r * 8) = R
    grind
end Go.Proofs.YtdpahahfcdldcaaDoor
