/-
  Twice a number, eight times the order, word by word. Conditions: each as it says.
-/
import Derived.Test.YthjlbcbkllaicaaDoorEpN
namespace Go.Proofs.YthjlbcbkllaicaaDoor.F
open Go.RowKit
set_option linter.unusedVariables false
set_option maxRecDepth 10000

open E (Pt)
theorem or_plus {s z : Nat} (hz : z < 2 ^ s) (x : Nat) : 2 ^ s * x ||| z = 2 ^ s * x + z := (Nat.two_pow_add_eq_or_of_lt hz x).symm
theorem or_two {x z : Nat} (hz : z < 2) : x * 2 % 18446744073709551616 ||| z = 2 * (x % 9223372036854775808) + z := by
  rw [show x * 2 % 18446744073709551616 = 2 ^ 1 * (x % 9223372036854775808) by omega]
  exact or_plus hz _
/-- The words of twice a number. -/
theorem dbl_words {x0 x1 x2 x3 : Nat} (h0 : x0 < 18446744073709551616) (h1 : x1 < 18446744073709551616) (h2 : x2 < 18446744073709551616) (h3 : x3 < 4611686018427387904) :
    [x0 * 2 % 18446744073709551616, x1 * 2 % 18446744073709551616 ||| x0 / 9223372036854775808, x2 * 2 % 18446744073709551616 ||| x1 / 9223372036854775808, x3 * 2 % 18446744073709551616 ||| x2 / 9223372036854775808] = wds (2 * val 18446744073709551616 [x0, x1, x2, x3]) ∧ 2 * val 18446744073709551616 [x0, x1, x2, x3] + 1 < 115792089237316195423570985008687907853269984665640564039457584007913129639936 := by
  rw [or_two (by omega), or_two (by omega), or_two (by omega)]
  have e := of_wds (xs := [x0 * 2 % 18446744073709551616, 2 * (x1 % 9223372036854775808) + x0 / 9223372036854775808, 2 * (x2 % 9223372036854775808) + x1 / 9223372036854775808, 2 * (x3 % 9223372036854775808) + x2 / 9223372036854775808]) rfl (by
    intro y hy
    simp only [List.mem_cons, List.not_mem_nil, or_false] at hy
    omega)
  have hv : val 18446744073709551616 [x0 * 2 % 18446744073709551616, 2 * (x1 % 9223372036854775808) + x0 / 9223372036854775808, 2 * (x2 % 9223372036854775808) + x1 / 9223372036854775808, 2 * (x3 % 9223372036854775808) + x2 / 9223372036854775808] = 2 * val 18446744073709551616 [x0, x1, x2, x3] := by
    rw [val_four, val_four]; omega
  rw [hv] at e
  refine ⟨e.2, ?_⟩
  rw [val_four]; omega
/-- One more: the lowest word's lowest bit. -/
theorem odd_words {n : Nat} (hn : 2 * n + 1 < 115792089237316195423570985008687907853269984665640564039457584007913129639936) : (wds (2 * n)).set 0 ((wds (2 * n)).getD 0 0 ||| 1) = wds (2 * n + 1) := by
  have e : 2 * n % 18446744073709551616 ||| 1 = 2 * n % 18446744073709551616 + 1 := by
    have := or_plus (s := 1) (z := 1) (by decide) (2 * n % 18446744073709551616 / 2)
    rw [show 2 ^ 1 * (2 * n % 18446744073709551616 / 2) = 2 * n % 18446744073709551616 by omega] at this
    exact this
  show [2 * n % 18446744073709551616 ||| 1, _, _, _] = _
  rw [e, wds]
  simp only [List.cons.injEq, and_true]
  refine ⟨?_, ?_, ?_, ?_⟩ <;> omega
theorem L8 : 8 * E.L < 115792089237316195423570985008687907853269984665640564039457584007913129639936 := by decide +kernel
end Go.Proofs.YthjlbcbkllaicaaDoor.F
