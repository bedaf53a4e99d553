/-
  Numbers of 256 bits in four words of 64 bits: sums, differences, products, bits and bytes, over natural numbers. Over no program.
-/
import Derived.Test.YtdpahahfcdldcaaDoorNatM
import Derived.Test.YtdpahahfcdldcaaDoorKit6
import Derived.Test.YtdpahahfcdldcaaDoorFldM
namespace Go.Proofs.YtdpahahfcdldcaaDoor.F
open Go.RowKit
set_option linter.unusedVariables false

theorem W_pow : 18446744073709551616 ^ 4 = 115792089237316195423570985008687907853269984665640564039457584007913129639936 := by decide
theorem T_P : 115792089237316195423570985008687907853269984665640564039457584007913129639936 = 2 * P + 38 := by decide +kernel
theorem P_lt : P < 115792089237316195423570985008687907853269984665640564039457584007913129639936 := by decide +kernel
theorem P_pos : 0 < P := by decide +kernel

/-- Four words. -/
def wds (n : Nat) : List Nat := [n % 18446744073709551616, n / 18446744073709551616 % 18446744073709551616, n / 340282366920938463463374607431768211456 % 18446744073709551616, n / 6277101735386680763835789423207666416102355444464034512896 % 18446744073709551616]
theorem wds_length (n : Nat) : (wds n).length = 4 := rfl
theorem wds_lo (n : Nat) : Lo 18446744073709551616 (wds n) := by
  intro x hx
  simp only [wds, List.mem_cons, List.not_mem_nil, or_false] at hx
  rcases hx with rfl | rfl | rfl | rfl <;> exact Nat.mod_lt _ (by decide)
theorem val_four (a b c d : Nat) : val 18446744073709551616 [a, b, c, d] = a + 18446744073709551616 * b + 340282366920938463463374607431768211456 * c + 6277101735386680763835789423207666416102355444464034512896 * d := by
  simp only [val]; omega
theorem wds_val {n : Nat} (h : n < 115792089237316195423570985008687907853269984665640564039457584007913129639936) : val 18446744073709551616 (wds n) = n := by
  rw [wds, val_four]; omega
theorem of_wds {xs : List Nat} (hl : xs.length = 4) (h : Lo 18446744073709551616 xs) : val 18446744073709551616 xs < 115792089237316195423570985008687907853269984665640564039457584007913129639936 ∧ xs = wds (val 18446744073709551616 xs) := by
  match xs, hl, h with
  | [a, b, c, d], _, h =>
    have ha := h a (by simp)
    have hb := h b (by simp)
    have hc := h c (by simp)
    have hd := h d (by simp)
    rw [val_four]
    refine ⟨by omega, ?_⟩
    simp only [wds, List.cons.injEq, and_true]
    refine ⟨?_, ?_, ?_, ?_⟩ <;> omega
theorem wds_of {xs : List Nat} {n : Nat} (hl : xs.length = 4) (h : Lo 18446744073709551616 xs) (hn : val 18446744073709551616 xs = n) : xs = wds n := hn ▸ (of_wds hl h).2
theorem wds_inj {m n : Nat} (hm : m < 115792089237316195423570985008687907853269984665640564039457584007913129639936) (hn : n < 115792089237316195423570985008687907853269984665640564039457584007913129639936) (h : wds m = wds n) : m = n := by
  rw [← wds_val hm, h, wds_val hn]
/-- A word of a number. -/
theorem wds_getD {n : Nat} (h : n < 115792089237316195423570985008687907853269984665640564039457584007913129639936) (i : Nat) : (wds n).getD i 0 = n / 18446744073709551616 ^ i % 18446744073709551616 := by
  rw [getD_val (B := 18446744073709551616) (by decide) (wds_lo n), wds_val h]

theorem val_set' {B : Nat} {xs : List Nat} {i : Nat} (h : i < xs.length) (z : Nat) : val B (xs.set i z) + B ^ i * xs.getD i 0 = val B xs + B ^ i * z := by
  have h1 : (xs.set i z).take i = xs.take i := by rw [List.take_set_of_le (Nat.le_refl _)]
  have h2 : (xs.set i z).drop (i + 1) = xs.drop (i + 1) := by rw [List.drop_set_of_lt (by omega)]
  have h3 : (xs.set i z).getD i 0 = z := by simp [List.getD, h]
  rw [val_split (xs.set i z) i, val_split xs i, h1, h2, h3, Nat.mul_add, Nat.mul_add]
  omega
theorem getD_set (xs : List Nat) (i j z : Nat) (h : i ≠ j) : (xs.set i z).getD j 0 = xs.getD j 0 := by simp [List.getD, List.getElem?_set_ne h]
theorem val_snoc {B : Nat} (xs : List Nat) (z : Nat) : val B (xs ++ [z]) = val B xs + B ^ xs.length * z := by rw [val_append, val_one]

/-- A difference of the first k words, and what is borrowed. -/
def mns (xs ys : List Nat) : Nat → List Nat × Nat
  | 0 => ([], 0)
  | k + 1 => ((mns xs ys k).1 ++ [(xs.getD k 0 + 18446744073709551616 - ys.getD k 0 - (mns xs ys k).2) % 18446744073709551616], if xs.getD k 0 < ys.getD k 0 + (mns xs ys k).2 then 1 else 0)
theorem mns_length (xs ys : List Nat) (k : Nat) : (mns xs ys k).1.length = k := by
  induction k with
  | zero => rfl
  | succ k ih => simp [mns, ih]
theorem mns_le (xs ys : List Nat) (k : Nat) : (mns xs ys k).2 ≤ 1 := by
  cases k with
  | zero => exact Nat.zero_le _
  | succ k => simp only [mns]; split <;> omega
theorem mns_lo (xs ys : List Nat) (k : Nat) : Lo 18446744073709551616 (mns xs ys k).1 := by
  induction k with
  | zero => exact Lo.nil _
  | succ k ih =>
    refine ih.append fun x hx => ?_
    simp only [List.mem_singleton] at hx
    subst hx
    exact Nat.mod_lt _ (by decide)
theorem mns_ok {xs ys : List Nat} (hx : Lo 18446744073709551616 xs) (hy : Lo 18446744073709551616 ys) (k : Nat) : val 18446744073709551616 (mns xs ys k).1 + val 18446744073709551616 (ys.take k) = val 18446744073709551616 (xs.take k) + 18446744073709551616 ^ k * (mns xs ys k).2 := by
  induction k with
  | zero => simp [mns, val]
  | succ k ih =>
    have h1 := hx.getD (by decide) k
    have h2 := hy.getD (by decide) k
    have h3 := mns_le xs ys k
    have hlen := mns_length xs ys k
    rw [val_take_succ, val_take_succ]
    simp only [mns]
    rw [val_snoc, hlen]
    generalize (mns xs ys k).2 = b at *
    generalize xs.getD k 0 = x at *
    generalize ys.getD k 0 = y at *
    have e : (x + 18446744073709551616 - y - b) % 18446744073709551616 + y + b = x + 18446744073709551616 * (if x < y + b then 1 else 0) := by
      split <;> omega
    have e2 := congrArg (18446744073709551616 ^ k * ·) e
    simp only [Nat.mul_add] at e2
    rw [Nat.pow_succ, Nat.mul_assoc]
    omega
theorem mns_four {A B : Nat} (hA : A < 115792089237316195423570985008687907853269984665640564039457584007913129639936) (hB : B < 115792089237316195423570985008687907853269984665640564039457584007913129639936) : (mns (wds A) (wds B) 4).1 = wds ((A + 115792089237316195423570985008687907853269984665640564039457584007913129639936 - B) % 115792089237316195423570985008687907853269984665640564039457584007913129639936) ∧ ((mns (wds A) (wds B) 4).2 = 1 ↔ A < B) := by
  have h1 := mns_ok (wds_lo A) (wds_lo B) 4
  have h2 := mns_le (wds A) (wds B) 4
  have h3 := mns_length (wds A) (wds B) 4
  have h4 := mns_lo (wds A) (wds B) 4
  rw [List.take_of_length_le (by simp [wds_length]), List.take_of_length_le (by simp [wds_length]), wds_val hA, wds_val hB, W_pow] at h1
  obtain ⟨h5, _⟩ := of_wds h3 h4
  refine ⟨wds_of h3 h4 ?_, ?_⟩
  · omega
  · omega

/-- A sum of the first k words, and what is carried. -/
def pls (xs ys : List Nat) : Nat → List Nat × Nat
  | 0 => ([], 0)
  | k + 1 => ((pls xs ys k).1 ++ [(xs.getD k 0 + ys.getD k 0 + (pls xs ys k).2) % 18446744073709551616], (xs.getD k 0 + ys.getD k 0 + (pls xs ys k).2) / 18446744073709551616)
theorem pls_length (xs ys : List Nat) (k : Nat) : (pls xs ys k).1.length = k := by
  induction k with
  | zero => rfl
  | succ k ih => simp [pls, ih]
theorem pls_le {xs ys : List Nat} (hx : Lo 18446744073709551616 xs) (hy : Lo 18446744073709551616 ys) (k : Nat) : (pls xs ys k).2 ≤ 1 := by
  induction k with
  | zero => exact Nat.zero_le _
  | succ k ih =>
    have h1 := hx.getD (by decide) k
    have h2 := hy.getD (by decide) k
    simp only [pls]; omega
theorem pls_lo (xs ys : List Nat) (k : Nat) : Lo 18446744073709551616 (pls xs ys k).1 := by
  induction k with
  | zero => exact Lo.nil _
  | succ k ih =>
    refine ih.append fun x hx => ?_
    simp only [List.mem_singleton] at hx
    subst hx
    exact Nat.mod_lt _ (by decide)
theorem pls_ok (xs ys : List Nat) (k : Nat) : val 18446744073709551616 (pls xs ys k).1 + 18446744073709551616 ^ k * (pls xs ys k).2 = val 18446744073709551616 (xs.take k) + val 18446744073709551616 (ys.take k) := by
  induction k with
  | zero => simp [pls, val]
  | succ k ih =>
    have hlen := pls_length xs ys k
    rw [val_take_succ, val_take_succ]
    simp only [pls]
    rw [val_snoc, hlen]
    generalize (pls xs ys k).2 = b at *
    generalize xs.getD k 0 = x at *
    generalize ys.getD k 0 = y at *
    have e2 := congrArg (18446744073709551616 ^ k * ·) (Nat.mod_add_div (x + y + b) 18446744073709551616)
    simp only [Nat.mul_add] at e2
    rw [Nat.pow_succ, Nat.mul_assoc]
    omega
theorem pls_four {A B : Nat} (hA : A < 115792089237316195423570985008687907853269984665640564039457584007913129639936) (hB : B < 115792089237316195423570985008687907853269984665640564039457584007913129639936) : (pls (wds A) (wds B) 4).1 = wds ((A + B) % 115792089237316195423570985008687907853269984665640564039457584007913129639936) ∧ (pls (wds A) (wds B) 4).2 = (A + B) / 115792089237316195423570985008687907853269984665640564039457584007913129639936 := by
  have h1 := pls_ok (wds A) (wds B) 4
  have h2 := pls_le (wds_lo A) (wds_lo B) 4
  have h3 := pls_length (wds A) (wds B) 4
  have h4 := pls_lo (wds A) (wds B) 4
  rw [List.take_of_length_le (by simp [wds_length]), List.take_of_length_le (by simp [wds_length]), wds_val hA, wds_val hB, W_pow] at h1
  obtain ⟨h5, _⟩ := of_wds h3 h4
  refine ⟨wds_of h3 h4 ?_, ?_⟩ <;> omega

/-- What is left of what is folded: 2^256 is 38. -/
theorem fold_mod (a b : Nat) : (a + 115792089237316195423570985008687907853269984665640564039457584007913129639936 * b) % P = (a + 38 * b) % P := by
  rw [show a + 115792089237316195423570985008687907853269984665640564039457584007913129639936 * b = a + 38 * b + P * (2 * b) by rw [T_P, Nat.add_mul, Nat.mul_assoc, Nat.mul_left_comm 2 P]; omega, Nat.add_mul_mod_self_left]
theorem red_once {A : Nat} (h : A < 115792089237316195423570985008687907853269984665640564039457584007913129639936) : A % P = (if A < P then A else if A - P < P then A - P else A - P - P) := by
  have h1 := T_P
  have h2 : 38 < P := by decide +kernel
  by_cases h3 : A < P
  · rw [if_pos h3, Nat.mod_eq_of_lt h3]
  · rw [if_neg h3, Nat.mod_eq_sub_mod (by omega)]
    by_cases h4 : A - P < P
    · rw [if_pos h4, Nat.mod_eq_of_lt h4]
    · rw [if_neg h4, Nat.mod_eq_sub_mod (by omega), Nat.mod_eq_of_lt (by omega)]
theorem mod_lt_P (n : Nat) : n % P < P := Nat.mod_lt _ P_pos
theorem mod_lt_T (n : Nat) : n % P < 115792089237316195423570985008687907853269984665640564039457584007913129639936 := Nat.lt_trans (mod_lt_P n) P_lt
end Go.Proofs.YtdpahahfcdldcaaDoor.F
