/-
  Products of digits, and their folding, over natural numbers. Over no program.
-/
import Derived.Test.YtdpahahfcdldcaaDoorFldW
namespace Go.Proofs.YtdpahahfcdldcaaDoor.F
set_option linter.unusedVariables false

/-- What the product holds ahead of row i. -/
structure Pout (B n : Nat) (xs ys l : List Nat) (i : Nat) : Prop where
  len : l.length = n + n
  lo : Lo B l
  zero : ∀ k, i + n ≤ k → l.getD k 0 = 0
  eq : val B l = val B (xs.take i) * val B ys
/-- What it holds within row i, behind j digits. -/
structure Pin (B n : Nat) (xs ys l : List Nat) (i j c : Nat) : Prop where
  len : l.length = n + n
  lo : Lo B l
  zero : ∀ k, i + n ≤ k → l.getD k 0 = 0
  small : c < B
  eq : val B l + B ^ (i + j) * c = val B (xs.take i) * val B ys + B ^ i * (xs.getD i 0 * val B (ys.take j))
section
variable {B n : Nat} {xs ys l : List Nat} {i j c : Nat}
theorem Pout.begin (hB : 0 < B) (xs ys : List Nat) : Pout B n xs ys (Z (n + n)) 0 :=
  ⟨Z_length _, Z_lo hB _, fun k _ => by
    by_cases h : k < n + n
    · simp [Z, List.getD, h]
    · rw [getD_past (by rw [Z_length]; omega)], by rw [Z, val_zeros]; simp [val]⟩
theorem Pout.inner (hB : 0 < B) (h : Pout B n xs ys l i) : Pin B n xs ys l i 0 0 :=
  ⟨h.len, h.lo, h.zero, hB, by rw [h.eq]; simp [val]⟩
theorem Pin.step (hB : 0 < B) (hx : Lo B xs) (hy : Lo B ys) (h : Pin B n xs ys l i j c) (hj : j < n) (hi : i < n) :
    Pin B n xs ys (l.set (i + j) ((xs.getD i 0 * ys.getD j 0 + l.getD (i + j) 0 + c) % B)) i (j + 1) ((xs.getD i 0 * ys.getD j 0 + l.getD (i + j) 0 + c) / B) := by
  have h1 := hx.getD hB i
  have h2 := hy.getD hB j
  have h3 := h.lo.getD hB (i + j)
  have h4 := h.small
  have hlen := h.len
  refine ⟨by simpa using hlen, h.lo.set _ _ (Nat.mod_lt _ hB), fun k hk => by rw [getD_set _ _ _ _ (by omega)]; exact h.zero k hk, ?_, ?_⟩
  · refine Nat.div_lt_of_lt_mul ?_
    have e1 : xs.getD i 0 * ys.getD j 0 ≤ (B - 1) * (B - 1) := Nat.mul_le_mul (by omega) (by omega)
    obtain ⟨b, rfl⟩ : ∃ b, B = b + 1 := ⟨B - 1, by omega⟩
    rw [Nat.add_sub_cancel] at e1
    have e2 : (b + 1) * (b + 1) = b * b + 2 * b + 1 := by grind
    rw [e2]; omega
  · have hs := val_set' (B := B) (show i + j < l.length by omega) ((xs.getD i 0 * ys.getD j 0 + l.getD (i + j) 0 + c) % B)
    have hd := congrArg (B ^ (i + j) * ·) (Nat.mod_add_div (xs.getD i 0 * ys.getD j 0 + l.getD (i + j) 0 + c) B)
    have he := h.eq
    simp only [Nat.mul_add] at hd
    rw [val_take_succ, ← Nat.add_assoc i j 1, Nat.pow_succ, Nat.mul_assoc, Nat.mul_add, Nat.mul_add]
    have e3 : B ^ i * (xs.getD i 0 * (B ^ j * ys.getD j 0)) = B ^ (i + j) * (xs.getD i 0 * ys.getD j 0) := by
      rw [Nat.pow_add, Nat.mul_left_comm (xs.getD i 0), Nat.mul_assoc]
    rw [e3]
    generalize (xs.getD i 0 * ys.getD j 0 + l.getD (i + j) 0 + c) % B = z at *
    generalize (xs.getD i 0 * ys.getD j 0 + l.getD (i + j) 0 + c) / B = d at *
    omega
theorem Pin.out (h : Pin B n xs ys l i n c) (hy : ys.length = n) (hi : i < n) : Pout B n xs ys (l.set (i + n) c) (i + 1) := by
  have hlen := h.len
  refine ⟨by simpa using hlen, h.lo.set _ _ h.small, fun k hk => by rw [getD_set _ _ _ _ (by omega)]; exact h.zero k (by omega), ?_⟩
  have hs := val_set' (B := B) (show i + n < l.length by omega) c
  rw [h.zero _ (Nat.le_refl _), Nat.mul_zero, Nat.add_zero] at hs
  rw [hs, h.eq, val_take_succ, List.take_of_length_le (l := ys) (by omega), Nat.add_mul, Nat.mul_assoc]
theorem Pout.all (h : Pout B n xs ys l n) (hx : xs.length = n) : val B l = val B xs * val B ys := by
  rw [h.eq, List.take_of_length_le (by omega)]
end

/-- The lower digits, and 38 times the upper ones, behind k digits, and what is carried. -/
def fld (B n : Nat) (p : List Nat) : Nat → List Nat × Nat
  | 0 => ([], 0)
  | k + 1 => ((fld B n p k).1 ++ [(p.getD (k + n) 0 * 38 + p.getD k 0 + (fld B n p k).2) % B], (p.getD (k + n) 0 * 38 + p.getD k 0 + (fld B n p k).2) / B)
theorem fld_length (B n : Nat) (p : List Nat) (k : Nat) : (fld B n p k).1.length = k := by
  induction k with
  | zero => rfl
  | succ k ih => simp [fld, ih]
theorem fld_lo {B : Nat} (hB : 0 < B) (n : Nat) (p : List Nat) (k : Nat) : Lo B (fld B n p k).1 := by
  induction k with
  | zero => exact Lo.nil _
  | succ k ih =>
    refine ih.append fun x hx => ?_
    simp only [List.mem_singleton] at hx
    subst hx
    exact Nat.mod_lt _ hB
theorem fld_le {B n : Nat} {p : List Nat} (hB : 0 < B) (hp : Lo B p) (k : Nat) : (fld B n p k).2 ≤ 38 := by
  induction k with
  | zero => exact Nat.zero_le _
  | succ k ih =>
    have h1 := hp.getD hB k
    have h2 := hp.getD hB (k + n)
    simp only [fld]
    refine Nat.le_of_lt_succ (Nat.div_lt_of_lt_mul ?_)
    have : B * Nat.succ 38 = 39 * B := Nat.mul_comm _ _
    omega
theorem fld_ok (B n : Nat) (p : List Nat) (k : Nat) : val B (fld B n p k).1 + B ^ k * (fld B n p k).2 = val B (p.take k) + 38 * val B ((p.drop n).take k) := by
  induction k with
  | zero => simp [fld, val]
  | succ k ih =>
    have hlen := fld_length B n p k
    rw [val_take_succ, val_take_succ, getD_drop, Nat.add_comm n k]
    simp only [fld]
    rw [val_snoc, hlen]
    generalize (fld B n p k).2 = b at *
    generalize p.getD k 0 = x at *
    generalize p.getD (k + n) 0 = y at *
    have e2 := congrArg (B ^ k * ·) (Nat.mod_add_div (y * 38 + x + b) B)
    simp only [Nat.mul_add] at e2
    rw [Nat.pow_succ, Nat.mul_assoc, Nat.mul_add 38]
    have e3 : B ^ k * (y * 38) = 38 * (B ^ k * y) := by rw [← Nat.mul_assoc, Nat.mul_comm]
    omega
/-- What is folded is the same, modulo the prime. -/
theorem fld_mod {B n : Nat} {p : List Nat} (hB : 0 < B) (hp : Lo B p) (hl : p.length = n + n) (hT : B ^ n = 115792089237316195423570985008687907853269984665640564039457584007913129639936) :
    (val B (fld B n p n).1 + 115792089237316195423570985008687907853269984665640564039457584007913129639936 * (fld B n p n).2) % P = val B p % P ∧ val B (fld B n p n).1 < 115792089237316195423570985008687907853269984665640564039457584007913129639936 ∧ (fld B n p n).2 ≤ 38 := by
  have h1 := fld_ok B n p n
  have h2 := val_take_drop (B := B) p n (by omega)
  have h3 := val_lt hB (fld_lo hB n p n)
  rw [fld_length, hT] at h3
  rw [List.take_of_length_le (show (p.drop n).length ≤ n by simp; omega), hT] at h1
  rw [hT] at h2
  refine ⟨?_, h3, fld_le hB hp n⟩
  rw [h1, h2, fold_mod]
/-- Folding on. -/
theorem fold_on {M c N : Nat} (hM : M < 115792089237316195423570985008687907853269984665640564039457584007913129639936) (hc : c ≤ 38) (h : (M + 115792089237316195423570985008687907853269984665640564039457584007913129639936 * c) % P = N % P) : ((M + 38 * c) % 115792089237316195423570985008687907853269984665640564039457584007913129639936 + 115792089237316195423570985008687907853269984665640564039457584007913129639936 * ((M + 38 * c) / 115792089237316195423570985008687907853269984665640564039457584007913129639936)) % P = N % P ∧ (M + 38 * c) / 115792089237316195423570985008687907853269984665640564039457584007913129639936 ≤ 1 ∧ ((M + 38 * c) / 115792089237316195423570985008687907853269984665640564039457584007913129639936 = 1 → (M + 38 * c) % 115792089237316195423570985008687907853269984665640564039457584007913129639936 < 1444) := by
  refine ⟨?_, by omega, by omega⟩
  rw [fold_mod] at h
  rw [Nat.mod_add_div, h]
theorem fold_end {M c N : Nat} (hM : M < 115792089237316195423570985008687907853269984665640564039457584007913129639936) (hc : c ≤ 1) (hs : c = 1 → M < 1444) (h : (M + 115792089237316195423570985008687907853269984665640564039457584007913129639936 * c) % P = N % P) : (M + 38 * c) % 115792089237316195423570985008687907853269984665640564039457584007913129639936 % P = N % P ∧ (M + 38 * c) / 115792089237316195423570985008687907853269984665640564039457584007913129639936 = 0 := by
  rw [fold_mod] at h
  rw [Nat.mod_eq_of_lt (by omega : M + 38 * c < 115792089237316195423570985008687907853269984665640564039457584007913129639936)]
  exact ⟨h, by omega⟩
theorem fold_next {M c N k : Nat} (hM : M < 115792089237316195423570985008687907853269984665640564039457584007913129639936) (hc : c ≤ 38) (hk : k < 2) (h : (M + 115792089237316195423570985008687907853269984665640564039457584007913129639936 * c) % P = N % P ∧ (k = 1 → c ≤ 1 ∧ (c = 1 → M < 1444)) ∧ (k = 2 → c = 0)) :
    (M + 38 * c) / 115792089237316195423570985008687907853269984665640564039457584007913129639936 ≤ 38 ∧ (((M + 38 * c) % 115792089237316195423570985008687907853269984665640564039457584007913129639936 + 115792089237316195423570985008687907853269984665640564039457584007913129639936 * ((M + 38 * c) / 115792089237316195423570985008687907853269984665640564039457584007913129639936)) % P = N % P ∧ (k + 1 = 1 → (M + 38 * c) / 115792089237316195423570985008687907853269984665640564039457584007913129639936 ≤ 1 ∧ ((M + 38 * c) / 115792089237316195423570985008687907853269984665640564039457584007913129639936 = 1 → (M + 38 * c) % 115792089237316195423570985008687907853269984665640564039457584007913129639936 < 1444)) ∧ (k + 1 = 2 → (M + 38 * c) / 115792089237316195423570985008687907853269984665640564039457584007913129639936 = 0)) := by
  obtain ⟨h1, h2, h3⟩ := h
  obtain ⟨k1, k2, k3⟩ := fold_on hM hc h1
  refine ⟨by omega, k1, fun _ => ⟨k2, k3⟩, fun hk2 => ?_⟩
  obtain ⟨h4, h5⟩ := h2 (by omega)
  omega
theorem wds_small {n : Nat} (h : n < 18446744073709551616) : wds n = [n, 0, 0, 0] := by
  simp only [wds, List.cons.injEq, and_true]
  omega
end Go.Proofs.YtdpahahfcdldcaaDoor.F
