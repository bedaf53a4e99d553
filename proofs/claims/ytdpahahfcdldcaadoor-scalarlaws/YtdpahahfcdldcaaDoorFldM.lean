/-
  The mathematics of numbers modulo 2^255 - 19: inverses and roots. No conditions.
-/
import Derived.Test.YtdpahahfcdldcaaDoorPrm
namespace Go.Proofs.YtdpahahfcdldcaaDoor.F
set_option linter.unusedVariables false

/-- The prime. -/
def P : Nat := 57896044618658097711785492504343953926634992332820282019728792003956564819949
theorem P_prime : Pr P := prime25519
theorem P_pow : P = 2 ^ 255 - 19 := by decide +kernel
theorem P_two : 2 < P := by decide +kernel
/-- A number times its power by the prime less 2. -/
theorem inv_ok {a : Nat} (h : a % P ≠ 0) : a * a ^ (P - 2) % P = 1 := by
  have h1 := fermat P_prime (a := a) (fun hd => h (Nat.mod_eq_zero_of_dvd hd))
  rw [← Nat.pow_succ', show (P - 2).succ = P - 1 by have := P_two; omega]
  exact h1
theorem no_zero {a b : Nat} (h : a * b % P = 0) : a % P = 0 ∨ b % P = 0 := by
  rcases P_prime.euclid (Nat.dvd_of_mod_eq_zero h) with h1 | h1
  · exact .inl (Nat.mod_eq_zero_of_dvd h1)
  · exact .inr (Nat.mod_eq_zero_of_dvd h1)
theorem same_square' {x y : Nat} (hle : y ≤ x) (h : x * x % P = y * y % P) : x % P = y % P ∨ (x + y) % P = 0 := by
  have h1 := Nat.sub_mod_eq_zero_of_mod_eq h
  rw [Nat.mul_self_sub_mul_self_eq] at h1
  rcases no_zero h1 with h2 | h2
  · exact .inr h2
  · left
    obtain ⟨c, hc⟩ := Nat.dvd_of_mod_eq_zero h2
    rw [show x = y + P * c by omega, Nat.add_mul_mod_self_left]
/-- Of two roots of one number one is the other, or its negative. -/
theorem same_square {x y : Nat} (h : x * x % P = y * y % P) : x % P = y % P ∨ (x + y) % P = 0 := by
  rcases Nat.le_total y x with h1 | h1
  · exact same_square' h1 h
  · rcases same_square' h1 h.symm with h2 | h2
    · exact .inl h2.symm
    · exact .inr (by rw [Nat.add_comm]; exact h2)

/-- A quarter of the prime less 1; an eighth of the prime and 3. -/
def Q4 : Nat := (P - 1) / 4
def Q8 : Nat := (P + 3) / 8
theorem P_four : P = 4 * Q4 + 1 := by decide +kernel
theorem Q8_two : 2 * Q8 = Q4 + 1 := by decide +kernel
/-- A root of minus 1. -/
def im : Nat := 19681161376707505956807079304988542015446066515923890162744021073123829784752
theorem im_pow : 2 ^ Q4 % P = im := pm_ok 255 (by decide +kernel) (by decide +kernel)
theorem im_square : im * im % P = P - 1 := by decide +kernel

theorem neg_one_mul {a : Nat} : (P - 1) * a % P = (P - a % P) % P := by
  have hp := P_two
  by_cases h : a % P = 0
  · rw [h, Nat.sub_zero, Nat.mod_self, Nat.mul_mod, h, Nat.mul_zero, Nat.zero_mod]
  · have hlt := Nat.mod_lt a (show 0 < P by omega)
    have e : (P - 1) * a + a = P * a := by rw [Nat.sub_mul, Nat.one_mul]; have := Nat.le_mul_of_pos_left a (show 0 < P by omega); omega
    have e2 : ((P - 1) * a % P + a % P) % P = 0 := by rw [← Nat.add_mod, e, Nat.mul_mod_right]
    have hl2 := Nat.mod_lt ((P - 1) * a) (show 0 < P by omega)
    obtain ⟨c, hc⟩ := Nat.dvd_of_mod_eq_zero e2
    have hc1 : c = 1 := by
      rcases Nat.lt_or_ge c 1 with h1 | h1
      · obtain rfl : c = 0 := by omega
        rw [Nat.mul_zero] at hc; omega
      · rcases Nat.lt_or_ge 1 c with h2 | h2
        · have := Nat.mul_le_mul_left P h2; omega
        · omega
    rw [hc1, Nat.mul_one] at hc
    rw [Nat.mod_eq_of_lt (show P - a % P < P by omega)]
    exact Nat.eq_sub_of_add_eq hc

/-- What a square's power by a quarter is. -/
theorem quarter {a : Nat} (h : a % P ≠ 0) : (a * a) ^ Q4 % P = 1 ∨ (a * a) ^ Q4 % P = P - 1 := by
  have hp := P_two
  have h1 := fermat P_prime (a := a) (fun hd => h (Nat.mod_eq_zero_of_dvd hd))
  have e : ((a * a) ^ Q4) * ((a * a) ^ Q4) = a ^ (P - 1) := by
    rw [← Nat.pow_two a, ← Nat.pow_mul, ← Nat.pow_add, show 2 * Q4 + 2 * Q4 = P - 1 by have := P_four; omega]
  have h2 : ((a * a) ^ Q4) * ((a * a) ^ Q4) % P = 1 * 1 % P := by rw [e, h1, Nat.mod_eq_of_lt (by omega)]
  rcases same_square h2 with h3 | h3
  · left; rw [h3, Nat.mod_eq_of_lt (by omega)]
  · right
    have hl := Nat.mod_lt ((a * a) ^ Q4) (show 0 < P by omega)
    rw [Nat.add_mod, Nat.mod_eq_of_lt (show 1 < P by omega)] at h3
    rcases Nat.lt_or_ge ((a * a) ^ Q4 % P + 1) P with h4 | h4
    · rw [Nat.mod_eq_of_lt h4] at h3; omega
    · omega

/-- The number that the search for a root begins with. -/
theorem first_root (s : Nat) : (s ^ Q8) * (s ^ Q8) % P = s * s ^ Q4 % P := by
  rw [← Nat.pow_add, show Q8 + Q8 = Q4 + 1 by have := Q8_two; omega, Nat.pow_succ']
/-- A square has a root: what the search begins with, or that times a root of minus 1. -/
theorem root_ok {a : Nat} : (((a * a) ^ Q8) * ((a * a) ^ Q8) % P = a * a % P) ∨ (((a * a) ^ Q8 * im) * ((a * a) ^ Q8 * im) % P = a * a % P) := by
  have hp := P_two
  by_cases h0 : a % P = 0
  · left
    have hz : a * a % P = 0 := by rw [Nat.mul_mod, h0, Nat.zero_mul, Nat.zero_mod]
    rw [first_root, Nat.mul_mod, hz, Nat.zero_mul, Nat.zero_mod]
  · rcases quarter h0 with h1 | h1
    · left
      rw [first_root, Nat.mul_mod, h1, Nat.mul_one, Nat.mod_mod]
    · right
      have e : (a * a) ^ Q8 * im * ((a * a) ^ Q8 * im) = ((a * a) ^ Q8 * (a * a) ^ Q8) * (im * im) := by
        rw [Nat.mul_mul_mul_comm]
      have hm : (P - 1) % P = P - 1 := Nat.mod_eq_of_lt (by omega)
      have hX : a * a * (a * a) ^ Q4 % P = a * a * (P - 1) % P := by rw [Nat.mul_mod, h1, Nat.mul_mod (a * a) (P - 1), hm]
      have e2 : (P - 1) * (P - 1) % P = 1 := by decide +kernel
      have e3 : a * a * (P - 1) % P * (P - 1) % P = a * a % P := by
        rw [Nat.mod_mul_mod, Nat.mul_assoc (a * a), Nat.mul_mod, e2, Nat.mul_one, Nat.mod_mod]
      rw [e, Nat.mul_mod, first_root, im_square, hX]
      exact e3
theorem P_odd : P % 2 = 1 := by decide +kernel
theorem even_root_unique {r s : Nat} (hr : r < P) (hs : s < P) (er : r % 2 = 0) (es : s % 2 = 0) (h : r * r % P = s * s % P) : r = s := by
  have ho := P_odd
  rcases same_square h with h1 | h1
  · rwa [Nat.mod_eq_of_lt hr, Nat.mod_eq_of_lt hs] at h1
  · rcases Nat.lt_or_ge (r + s) P with h2 | h2
    · rw [Nat.mod_eq_of_lt h2] at h1; omega
    · have h3 : (r + s) % P = r + s - P := by rw [Nat.mod_eq_sub_mod h2, Nat.mod_eq_of_lt (by omega)]
      omega
/-- The even one of a number and its negative. -/
def evn (r : Nat) : Nat := if r % 2 = 1 then P - r else r
theorem evn_ok {r : Nat} (hr : r < P) : evn r < P ∧ evn r % 2 = 0 ∧ evn r * evn r % P = r * r % P := by
  have ho := P_odd
  unfold evn
  by_cases h : r % 2 = 1
  · rw [if_pos h]
    refine ⟨by omega, by omega, ?_⟩
    have e : (P - r) * (P - r) + P * (2 * r) = r * r + P * P := by
      obtain ⟨t, ht⟩ : ∃ t, P = t + r := ⟨P - r, by omega⟩
      rw [ht, Nat.add_sub_cancel]
      simp only [Nat.add_mul, Nat.mul_add, Nat.two_mul]
      rw [Nat.mul_comm r t]
      omega
    have e2 := congrArg (· % P) e
    simp only [Nat.add_mul_mod_self_left] at e2
    exact e2
  · rw [if_neg h]
    exact ⟨hr, by omega, rfl⟩
/-- The root that is told. -/
def rt (a : Nat) : Nat × Bool :=
  if a ^ Q8 % P * (a ^ Q8 % P) % P = a % P then (evn (a ^ Q8 % P), true)
  else if a ^ Q8 % P * im % P * (a ^ Q8 % P * im % P) % P = a % P then (evn (a ^ Q8 % P * im % P), true)
  else (0, false)
theorem rt_true {a : Nat} (h : (rt a).2 = true) : (rt a).1 < P ∧ (rt a).1 % 2 = 0 ∧ (rt a).1 * (rt a).1 % P = a % P := by
  have hp : 0 < P := by have := P_two; omega
  unfold rt at h ⊢
  by_cases h1 : a ^ Q8 % P * (a ^ Q8 % P) % P = a % P
  · rw [if_pos h1]
    obtain ⟨k1, k2, k3⟩ := evn_ok (Nat.mod_lt (a ^ Q8) hp)
    exact ⟨k1, k2, k3.trans h1⟩
  · rw [if_neg h1] at h ⊢
    by_cases h2 : a ^ Q8 % P * im % P * (a ^ Q8 % P * im % P) % P = a % P
    · rw [if_pos h2]
      obtain ⟨k1, k2, k3⟩ := evn_ok (Nat.mod_lt (a ^ Q8 % P * im) hp)
      exact ⟨k1, k2, k3.trans h2⟩
    · rw [if_neg h2] at h; cases h
theorem rt_square (x : Nat) {a : Nat} (h : x * x % P = a % P) : (rt a).2 = true := by
  have e : a ^ Q8 % P = (x * x) ^ Q8 % P := by rw [Nat.pow_mod, ← h, ← Nat.pow_mod]
  unfold rt
  rw [e]
  rcases root_ok (a := x) with h1 | h1
  · rw [if_pos (by rw [← Nat.mul_mod, h1, h])]
  · by_cases h2 : (x * x) ^ Q8 % P * ((x * x) ^ Q8 % P) % P = a % P
    · rw [if_pos h2]
    · have ei : (x * x) ^ Q8 % P * im % P = (x * x) ^ Q8 * im % P := by rw [Nat.mod_mul_mod]
      rw [if_neg h2, if_pos (by rw [ei, ← Nat.mul_mod, h1, h])]
theorem rt_none {a : Nat} (h : (rt a).2 = false) : (rt a).1 = 0 ∧ ∀ x, x * x % P ≠ a % P := by
  refine ⟨?_, fun x hx => by rw [rt_square x hx] at h; cases h⟩
  unfold rt at h ⊢
  split at h
  · cases h
  · split at h
    · cases h
    · rename_i h1 h2; rw [if_neg h1, if_neg h2]
/-- What is an even root below the prime is the one that is told. -/
theorem rt_only {a r : Nat} (hr : r < P) (he : r % 2 = 0) (h : r * r % P = a % P) : rt a = (r, true) := by
  have h1 := rt_square r h
  obtain ⟨k1, k2, k3⟩ := rt_true h1
  exact Prod.ext (even_root_unique k1 hr k2 he (k3.trans h.symm)) h1
/-- A number times itself has a root: that, or its negative. -/
theorem rt_self (a : Nat) : (rt (a * a)).2 = true ∧ ((rt (a * a)).1 = a % P ∨ (rt (a * a)).1 = (P - a % P) % P) := by
  have hp := P_two
  have h1 := rt_square a (a := a * a) rfl
  obtain ⟨k1, k2, k3⟩ := rt_true h1
  refine ⟨h1, ?_⟩
  rcases same_square k3 with h2 | h2
  · left; rwa [Nat.mod_eq_of_lt k1] at h2
  · right
    have hl := Nat.mod_lt a (show 0 < P by omega)
    rw [Nat.add_mod, Nat.mod_eq_of_lt k1] at h2
    rcases Nat.lt_or_ge ((rt (a * a)).1 + a % P) P with h3 | h3
    · rw [Nat.mod_eq_of_lt h3] at h2
      have e1 : a % P = 0 := by omega
      rw [e1, Nat.sub_zero, Nat.mod_self]; omega
    · rw [Nat.mod_eq_sub_mod h3, Nat.mod_eq_of_lt (by omega)] at h2
      by_cases h4 : a % P = 0
      · omega
      · rw [Nat.mod_eq_of_lt (by omega)]; omega
end Go.Proofs.YtdpahahfcdldcaaDoor.F
