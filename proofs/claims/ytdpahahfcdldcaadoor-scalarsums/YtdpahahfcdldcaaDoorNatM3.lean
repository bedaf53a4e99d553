/-
  More mathematics of numbers in digits: shifted up, shifted down. Over no program.
-/
import Derived.Test.YtdpahahfcdldcaaDoorNatM2
namespace Go.Proofs.YtdpahahfcdldcaaDoor
set_option linter.unusedVariables false
section
variable {B : Nat}
theorem getD_set_other (xs : List Nat) {i j : Nat} (z : Nat) (h : i ≠ j) : (xs.set i z).getD j 0 = xs.getD j 0 := by
  simp [List.getD, List.getElem?_set_ne h]
/-- One word more, shifted up. -/
theorem shl_math {out : List Nat} {q R S k T T' x t : Nat} (hB : 0 < B) (hR : 0 < R) (hRS : R * S = B) (hl : q + k + 1 < out.length) (hlo : Lo B out) (hT : T < B ^ k) (hv : val B out = T * R * B ^ q)
    (ht : out.getD (q + k) 0 = t) (hx : x < B) (hs : T' = T + B ^ k * x) :
    t < R ∧ R ∣ x * R % B ∧ t + x * R % B < B ∧ x * R / B < B ∧ Lo B ((out.set (q + k) (t + x * R % B)).set (q + k + 1) (x * R / B)) ∧ val B ((out.set (q + k) (t + x * R % B)).set (q + k + 1) (x * R / B)) = T' * R * B ^ q := by
  have hp : 0 < B ^ q := Nat.pow_pos hB
  have hpk : 0 < B ^ k := Nat.pow_pos hB
  have hS : 0 < S := by
    rcases Nat.eq_zero_or_pos S with h | h
    · subst h; omega
    · exact h
  have h1 : T * R < B ^ k * R := Nat.mul_lt_mul_of_pos_right hT hR
  have htR : t < R := by
    rw [← ht, getD_val hB hlo, hv, Nat.pow_add, ← Nat.div_div_eq_div_mul, Nat.mul_div_cancel _ hp]
    refine Nat.lt_of_le_of_lt (Nat.mod_le _ _) ?_
    rw [Nat.div_lt_iff_lt_mul hpk, Nat.mul_comm R]
    exact h1
  have ht0 : out.getD (q + k + 1) 0 = 0 := by
    rw [getD_val hB hlo, hv, show q + k + 1 = q + (k + 1) by omega, Nat.pow_add, ← Nat.div_div_eq_div_mul, Nat.mul_div_cancel _ hp]
    have h2 : T * R < B ^ (k + 1) := by
      rw [Nat.pow_succ]
      refine Nat.lt_of_lt_of_le h1 (Nat.mul_le_mul_left _ ?_)
      rw [← hRS]; exact Nat.le_mul_of_pos_right _ hS
    rw [Nat.div_eq_of_lt h2]; simp
  have hd : x * R % B = R * (x % S) := by rw [← hRS, Nat.mul_comm x R, Nat.mul_mod_mul_left]
  have hlt : t + x * R % B < B := by
    rw [hd]
    have h3 : R * (x % S + 1) ≤ R * S := Nat.mul_le_mul_left _ (Nat.mod_lt _ hS)
    rw [Nat.mul_add] at h3
    omega
  have hq : x * R / B < B := by
    rw [Nat.div_lt_iff_lt_mul hB]
    refine Nat.lt_of_lt_of_le (Nat.mul_lt_mul_of_pos_right hx hR) (Nat.mul_le_mul_left _ ?_)
    rw [← hRS]; exact Nat.le_mul_of_pos_right _ hS
  refine ⟨htR, ⟨_, hd⟩, hlt, hq, (hlo.set _ _ hlt).set _ _ hq, ?_⟩
  have e1 := val_set (B := B) (xs := out.set (q + k) (t + x * R % B)) (i := q + k + 1) (by rw [List.length_set]; exact hl) (x * R / B)
  rw [getD_set_other _ _ (by omega), ht0, Nat.zero_add] at e1
  have e2 := val_set (B := B) (xs := out) (i := q + k) (by omega) (x * R % B)
  rw [ht] at e2
  rw [e1, e2, hv, hs, Nat.pow_succ, Nat.pow_add]
  have h4 := Nat.mod_add_div (x * R) B
  generalize x * R % B = u at *
  generalize x * R / B = y at *
  generalize B ^ q = Q at *
  generalize B ^ k = K at *
  clear e1 e2 hv hs
  grind
/-- Two words, shifted down: the lower one. -/
theorem shr_math {M R S : Nat} (hR : 0 < R) (hB : 0 < B) (hRS : R * S = B) : (M % (B * B)) / R % B = M / R % B := by
  have h1 : B * B = R * (S * B) := by rw [← Nat.mul_assoc, hRS]
  rw [h1, Nat.mod_mul_right_div_self, Nat.mod_mul_left_mod]
theorem two_words (M : Nat) (i : Nat) : M / B ^ i % B + B * (M / B ^ (i + 1) % B) = M / B ^ i % (B * B) := by
  rw [Nat.pow_succ, ← Nat.div_div_eq_div_mul, Nat.mod_mul]
theorem val_div {xs : List Nat} (hB : 0 < B) (h : Lo B xs) (i : Nat) : val B (xs.drop i) = val B xs / B ^ i := by
  by_cases hi : i ≤ xs.length
  · have h1 := val_take_lt hB h i
    rw [val_take_drop xs i hi, Nat.add_mul_div_left _ _ (Nat.pow_pos hB), Nat.div_eq_of_lt h1, Nat.zero_add]
  · have h2 := val_lt hB h
    rw [List.drop_eq_nil_of_le (by omega), Nat.div_eq_of_lt (Nat.lt_of_lt_of_le h2 (Nat.pow_le_pow_right hB (by omega)))]
    rfl
end
theorem or_low {t d R : Nat} {r : Nat} (hR : R = 2 ^ r) (ht : t < R) (hd : R ∣ d) : t ||| d = t + d := by
  obtain ⟨c, rfl⟩ := hd
  subst hR
  rw [Nat.or_comm, ← Nat.two_pow_add_eq_or_of_lt ht, Nat.add_comm]
theorem pow_split {r : Nat} (hr : r ≤ 32) : 2 ^ r * 2 ^ (32 - r) = 4294967296 := by
  rw [← Nat.pow_add, show r + (32 - r) = 32 by omega]
/-- A byte of a word. -/
theorem byte_of_word (M k : Nat) : M / 4294967296 ^ (k / 4) % 4294967296 / 2 ^ (k % 4 * 8) % 256 = M / 256 ^ k % 256 := by
  have hk : k % 4 < 4 := Nat.mod_lt _ (by decide)
  have h1 : 256 ^ k = 4294967296 ^ (k / 4) * 2 ^ (k % 4 * 8) := by
    rw [pow8, pow32, ← Nat.pow_add]; congr 1; omega
  rw [h1, ← Nat.div_div_eq_div_mul]
  generalize M / 4294967296 ^ (k / 4) = T
  generalize hr : k % 4 = r at *
  have h2 : (4294967296 : Nat) = 2 ^ (r * 8) * 2 ^ (32 - r * 8) := by rw [← Nat.pow_add, show r * 8 + (32 - r * 8) = 32 by omega]
  rw [h2, Nat.mod_mul_right_div_self, show (256 : Nat) = 2 ^ 8 from rfl, Nat.mod_mod_of_dvd _ (Nat.pow_dvd_pow 2 (by omega))]
theorem byte_of_digit (M k : Nat) : (if k % 2 = 1 then M / 65536 ^ (k / 2) % 65536 / 256 else M / 65536 ^ (k / 2) % 65536) % 256 = M / 256 ^ k % 256 := by
  have h1 : 256 ^ k = 65536 ^ (k / 2) * 2 ^ (k % 2 * 8) := by
    rw [pow8, pow16, ← Nat.pow_add]; congr 1; omega
  rw [h1, ← Nat.div_div_eq_div_mul]
  generalize M / 65536 ^ (k / 2) = T
  split
  · rename_i h; rw [h]; simp only [Nat.one_mul]; omega
  · rename_i h; rw [show k % 2 = 0 by omega]; simp only [Nat.zero_mul, Nat.pow_zero, Nat.div_one]; omega
theorem pow_split16 {r : Nat} (hr : r ≤ 16) : 2 ^ r * 2 ^ (16 - r) = 65536 := by
  rw [← Nat.pow_add, show r + (16 - r) = 16 by omega]
end Go.Proofs.YtdpahahfcdldcaaDoor
