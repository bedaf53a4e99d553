/-
  More mathematics of numbers in digits: the guess of a quotient's word, and what is put right. Over no program.
-/
import Derived.Test.YtdpahahfcdldcaaDoorNatM4
namespace Go.Proofs.YtdpahahfcdldcaaDoor
set_option linter.unusedVariables false
section
variable {B : Nat}
/-- The highest words of two numbers tell the quotient, or one more. -/
theorem guess_math {P L L3 t D B2 s Q : Nat} (hP : 0 < P) (hL : L = L3 * P + t) (ht : t < P) (hD : D = B2 * P + s) (hs : s < P) (hQ : Q < B) (hDge : B * P ≤ D) (h : Q * B2 ≤ L3) (hmax : ∀ u, u < B → u * B2 ≤ L3 → u ≤ Q) (hc : L < D * B) :
    Q = L / D ∨ Q = L / D + 1 := by
  have hD0 : 0 < D := by
    have : 0 < B * P := Nat.mul_pos (by omega) hP
    omega
  have h1 : L / D < B := by rw [Nat.div_lt_iff_lt_mul hD0, Nat.mul_comm]; exact hc
  have h2 : L / D * B2 ≤ L3 := by
    have h3 : L / D * D ≤ L := Nat.div_mul_le_self _ _
    have h4 : L / D * B2 * P ≤ L / D * D := by rw [Nat.mul_assoc]; exact Nat.mul_le_mul_left _ (by omega)
    have h5 : L / D * B2 * P < (L3 + 1) * P := by rw [Nat.add_mul]; omega
    have := Nat.lt_of_mul_lt_mul_right h5
    omega
  have h6 := hmax _ h1 h2
  have h7 : Q * D < L + D := by
    have h8 : Q * s < B * P := Nat.mul_lt_mul'' hQ hs
    have h9 : Q * B2 * P ≤ L3 * P := Nat.mul_le_mul_right _ h
    rw [hD, Nat.mul_add, ← Nat.mul_assoc]
    omega
  have h10 : Q ≤ L / D + 1 := by
    rcases Nat.eq_zero_or_pos Q with h | h
    · rw [h]; exact Nat.zero_le _
    · have : (Q - 1) * D ≤ L := by rw [Nat.sub_mul]; omega
      have := (Nat.le_div_iff_mul_le hD0).2 this
      omega
  omega
/-- It is begun high enough. -/
theorem guess_start {F S top l2 t : Nat} (hF : 0 < F) (hl2 : l2 < B) (h : t * (F * B + S) ≤ top * B + l2) : t ≤ top / F := by
  rw [Nat.le_div_iff_mul_le hF]
  have h1 : t * F * B ≤ t * (F * B + S) := by rw [Nat.mul_add, Nat.mul_assoc]; exact Nat.le_add_right _ _
  have h2 : t * F * B < (top + 1) * B := by rw [Nat.add_mul]; omega
  have := Nat.lt_of_mul_lt_mul_right h2
  omega
/-- One less, where it was too high. -/
theorem guess_less {F S top l2 Q R t : Nat} (hQR : Q * F + R = top) (hmax : ∀ u, u < B → u * (F * B + S) ≤ top * B + l2 → u ≤ Q) (h : B ≤ Q ∨ R * B + l2 < Q * S) (ht : t < B) (h2 : t * (F * B + S) ≤ top * B + l2) : t ≤ Q - 1 := by
  have h3 := hmax t ht h2
  rcases h with h | h
  · omega
  · have hne : t ≠ Q := by
      rintro rfl
      have h4 : t * (F * B + S) = t * F * B + t * S := by rw [Nat.mul_add, Nat.mul_assoc]
      have h5 : top * B = t * F * B + R * B := by rw [← hQR, Nat.add_mul]
      omega
    omega
/-- It is left low enough: what is left is a word or more. -/
theorem guess_end1 {F S top l2 Q R : Nat} (hQR : Q * F + R = top) (hR : B ≤ R) (hQ : Q < B) (hS : S < B) : Q * (F * B + S) ≤ top * B + l2 := by
  have h1 : Q * S ≤ B * B := Nat.mul_le_mul (by omega) (by omega)
  have h2 : B * B ≤ R * B := Nat.mul_le_mul_right _ hR
  have h4 : Q * (F * B + S) = Q * F * B + Q * S := by rw [Nat.mul_add, Nat.mul_assoc]
  have h5 : top * B = Q * F * B + R * B := by rw [← hQR, Nat.add_mul]
  omega
theorem guess_end2 {F S top l2 Q R : Nat} (hQR : Q * F + R = top) (h : Q * S ≤ R * B + l2) : Q * (F * B + S) ≤ top * B + l2 := by
  have h4 : Q * (F * B + S) = Q * F * B + Q * S := by rw [Nat.mul_add, Nat.mul_assoc]
  have h5 : top * B = Q * F * B + R * B := by rw [← hQR, Nat.add_mul]
  omega
/-- The two highest words, and what is below them. -/
theorem top_two {xs : List Nat} {n : Nat} (hB : 0 < B) (hn : xs.length = n) (h2 : 2 ≤ n) (hl : Lo B xs) : ∃ s, s < B ^ (n - 2) ∧ val B xs = (xs.getD (n - 1) 0 * B + xs.getD (n - 2) 0) * B ^ (n - 2) + s := by
  refine ⟨val B (xs.take (n - 2)), val_take_lt hB hl _, ?_⟩
  have h1 := val_split (B := B) xs (n - 2)
  have h3 := val_split (B := B) (xs.drop (n - 2 + 1)) 0
  rw [List.take_zero, getD_drop, List.drop_drop, List.drop_eq_nil_of_le (show xs.length ≤ n - 2 + 1 + (0 + 1) by omega)] at h3
  simp only [val, Nat.pow_zero, Nat.one_mul, Nat.mul_zero, Nat.add_zero, Nat.zero_add] at h3
  rw [show n - 2 + 1 = n - 1 by omega] at h1 h3
  rw [h1, h3]
  generalize val B (xs.take (n - 2)) = s
  generalize B ^ (n - 2) = P
  generalize xs.getD (n - 1) 0 = y
  generalize xs.getD (n - 2) 0 = z
  grind
theorem top_three {xs : List Nat} {n : Nat} (hB : 0 < B) (hn : xs.length = n + 1) (h2 : 2 ≤ n) (hl : Lo B xs) : ∃ s, s < B ^ (n - 2) ∧ val B xs = ((xs.getD n 0 * B + xs.getD (n - 1) 0) * B + xs.getD (n - 2) 0) * B ^ (n - 2) + s := by
  refine ⟨val B (xs.take (n - 2)), val_take_lt hB hl _, ?_⟩
  have h1 := val_split (B := B) xs (n - 2)
  have h3 := val_split (B := B) (xs.drop (n - 2 + 1)) 0
  rw [List.take_zero, getD_drop, List.drop_drop] at h3
  have h4 := val_split (B := B) (xs.drop (n - 2 + 1 + (0 + 1))) 0
  rw [List.take_zero, getD_drop, List.drop_drop, List.drop_eq_nil_of_le (show xs.length ≤ n - 2 + 1 + (0 + 1) + (0 + 1) by omega)] at h4
  simp only [val, Nat.pow_zero, Nat.one_mul, Nat.mul_zero, Nat.add_zero, Nat.zero_add] at h3 h4
  rw [show n - 2 + 1 = n - 1 by omega] at h1 h3
  rw [show n - 2 + 1 + 1 = n by omega] at h4
  rw [show n - 1 + 1 = n by omega] at h3
  rw [h1, h3, h4]
  generalize val B (xs.take (n - 2)) = s
  generalize B ^ (n - 2) = P
  generalize xs.getD n 0 = x
  generalize xs.getD (n - 1) 0 = y
  generalize xs.getD (n - 2) 0 = z
  grind
theorem guess_ge {F S P s : Nat} (hF : 0 < F) : B * P ≤ (F * B + S) * P + s := by
  have h1 : 1 * B ≤ F * B := Nat.mul_le_mul_right _ hF
  have h2 : B * P ≤ (F * B + S) * P := Nat.mul_le_mul_right _ (by omega)
  omega
theorem guess_top {F S sb sl P t3 top z : Nat} (ht : t3 = top * B + z) (hS : S < B) (hsb : sb < P) (hc : t3 * P + sl < ((F * B + S) * P + sb) * B) : top < (F + 1) * B := by
  have h1 : (F * B + S) * P + sb < (F * B + S + 1) * P := by rw [Nat.add_mul _ 1]; omega
  have h2 : (F * B + S + 1) * P ≤ ((F + 1) * B) * P := Nat.mul_le_mul_right _ (by rw [Nat.add_mul]; omega)
  have hB : 0 < B := by omega
  have h3 : ((F * B + S) * P + sb) * B < ((F + 1) * B) * P * B := Nat.mul_lt_mul_of_pos_right (by omega) hB
  have h4 : top * B * P ≤ t3 * P := Nat.mul_le_mul_right _ (by omega)
  have h5 : top * (B * P) < ((F + 1) * B) * (B * P) := by
    rw [← Nat.mul_assoc, Nat.mul_assoc ((F + 1) * B), Nat.mul_comm P B] at *
    omega
  exact Nat.lt_of_mul_lt_mul_right h5
/-- What is taken once too often is put back. -/
theorem put_back {P V V1 V2 D q c c2 : Nat} (hq : q = V / D + 1) (hD : 0 < D) (h1 : V1 + q * D = V + P * c) (hV1 : V1 < P) (h2 : V2 + P * c2 = V1 + D) (hV2 : V2 < P) (hV : V < P) : 0 < c ∧ V2 = V % D := by
  have h3 := Nat.div_add_mod V D
  have h4 : V % D < D := Nat.mod_lt _ hD
  have h5 : q * D = D * (V / D) + D := by rw [hq, Nat.add_mul, Nat.one_mul, Nat.mul_comm]
  have hc : 0 < c := by
    rcases Nat.eq_zero_or_pos c with h | h
    · subst h; omega
    · exact h
  refine ⟨hc, ?_⟩
  have h6 : V2 + P * c2 = V % D + P * c := by omega
  have h7 := congrArg (· % P) h6
  simp only [Nat.add_mul_mod_self_left] at h7
  rw [Nat.mod_eq_of_lt hV2, Nat.mod_eq_of_lt (by omega)] at h7
  exact h7
theorem took_all {P V V1 D q c : Nat} (hq : q = V / D) (hD : 0 < D) (h1 : V1 + q * D = V + P * c) (hV1 : V1 < P) : c = 0 ∧ V1 = V % D := by
  have h3 := Nat.div_add_mod V D
  have h5 : q * D = D * (V / D) := by rw [hq, Nat.mul_comm]
  have h6 := no_borrow h1 hV1 (by omega)
  exact ⟨h6.1, by omega⟩
end
end Go.Proofs.YtdpahahfcdldcaaDoor
