/-
  The mathematics of the first hash's padding: the blocks of the padded bytes are the whole blocks, and one or two more. Over no program.
-/
import Derived.Test.YtmbaenodibfedaaDoorShaE
namespace Go.Proofs.YtmbaenodibfedaaDoor.S1
set_option linter.unusedVariables false

theorem blks1_append (s : S5) (xs t : List Nat) (n : Nat) (h : 64 * n ≤ xs.length) : blks1 s (xs ++ t) n = blks1 s xs n := by
  induction n with
  | zero => rfl
  | succ n ih =>
    rw [blks1, blks1, ih (by omega), List.drop_append_of_le_length (by omega), List.take_append_of_le_length (by simp; omega)]
theorem be8_length (c : Nat) : (be8 c).length = 8 := rfl
theorem pad1_length (xs : List Nat) : (pad1 xs).length = 64 * (xs.length / 64 + (if xs.length % 64 < 56 then 1 else 2)) := by
  unfold pad1 zs1
  simp only [List.length_append, List.length_cons, List.length_replicate, be8_length]
  split <;> omega
theorem sum1_eq (xs : List Nat) : sum1 xs = out1 (fin1 (blks1 start1 xs (xs.length / 64)) (xs.drop (64 * (xs.length / 64))) (8 * xs.length % 18446744073709551616)) := by
  unfold sum1
  congr 1
  rw [pad1_length, Nat.mul_div_cancel_left _ (by decide)]
  obtain ⟨q, hq⟩ : ∃ q, xs.length / 64 = q := ⟨_, rfl⟩
  obtain ⟨r, hr⟩ : ∃ r, xs.length % 64 = r := ⟨_, rfl⟩
  obtain ⟨c, hc⟩ : ∃ c, 8 * xs.length % 18446744073709551616 = c := ⟨_, rfl⟩
  have hn : xs.length = 64 * q + r := by omega
  have hr64 : r < 64 := by omega
  have hl : (xs.drop (64 * q)).length = r := by simp; omega
  have hz : zs1 xs.length = (119 - r) % 64 := by rw [zs1, hr]
  have hd : (pad1 xs).drop (64 * q) = xs.drop (64 * q) ++ 128 :: (Z ((119 - r) % 64) ++ be8 c) := by
    rw [pad1, List.drop_append_of_le_length (by omega), hz, hc]; rfl
  have hb : blks1 start1 (pad1 xs) q = blks1 start1 xs q := by rw [pad1]; exact blks1_append _ _ _ _ (by omega)
  rw [hq, hr, hc]
  generalize xs.drop (64 * q) = l at *
  unfold fin1
  rw [hl]
  by_cases h56 : r < 56
  · rw [if_pos h56, if_pos h56, blks1, hb, hd, show (119 - r) % 64 = 55 - r by omega]
    congr 1
    rw [List.take_of_length_le (by simp [hl, Z_length, be8_length]; omega), lastB, hl, List.take_append, hl, List.take_of_length_le (by omega)]
    obtain ⟨j, hj⟩ : ∃ j, 56 - r = j + 1 := ⟨55 - r, by omega⟩
    rw [hj, List.take_succ_cons, Z_take, show 55 - r = j by omega, show min j (63 - r) = j by omega]
    simp
  · rw [if_neg h56, if_neg h56, blks1, blks1, hb]
    have e1 : ((pad1 xs).drop (64 * q)).take 64 = lastB l := by
      rw [hd, List.take_append, hl, List.take_of_length_le (by omega), lastB, hl]
      obtain ⟨j, hj⟩ : ∃ j, 64 - r = j + 1 := ⟨63 - r, by omega⟩
      rw [hj, List.take_succ_cons, List.take_append, Z_take, Z_length, show min j ((119 - r) % 64) = j by omega, show j - (119 - r) % 64 = 0 by omega, show 63 - r = j by omega]
      simp
    have e2 : ((pad1 xs).drop (64 * (q + 1))).take 64 = Z 56 ++ be8 c := by
      rw [show 64 * (q + 1) = 64 * q + 64 by omega, ← List.drop_drop, hd, List.drop_append, hl, List.drop_of_length_le (by omega), List.nil_append]
      obtain ⟨j, hj⟩ : ∃ j, 64 - r = j + 1 := ⟨63 - r, by omega⟩
      rw [hj, List.drop_succ_cons, List.drop_append, Z_drop, Z_length, show (119 - r) % 64 - j = 56 by omega, show j - (119 - r) % 64 = 0 by omega, List.drop_zero]
      exact List.take_of_length_le (by simp [Z_length, be8_length])
    rw [e1, e2]
end Go.Proofs.YtmbaenodibfedaaDoor.S1
