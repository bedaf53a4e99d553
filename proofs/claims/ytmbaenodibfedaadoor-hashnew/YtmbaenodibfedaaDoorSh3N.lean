/-
  The mathematics of the third hash's padding: the blocks of the padded bytes are the whole blocks, and one or two more. Over no program.
-/
import Derived.Test.YtmbaenodibfedaaDoorSh3E
namespace Go.Proofs.YtmbaenodibfedaaDoor.S3
open Go.RowKit
set_option linter.unusedVariables false

theorem blks3_append (s : S8) (xs t : List Nat) (n : Nat) (h : 128 * n ≤ xs.length) : blks3 s (xs ++ t) n = blks3 s xs n := by
  induction n with
  | zero => rfl
  | succ n ih =>
    rw [blks3, blks3, ih (by omega), List.drop_append_of_le_length (by omega), List.take_append_of_le_length (by simp; omega)]
theorem be8_length (c : Nat) : (be8 c).length = 8 := rfl
theorem cnt_length (c : Nat) : (cnt c).length = 16 := rfl
theorem pad3_length (xs : List Nat) : (pad3 xs).length = 128 * (xs.length / 128 + (if xs.length % 128 < 112 then 1 else 2)) := by
  unfold pad3 zs3
  simp only [List.length_append, List.length_cons, List.length_replicate, List.length_nil, be8_length]
  split <;> omega
/-- The numbers behind all blocks of the padded bytes. -/
def beh3 (s : S8) (xs : List Nat) : S8 := fin3 (blks3 s xs (xs.length / 128)) (xs.drop (128 * (xs.length / 128))) (8 * xs.length % 18446744073709551616)
theorem beh3_eq (s : S8) (xs : List Nat) : blks3 s (pad3 xs) ((pad3 xs).length / 128) = beh3 s xs := by
  unfold beh3
  rw [pad3_length, Nat.mul_div_cancel_left _ (by decide)]
  obtain ⟨q, hq⟩ : ∃ q, xs.length / 128 = q := ⟨_, rfl⟩
  obtain ⟨r, hr⟩ : ∃ r, xs.length % 128 = r := ⟨_, rfl⟩
  obtain ⟨c, hc⟩ : ∃ c, 8 * xs.length % 18446744073709551616 = c := ⟨_, rfl⟩
  have hn : xs.length = 128 * q + r := by omega
  have hr128 : r < 128 := by omega
  have hl : (xs.drop (128 * q)).length = r := by simp; omega
  have hz : zs3 xs.length = (239 - r) % 128 := by rw [zs3, hr]
  have hd : (pad3 xs).drop (128 * q) = xs.drop (128 * q) ++ 128 :: (Z ((239 - r) % 128) ++ cnt c) := by
    rw [pad3, List.drop_append_of_le_length (by omega), hz, hc]; rfl
  have hb : blks3 s (pad3 xs) q = blks3 s xs q := by rw [pad3]; exact blks3_append _ _ _ _ (by omega)
  rw [hq, hr, hc]
  generalize xs.drop (128 * q) = l at *
  unfold fin3
  rw [hl]
  by_cases h112 : r < 112
  · rw [if_pos h112, if_pos h112, blks3, hb, hd, show (239 - r) % 128 = 111 - r by omega]
    congr 1
    rw [List.take_of_length_le (by simp [hl, Z_length, cnt_length]; omega), lastB, hl, List.take_append, hl, List.take_of_length_le (by omega)]
    obtain ⟨j, hj⟩ : ∃ j, 112 - r = j + 1 := ⟨111 - r, by omega⟩
    rw [hj, List.take_succ_cons, Z_take, show 111 - r = j by omega, show min j (127 - r) = j by omega]
    simp
  · rw [if_neg h112, if_neg h112, blks3, blks3, hb]
    have e1 : ((pad3 xs).drop (128 * q)).take 128 = lastB l := by
      rw [hd, List.take_append, hl, List.take_of_length_le (by omega), lastB, hl]
      obtain ⟨j, hj⟩ : ∃ j, 128 - r = j + 1 := ⟨127 - r, by omega⟩
      rw [hj, List.take_succ_cons, List.take_append, Z_take, Z_length, show min j ((239 - r) % 128) = j by omega, show j - (239 - r) % 128 = 0 by omega, show 127 - r = j by omega]
      simp
    have e2 : ((pad3 xs).drop (128 * (q + 1))).take 128 = Z 112 ++ cnt c := by
      rw [show 128 * (q + 1) = 128 * q + 128 by omega, ← List.drop_drop, hd, List.drop_append, hl, List.drop_of_length_le (by omega), List.nil_append]
      obtain ⟨j, hj⟩ : ∃ j, 128 - r = j + 1 := ⟨127 - r, by omega⟩
      rw [hj, List.drop_succ_cons, List.drop_append, Z_drop, Z_length, show (239 - r) % 128 - j = 112 by omega, show j - (239 - r) % 128 = 0 by omega, List.drop_zero]
      exact List.take_of_length_le (by simp [Z_length, cnt_length])
    rw [e1, e2]
theorem sum3_eq (b : Bool) (xs : List Nat) : sum3 b xs = out3 (beh3 (start3 b) xs) := by rw [sum3, beh3_eq]
theorem beh3_ok (s : S8) (xs : List Nat) : (beh3 s xs).ok := by unfold beh3 fin3; split <;> exact blk3_ok _ _
end Go.Proofs.YtmbaenodibfedaaDoor.S3
