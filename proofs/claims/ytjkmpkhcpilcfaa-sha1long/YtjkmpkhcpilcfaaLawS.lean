/-
  What the first hash's laws want besides: arrays compared, bytes as a string, the hash of one block. Conditions: as each says.
-/
import Derived.Test.YtjkmpkhcpilcfaaShaG
import Derived.Test.YtjkmpkhcpilcfaaKit8
namespace Go.Proofs.Ytjkmpkhcpilcfaa.S1
open Go.RowKit
set_option linter.unusedVariables false

theorem eq20 (w : World) (xs ys : List Nat) (hx : xs.length = 20) (hy : ys.length = 20) : (Op.equalIn 10000 24 (.agg (C .u8 xs).toArray) (.agg (C .u8 ys).toArray)).run Try.prog w = .ok (decide (xs = ys)) w := by
  obtain ⟨i0, hi, _⟩ := info_parts inf8
  exact run_equal_C w 9998 Try.underlying24 (by kernel_rfl) Try.underlying5 ⟨i0, hi⟩ (by kernel_rfl) xs ys hx hy
theorem eq5 (w : World) (xs ys : List Nat) (hx : xs.length = 5) (hy : ys.length = 5) : (Op.equalIn 10000 28 (.agg (C .u32 xs).toArray) (.agg (C .u32 ys).toArray)).run Try.prog w = .ok (decide (xs = ys)) w := by
  obtain ⟨i0, hi, _⟩ := info_parts inf32
  exact run_equal_C w 9998 Try.underlying28 (by kernel_rfl) Try.underlying27 ⟨i0, hi⟩ (by kernel_rfl) xs ys hx hy
theorem str8 {w : World} {v : Value} {xs : List Nat} (h : SlV w v (C .u8 xs)) : (convert 22 9 v).run Try.prog w = .ok (.string (strOfNums (xs.map Int.ofNat))) w :=
  run_string_C w 22 9 5 Try.underlying22 Try.underlying5 Try.underlying9 v xs h
/-- Five numbers of 32 bits. -/
theorem five_of {xs : List Nat} (h : Lo 4294967296 xs) (hl : xs.length = 5) : ∃ s : S5, s.ok ∧ xs = s.list := by
  match xs, hl, h with
  | [a, b, c, d, e], _, h => exact ⟨⟨a, b, c, d, e⟩, ⟨h a (by simp), h b (by simp), h c (by simp), h d (by simp), h e (by simp)⟩, rfl⟩
theorem sum1_length (xs : List Nat) : (sum1 xs).length = 20 := out1_length _
/-- The block of one block's padding. -/
def padB : List Nat := 128 :: (Z 61 ++ [2, 0])
theorem padB_lo : Lo 256 padB := by
  intro x hx
  rcases List.mem_cons.1 hx with rfl | hx
  · decide
  · rcases List.mem_append.1 hx with hx | hx
    · exact Z_lo (by decide) _ x hx
    · simp at hx; omega
theorem padB_length : padB.length = 64 := rfl
theorem fin1_none (S : S5) : fin1 S [] 512 = blk1 S padB := by
  have e : (lastB []).take 56 ++ be8 512 = padB := by decide +kernel
  unfold fin1
  rw [if_pos (by decide), e]
theorem sum1_one (b : List Nat) (h : b.length = 64) : sum1 b = out1 (blk1 (blk1 start1 b) padB) := by
  have hq : b.length / 64 = 1 := by omega
  have hd : b.drop (64 * 1) = [] := List.drop_of_length_le (by omega)
  have hc : 8 * b.length % 18446744073709551616 = 512 := by omega
  have e1 : blks1 start1 b 1 = blk1 start1 b := by
    rw [blks1, blks1, Nat.mul_zero, List.drop_zero, List.take_of_length_le (Nat.le_of_eq h)]
  rw [sum1_eq, hq, hc, hd, e1, fin1_none]
theorem bPad : Try.prog.built 29 [(0, .int .u8 128), (62, .int .u8 2)] = some (C .u8 padB).toArray := by kernel_rfl
theorem bPad' (a : Act) : Try.prog.built 29 ((#[(0, Operand.const (.int .u8 128)), (62, Operand.const (.int .u8 2))].map fun (i, x) => (i, a.eval x)).toList) = some (C .u8 padB).toArray := by
  simp only [List.map_toArray, List.map_cons, List.map_nil, Act.eval]
  exact bPad
end Go.Proofs.Ytjkmpkhcpilcfaa.S1
