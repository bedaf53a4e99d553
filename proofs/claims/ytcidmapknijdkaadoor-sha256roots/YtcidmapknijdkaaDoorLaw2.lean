/-
  What the second hash's laws want besides: arrays compared, bytes as a string, the hash of one block. Conditions: as each says.
-/
import Derived.Test.YtcidmapknijdkaaDoorSh2G
import Derived.Test.YtcidmapknijdkaaDoorRf2T
import Derived.Test.YtcidmapknijdkaaDoorLay2
import Derived.Test.YtcidmapknijdkaaDoorKit8
namespace Go.Proofs.YtcidmapknijdkaaDoor.S2
open Go.RowKit
open S1 (or_lt32 and_lt32 xor_lt32 shr_lt32 mod_lt32 wd wd_lt be be8 zs1 pad1 out4 not32)
set_option linter.unusedVariables false

theorem eq8 (w : World) (xs ys : List Nat) (hx : xs.length = 8) (hy : ys.length = 8) : (Op.equalIn 10000 31 (.agg (C .u32 xs).toArray) (.agg (C .u32 ys).toArray)).run Tryd.prog w = .ok (decide (xs = ys)) w := by
  obtain ⟨i0, hi, _⟩ := info_parts inf32
  exact run_equal_C w 9998 Tryd.underlying31 (by kernel_rfl) Tryd.underlying30 ⟨i0, hi⟩ (by kernel_rfl) xs ys hx hy
theorem str8 {w : World} {v : Value} {xs : List Nat} (h : SlV w v (C .u8 xs)) : (convert 22 9 v).run Tryd.prog w = .ok (.string (strOfNums (xs.map Int.ofNat))) w :=
  run_string_C w 22 9 5 Tryd.underlying22 Tryd.underlying5 Tryd.underlying9 v xs h
/-- Eight numbers of 32 bits. -/
theorem eight_of {xs : List Nat} (h : Lo 4294967296 xs) (hl : xs.length = 8) : ∃ s : S8, s.ok ∧ xs = s.list := by
  match xs, hl, h with
  | [a, b, c, d, e, f, g, i], _, h => exact ⟨⟨a, b, c, d, e, f, g, i⟩, ⟨h a (by simp), h b (by simp), h c (by simp), h d (by simp), h e (by simp), h f (by simp), h g (by simp), h i (by simp)⟩, rfl⟩
theorem sum2_length (b : Bool) (xs : List Nat) : (sum2 b xs).length = 32 := out2_length _
/-- The block of one block's padding. -/
def padB : List Nat := 128 :: (Z 61 ++ [2, 0])
theorem padB_lo : Lo 256 padB := by
  intro x hx
  rcases List.mem_cons.1 hx with rfl | hx
  · decide
  · rcases List.mem_append.1 hx with hx | hx
    · exact Z_lo (by decide) _ x hx
    · simp at hx; omega
theorem padB_length : padB.length = 64 := rfl
theorem fin2_none (S : S8) : fin2 S [] 512 = blk2 S padB := by
  have e : (lastB []).take 56 ++ be8 512 = padB := by decide +kernel
  unfold fin2
  rw [if_pos (by decide), e]
theorem sum2_one (b : List Nat) (h : b.length = 64) : sum2 true b = out2 (blk2 (blk2 startL b) padB) := by
  have hq : b.length / 64 = 1 := by omega
  have hd : b.drop (64 * 1) = [] := List.drop_of_length_le (by omega)
  have hc : 8 * b.length % 18446744073709551616 = 512 := by omega
  have e1 : blks2 (start2 true) b 1 = blk2 startL b := by
    rw [blks2, blks2, Nat.mul_zero, List.drop_zero, List.take_of_length_le (Nat.le_of_eq h)]; rfl
  rw [sum2_eq, beh2, hq, hc, hd, e1, fin2_none]
theorem bPad : Tryd.prog.built 32 [(0, .int .u8 128), (62, .int .u8 2)] = some (C .u8 padB).toArray := by kernel_rfl
theorem bPad' (a : Act) : Tryd.prog.built 32 ((#[(0, Operand.const (.int .u8 128)), (62, Operand.const (.int .u8 2))].map fun (i, x) => (i, a.eval x)).toList) = some (C .u8 padB).toArray := by
  simp only [List.map_toArray, List.map_cons, List.map_nil, Act.eval]
  exact bPad
end Go.Proofs.YtcidmapknijdkaaDoor.S2
