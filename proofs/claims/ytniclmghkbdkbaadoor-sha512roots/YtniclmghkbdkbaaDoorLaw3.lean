/-
  What the third hash's laws want besides: arrays compared, bytes as a string, the hash of one block. Conditions: as each says.
-/
import Derived.Test.YtniclmghkbdkbaaDoorSh3G
import Derived.Test.YtniclmghkbdkbaaDoorRf3T
import Derived.Test.YtniclmghkbdkbaaDoorLay3
import Derived.Test.YtniclmghkbdkbaaDoorKit8
namespace Go.Proofs.YtniclmghkbdkbaaDoor.S3
open Go.RowKit
set_option linter.unusedVariables false

theorem eq8 (w : World) (xs ys : List Nat) (hx : xs.length = 8) (hy : ys.length = 8) : (Op.equalIn 10000 31 (.agg (C .u64 xs).toArray) (.agg (C .u64 ys).toArray)).run Tryd.prog w = .ok (decide (xs = ys)) w := by
  obtain ⟨i0, hi, _⟩ := info_parts inf64
  exact run_equal_C w 9998 Tryd.underlying31 (by kernel_rfl) Tryd.underlying30 ⟨i0, hi⟩ (by kernel_rfl) xs ys hx hy
theorem str8 {w : World} {v : Value} {xs : List Nat} (h : SlV w v (C .u8 xs)) : (convert 22 9 v).run Tryd.prog w = .ok (.string (strOfNums (xs.map Int.ofNat))) w :=
  run_string_C w 22 9 5 Tryd.underlying22 Tryd.underlying5 Tryd.underlying9 v xs h
/-- Eight numbers of 64 bits. -/
theorem eight_of {xs : List Nat} (h : Lo 18446744073709551616 xs) (hl : xs.length = 8) : ∃ s : S8, s.ok ∧ xs = s.list := by
  match xs, hl, h with
  | [a, b, c, d, e, f, g, i], _, h => exact ⟨⟨a, b, c, d, e, f, g, i⟩, ⟨h a (by simp), h b (by simp), h c (by simp), h d (by simp), h e (by simp), h f (by simp), h g (by simp), h i (by simp)⟩, rfl⟩
theorem u64_of_wf {z : Int} (h : (Lit.int .u64 z).wf = true) : 0 ≤ z ∧ z < 18446744073709551616 := by
  simp [Lit.wf, IntKind.min, IntKind.max, IntKind.signed, IntKind.bits] at h
  omega
theorem arr_words64 {zs : List Int} (h : ∀ z ∈ zs, (Lit.int .u64 z).wf = true) : ∃ xs : List Nat, zs.map (Value.int .u64) = C .u64 xs ∧ xs.length = zs.length ∧ Lo 18446744073709551616 xs := by
  refine ⟨zs.map Int.toNat, C_ofInts (fun z hz => (u64_of_wf (h z hz)).1), by simp, ?_⟩
  intro x hx
  obtain ⟨z, hz, rfl⟩ := List.mem_map.1 hx
  have := u64_of_wf (h z hz); omega
theorem sum3_length (b : Bool) (xs : List Nat) : (sum3 b xs).length = 64 := out3_length _
/-- The block of one block's padding. -/
def padB : List Nat := 128 :: (Z 125 ++ [4, 0])
set_option maxRecDepth 10000 in
theorem padB_lo : Lo 256 padB := by
  intro x hx
  rcases List.mem_cons.1 hx with rfl | hx
  · decide
  · rcases List.mem_append.1 hx with hx | hx
    · exact Z_lo (by decide) _ x hx
    · simp at hx; omega
set_option maxRecDepth 10000 in
theorem padB_length : padB.length = 128 := rfl
set_option maxRecDepth 10000 in
theorem fin3_none (S : S8) : fin3 S [] 1024 = blk3 S padB := by
  have e : (lastB []).take 112 ++ cnt 1024 = padB := by decide +kernel
  unfold fin3
  rw [if_pos (by decide), e]
set_option maxRecDepth 10000 in
theorem sum3_one (b : List Nat) (h : b.length = 128) : sum3 true b = out3 (blk3 (blk3 startL b) padB) := by
  have hq : b.length / 128 = 1 := by omega
  have hd : b.drop (128 * 1) = [] := List.drop_of_length_le (by omega)
  have hc : 8 * b.length % 18446744073709551616 = 1024 := by omega
  have e1 : blks3 (start3 true) b 1 = blk3 startL b := by
    rw [blks3, blks3, Nat.mul_zero, List.drop_zero, List.take_of_length_le (Nat.le_of_eq h)]; rfl
  rw [sum3_eq, beh3, hq, hc, hd, e1, fin3_none]
set_option maxRecDepth 10000 in
theorem bPad : Tryd.prog.built 32 [(0, .int .u8 128), (126, .int .u8 4)] = some (C .u8 padB).toArray := by kernel_rfl
set_option maxRecDepth 10000 in
theorem bPad' (a : Act) : Tryd.prog.built 32 ((#[(0, Operand.const (.int .u8 128)), (126, Operand.const (.int .u8 4))].map fun (i, x) => (i, a.eval x)).toList) = some (C .u8 padB).toArray := by
  simp only [List.map_toArray, List.map_cons, List.map_nil, Act.eval]
  exact bPad
end Go.Proofs.YtniclmghkbdkbaaDoor.S3
