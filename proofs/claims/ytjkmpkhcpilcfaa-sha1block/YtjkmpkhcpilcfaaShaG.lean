/-
  The live question of the first hash's laws, over this seat's translation. No conditions.
-/
import Derived.Test.YtjkmpkhcpilcfaaShaF
import Derived.Lib.SlBytesConst
namespace Go.Proofs.Ytjkmpkhcpilcfaa.S1
open Go.RowKit
set_option linter.unusedVariables false

theorem alive6_true (w : World) : Calls Try.prog 7 #[] w fun e w' => e = .returned (.bool true) ∧ Below w.heap.size w w' := by
  have hs : SlV (w.alloc (.cells #[.int .u8 97, .int .u8 98, .int .u8 99] 5 (3, 4))) (.slice (some ⟨w.heap.size, 0, none⟩) 3 3) (C .u8 [97, 98, 99]) := SlV_newF w (C .u8 [97, 98, 99]) 5 (3, 4) (by decide)
  have hcv := fun (w : World) (C : Array Value) (n c : Nat) => Lib.run_convert_bytes_const (P := Try.prog) w 22 5 C n c Try.underlying22 Try.underlying5
  have hL := (Below.more (Below.refl w.heap.size w) (Nat.le_refl _) (.cells #[.int .u8 97, .int .u8 98, .int .u8 99] 5 (3, 4))).1
  go_enter Try.func7, Try.ntmps7
  go_wp2_with fail
  refine (sum_any _ [97, 98, 99] _ hs (by intro x hx; simp at hx; omega)).mono ?_
  rintro _ w1 ⟨rfl, hb1⟩
  rw [sum1_abc]
  have hL1 := hL.trans (hb1.mono hL.size)
  clear hL hs hb1
  have hA := Row.new w1 24 (C .u8 (Z 20))
  have hL2 := Below.more hL1 hL1.size (.cells (C .u8 (Z 20)).toArray 24)
  have hsz := hL1.size
  go_upto_region 2 with (first | refine wpList_alloc_row rfl 24 rfl _ z20 ?_ | (refine wpList_store_R rfl 24 _ _ rfl _ (C .u8 [0xa9, 0x99, 0x3e, 0x36, 0x47, 0x06, 0x81, 0x6a, 0xba, 0x3e, 0x25, 0x71, 0x78, 0x50, 0xc2, 0x6c, 0x9c, 0xd0, 0xd8, 0x9d]) rfl rfl hA i20 rfl (C_allL _ _) ?_; intro w2 hA2 hg2 hz2))
  have hL3 := below_grown hL2.1 hg2 hsz hA.lt
  have c0 : w2.cell? ⟨w1.heap.size, 0, none⟩ = some (.int .u8 169) := hA2.cell 0
  have c1 : w2.cell? ⟨w1.heap.size, 1, none⟩ = some (.int .u8 153) := hA2.cell 1
  have c19 : w2.cell? ⟨w1.heap.size, 19, none⟩ = some (.int .u8 157) := hA2.cell 19
  clear hA hL1 hL2 hg2 hz2 hA2
  go_wp2_with fail
  refine (start_any _).mono ?_
  rintro _ w3 ⟨rfl, hb3⟩
  have hL4 := hL3.trans (hb3.mono hL3.size)
  have hix : ∀ w, (Instr.index 28 (.agg (C .u32 start1.list).toArray) (.int .i64 0)).run Try.prog w = .ok (.int .u32 1732584193) w := fun _ => by kernel_rfl
  go_wp2
  go_ret
  exact ⟨rfl, hL4⟩
end Go.Proofs.Ytjkmpkhcpilcfaa.S1
