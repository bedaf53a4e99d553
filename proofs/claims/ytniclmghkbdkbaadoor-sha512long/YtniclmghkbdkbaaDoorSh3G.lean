/-
  The live question of the third hash's laws, over this seat's translation. Conditions: the steps' numbers stand in the package's variable.
-/
import Derived.Test.YtniclmghkbdkbaaDoorSh3F
import Derived.Lib.SlBytesConst
namespace Go.Proofs.YtniclmghkbdkbaaDoor.S3
open Go.RowKit
set_option linter.unusedVariables false

set_option maxRecDepth 10000 in
theorem alive8_true (w : World) (hTab : Tab w) : Calls Tryd.prog 8 #[] w fun e w' => e = .returned (.bool true) ∧ Below w.heap.size w w' := by
  have hs : SlV (w.alloc (.cells #[.int .u8 97, .int .u8 98, .int .u8 99] 5 (3, 4))) (.slice (some ⟨w.heap.size, 0, none⟩) 3 3) (C .u8 [97, 98, 99]) := SlV_newF w (C .u8 [97, 98, 99]) 5 (3, 4) (by decide)
  have hcv := fun (w : World) (C : Array Value) (n c : Nat) => Lib.run_convert_bytes_const (P := Tryd.prog) w 22 5 C n c Tryd.underlying22 Tryd.underlying5
  have hL := (Below.more (Below.refl w.heap.size w) (Nat.le_refl _) (.cells #[.int .u8 97, .int .u8 98, .int .u8 99] 5 (3, 4))).1
  go_enter Tryd.func8, Tryd.ntmps8
  go_wp2_with fail
  refine (sum512_any _ [97, 98, 99] _ hs (by intro x hx; simp at hx; omega) (by decide) (hTab.below hL)).mono ?_
  rintro _ w1 ⟨rfl, hb1⟩
  rw [sum3_abc]
  have hL1 := hL.trans (hb1.mono hL.size)
  clear hL hs hb1
  have hA := Row.new w1 26 (C .u8 (Z 64))
  have hL2 := Below.more hL1 hL1.size (.cells (C .u8 (Z 64)).toArray 26)
  have hsz := hL1.size
  go_upto_region 2 with (first | refine wpList_alloc_row rfl 26 rfl _ z64 ?_ | (refine wpList_store_R rfl 26 _ _ rfl _ (C .u8 [221, 175, 53, 161, 147, 97, 122, 186, 204, 65, 115, 73, 174, 32, 65, 49, 18, 230, 250, 78, 137, 169, 126, 162, 10, 158, 238, 230, 75, 85, 211, 154, 33, 146, 153, 42, 39, 79, 193, 168, 54, 186, 60, 35, 163, 254, 235, 189, 69, 77, 68, 35, 100, 60, 232, 14, 42, 154, 201, 79, 165, 76, 164, 159]) rfl rfl hA i64 rfl (C_allL _ _) ?_; intro w2 hA2 hg2 hz2))
  have hL3 := below_grown hL2.1 hg2 hsz hA.lt
  have c0 : w2.cell? ⟨w1.heap.size, 0, none⟩ = some (.int .u8 221) := hA2.cell 0
  have c1 : w2.cell? ⟨w1.heap.size, 1, none⟩ = some (.int .u8 175) := hA2.cell 1
  have c2 : w2.cell? ⟨w1.heap.size, 2, none⟩ = some (.int .u8 53) := hA2.cell 2
  clear hA hL1 hL2 hg2 hz2 hA2
  go_wp2_with fail
  refine (step_out 80 (Or.inr (by decide)) _).mono ?_
  rintro _ w3 ⟨rfl, rfl⟩
  go_wp2
  go_ret
  exact ⟨rfl, hL3⟩
end Go.Proofs.YtniclmghkbdkbaaDoor.S3
