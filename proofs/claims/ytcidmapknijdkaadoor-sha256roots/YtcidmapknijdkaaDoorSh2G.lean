/-
  The live question of the second hash's laws, over this seat's translation. Conditions: the steps' numbers stand in the package's variable.
-/
import Derived.Test.YtcidmapknijdkaaDoorSh2F
import Derived.Lib.SlBytesConst
namespace Go.Proofs.YtcidmapknijdkaaDoor.S2
open Go.RowKit
open S1 (or_lt32 and_lt32 xor_lt32 shr_lt32 mod_lt32 wd wd_lt be be8 zs1 pad1 out4 not32)
set_option linter.unusedVariables false

theorem alive7_true (w : World) (hTab : Tab w) : Calls Tryd.prog 8 #[] w fun e w' => e = .returned (.bool true) ∧ Below w.heap.size w w' := by
  have hs : SlV (w.alloc (.cells #[.int .u8 97, .int .u8 98, .int .u8 99] 5 (3, 4))) (.slice (some ⟨w.heap.size, 0, none⟩) 3 3) (C .u8 [97, 98, 99]) := SlV_newF w (C .u8 [97, 98, 99]) 5 (3, 4) (by decide)
  have hcv := fun (w : World) (C : Array Value) (n c : Nat) => Lib.run_convert_bytes_const (P := Tryd.prog) w 22 5 C n c Tryd.underlying22 Tryd.underlying5
  have hL := (Below.more (Below.refl w.heap.size w) (Nat.le_refl _) (.cells #[.int .u8 97, .int .u8 98, .int .u8 99] 5 (3, 4))).1
  go_enter Tryd.func8, Tryd.ntmps8
  go_wp2_with fail
  refine (sum256_any _ [97, 98, 99] _ hs (by intro x hx; simp at hx; omega) (hTab.below hL)).mono ?_
  rintro _ w1 ⟨rfl, hb1⟩
  rw [sum2_abc]
  have hL1 := hL.trans (hb1.mono hL.size)
  clear hL hs hb1
  have hA := Row.new w1 26 (C .u8 (Z 32))
  have hL2 := Below.more hL1 hL1.size (.cells (C .u8 (Z 32)).toArray 26)
  have hsz := hL1.size
  go_upto_region 2 with (first | refine wpList_alloc_row rfl 26 rfl _ z32 ?_ | (refine wpList_store_R rfl 26 _ _ rfl _ (C .u8 [186, 120, 22, 191, 143, 1, 207, 234, 65, 65, 64, 222, 93, 174, 34, 35, 176, 3, 97, 163, 150, 23, 122, 156, 180, 16, 255, 97, 242, 0, 21, 173]) rfl rfl hA i32 rfl (C_allL _ _) ?_; intro w2 hA2 hg2 hz2))
  have hL3 := below_grown hL2.1 hg2 hsz hA.lt
  have c0 : w2.cell? ⟨w1.heap.size, 0, none⟩ = some (.int .u8 186) := hA2.cell 0
  have c1 : w2.cell? ⟨w1.heap.size, 1, none⟩ = some (.int .u8 120) := hA2.cell 1
  have c31 : w2.cell? ⟨w1.heap.size, 31, none⟩ = some (.int .u8 173) := hA2.cell 31
  clear hA hL1 hL2 hg2 hz2 hA2
  go_wp2_with fail
  refine (step_out 64 (Or.inr (by decide)) _).mono ?_
  rintro _ w3 ⟨rfl, rfl⟩
  go_wp2
  go_ret
  exact ⟨rfl, hL3⟩
end Go.Proofs.YtcidmapknijdkaaDoor.S2
