/-
  The live question is true. No condition.
-/
import Derived.Test.YtcllmkfaifalgaaDoorTxJ
import Derived.Test.YtcllmkfaifalgaaDoorTxK
namespace Go.Proofs.YtcllmkfaifalgaaDoor.T
open Go Go.RowKit
set_option linter.unusedVariables false
set_option maxRecDepth 100000

theorem lit4 : Value.string (strOfNums [97, 13, 10, 98]) = .string ⟨#[97, 13, 10, 98]⟩ := by kernel_rfl

set_option maxHeartbeats 1000000 in
theorem alive_true (w : World) :
    Calls Tryd.prog 7 #[] w fun e w' => e = .returned (.bool true) ∧ Below w.heap.size w w' := by
  have hs1 : SlV (w.alloc (.cells #[.int .u8 97, .int .u8 10, .int .u8 98] 5 (3, 4))) (.slice (some ⟨w.heap.size, 0, none⟩) 3 3) (U [97, 10, 98]) := SlV_newF w (U [97, 10, 98]) 5 (3, 4) (by rw [U_length]; show 3 ≤ maxLen; decide)
  have hcv := conv
  have e1 : canon [97, 10, 98] = [97, 13, 10, 98] := by decide
  have e2 : signed [97, 32, 13, 10, 98, 9] = [97, 13, 10, 98] := by decide
  have e3 : (lines ([] : List Int)).length = 1 := by decide
  have con1 := canon_any _ _ _ hs1 (by intro x hx; simp at hx; omega) (by decide)
  rw [e1] at con1
  have hA : Below w.heap.size w (w.alloc (.cells #[.int .u8 97, .int .u8 10, .int .u8 98] 5 (3, 4))) := (Below.refl _ w).alloc (Nat.le_refl _) _
  go_enter Tryd.func7, Tryd.ntmps7
  go_wp2_with fail
  refine con1.mono fun e w1 ⟨v1, he, ho1, hb1⟩ => ?_
  subst he
  have hB1 : Below w.heap.size w w1 := hA.trans (hb1.mono hA.size)
  have k1 : (convert 22 9 v1).run Tryd.prog w1 = .ok (.string ⟨#[97, 13, 10, 98]⟩) w1 := by rw [← lit4]; exact run_str _ (SlV.ofOwn ho1)
  have con2 := lines_any (.slice none 0 0) [] w1 (SlV.nil w1) (fun _ h => by cases h) (by decide)
  rw [e3] at con2
  clear con1 hs1 hA ho1
  go_wp2_with fail
  refine con2.mono fun e w2 ⟨v2, vs, he, ho2, hl2, hb2⟩ => ?_
  subst he
  have hB2 : Below w.heap.size w w2 := hB1.trans (hb2.mono hB1.size)
  obtain ⟨a2, c2, rfl, _, _⟩ := shp (SlV.ofOwn ho2) (n := 1) (by have := Ls.length hl2; rw [e3] at this; exact this)
  have hs3 : SlV (w2.alloc (.cells #[.int .u8 97, .int .u8 32, .int .u8 13, .int .u8 10, .int .u8 98, .int .u8 9] 5 (6, 7))) (.slice (some ⟨w2.heap.size, 0, none⟩) 6 6) (U [97, 32, 13, 10, 98, 9]) := SlV_newF w2 (U [97, 32, 13, 10, 98, 9]) 5 (6, 7) (by rw [U_length]; show 6 ≤ maxLen; decide)
  have con3 := signed_any _ _ _ hs3 (by intro x hx; simp at hx; omega) (by decide)
  rw [e2] at con3
  have hA3 : Below w.heap.size w (w2.alloc (.cells #[.int .u8 97, .int .u8 32, .int .u8 13, .int .u8 10, .int .u8 98, .int .u8 9] 5 (6, 7))) := hB2.alloc hB2.size _
  clear con2 ho2 hl2 k1 hs3
  go_wp2_with fail
  refine con3.mono fun e w3 ⟨v3, he, ho3, hb3⟩ => ?_
  subst he
  have hB3 : Below w.heap.size w w3 := hA3.trans (hb3.mono hA3.size)
  have k3 : (convert 22 9 v3).run Tryd.prog w3 = .ok (.string ⟨#[97, 13, 10, 98]⟩) w3 := by rw [← lit4]; exact run_str _ (SlV.ofOwn ho3)
  clear con3 ho3
  go_wp2
  go_ret
  exact ⟨rfl, hB3⟩
end Go.Proofs.YtcllmkfaifalgaaDoor.T
