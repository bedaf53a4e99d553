/-
  DERIVED. GIVEN WITH THE SEED: THE PROGRAM's TIES (one call each: nine closed facts by the kernel) AND EACH ROW's TIE, after the 31st guide's Derived/Test/Toyas{Tie, Card}.lean. No idea stands in it: it is a product of the set-up. Laid BY PROGRAM, IN A SANDBOX (cutbox-door.mjs). By AI agents, Wed Nov 11 2026. No macro, syntax, notation, axiom, sorry.
-/
import Derived.Test.YtmjimilhomabfaaGreatDoorRows
import Derived.LaidByTextLater
import Derived.SevenTiedAt
import Derived.LaidSub
import Derived.LaidOnce
namespace Go.Proofs.YtmjimilhomabfaaGreatDoor
open Go
set_option maxRecDepth 100000
theorem seatTie1 : Tryz.prog.laidByTextLater [("affiant/field.prime", Rows.laid_affiant_field_prime), ("affiant/field.toInverse", Rows.laid_affiant_field_toInverse), ("affiant/field.toRoot", Rows.laid_affiant_field_toRoot), ("affiant/field.rootOfMinusOne", Rows.laid_affiant_field_rootOfMinusOne), ("affiant/edwards.d", Rows.laid_affiant_edwards_d), ("affiant/edwards.base", Rows.laid_affiant_edwards_base), ("affiant/sha256.stepNumbers", Rows.laid_affiant_sha256_stepNumbers), ("affiant/sha512.stepNumbers", Rows.laid_affiant_sha512_stepNumbers), ("affiant/scalar.order", Rows.laid_affiant_scalar_order)] [.data, .data, .data, .data, .data, .data, .data, .data, .data] true :=
  Program.laidByTextLater_by_one 56 8 81 (by kernel_rfl) (by kernel_rfl) (by kernel_rfl) (by kernel_rfl) (by kernel_rfl) (by kernel_rfl) (fun _ _ => by kernel_rfl)
theorem noOwnUnsafe : Tryz.pinned.checked.prog.headLifts.contains "ownunsafe" = false := by kernel_rfl
theorem tie : Tryz.prog.laidByTextLater [("affiant/field.prime", Rows.laid_affiant_field_prime), ("affiant/field.toInverse", Rows.laid_affiant_field_toInverse), ("affiant/field.toRoot", Rows.laid_affiant_field_toRoot), ("affiant/field.rootOfMinusOne", Rows.laid_affiant_field_rootOfMinusOne), ("affiant/edwards.d", Rows.laid_affiant_edwards_d), ("affiant/edwards.base", Rows.laid_affiant_edwards_base), ("affiant/sha256.stepNumbers", Rows.laid_affiant_sha256_stepNumbers), ("affiant/sha512.stepNumbers", Rows.laid_affiant_sha512_stepNumbers), ("affiant/scalar.order", Rows.laid_affiant_scalar_order)] [.data, .data, .data, .data, .data, .data, .data, .data, .data] true :=
  Program.laidByTextLater.sub seatTie1 ["affiant/field.prime", "affiant/field.toInverse", "affiant/field.toRoot", "affiant/field.rootOfMinusOne", "affiant/edwards.d", "affiant/edwards.base", "affiant/sha256.stepNumbers", "affiant/sha512.stepNumbers", "affiant/scalar.order"] (by kernel_rfl) (by kernel_rfl)
theorem eddsaSign_row_tie : Rows.eddsaSignRow.laidByTextAt .later Tryz.pinned [.data, .data, .data, .data, .data, .data, .data, .data, .data] true :=
  OpenClaim.laidByTextAt_later rfl rfl tie noOwnUnsafe
theorem eddsaVerify_row_tie : Rows.eddsaVerifyRow.laidByTextAt .later Tryz.pinned [.data, .data, .data, .data, .data, .data, .data, .data, .data] true :=
  OpenClaim.laidByTextAt_later rfl rfl tie noOwnUnsafe
theorem eddsaSigns_row_tie : Rows.eddsaSignsRow.laidByTextAt .later Tryz.pinned [.data, .data, .data, .data, .data, .data, .data, .data, .data] true :=
  OpenClaim.laidByTextAt_later rfl rfl tie noOwnUnsafe
theorem eddsaOne_row_tie : Rows.eddsaOneRow.laidByTextAt .later Tryz.pinned [.data, .data, .data, .data, .data, .data, .data, .data, .data] true :=
  OpenClaim.laidByTextAt_later rfl rfl tie noOwnUnsafe
theorem eddsaSignUpto_row_tie : Rows.eddsaSignUptoRow.laidByTextAt .later Tryz.pinned [.data, .data, .data, .data, .data, .data, .data, .data, .data] true :=
  OpenClaim.laidByTextAt_later rfl rfl tie noOwnUnsafe
theorem eddsaVerifyUpto_row_tie : Rows.eddsaVerifyUptoRow.laidByTextAt .later Tryz.pinned [.data, .data, .data, .data, .data, .data, .data, .data, .data] true :=
  OpenClaim.laidByTextAt_later rfl rfl tie noOwnUnsafe
theorem eddsaSignsUpto_row_tie : Rows.eddsaSignsUptoRow.laidByTextAt .later Tryz.pinned [.data, .data, .data, .data, .data, .data, .data, .data, .data] true :=
  OpenClaim.laidByTextAt_later rfl rfl tie noOwnUnsafe
theorem eddsaOneUpto_row_tie : Rows.eddsaOneUptoRow.laidByTextAt .later Tryz.pinned [.data, .data, .data, .data, .data, .data, .data, .data, .data] true :=
  OpenClaim.laidByTextAt_later rfl rfl tie noOwnUnsafe
end Go.Proofs.YtmjimilhomabfaaGreatDoor
