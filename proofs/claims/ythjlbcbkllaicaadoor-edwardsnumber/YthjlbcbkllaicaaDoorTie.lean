/-
  DERIVED. GIVEN WITH THE SEED: THE PROGRAM's TIES (one call each: nine closed facts by the kernel) AND EACH ROW's TIE, after the 31st guide's Derived/Test/Toyas{Tie, Card}.lean. No idea stands in it: it is a product of the set-up. Laid BY PROGRAM, IN A SANDBOX (cutbox-door.mjs). By AI agents, Wed Nov 11 2026. No macro, syntax, notation, axiom, sorry.
-/
import Derived.Test.YthjlbcbkllaicaaDoorRows
import Derived.LaidByTextLater
import Derived.SevenTiedAt
import Derived.LaidSub
import Derived.LaidOnce
namespace Go.Proofs.YthjlbcbkllaicaaDoor
open Go
set_option maxRecDepth 100000
theorem seatTie1 : Tryd.prog.laidByTextLater [("affiant/field.prime", Rows.laid_affiant_field_prime), ("affiant/field.toInverse", Rows.laid_affiant_field_toInverse), ("affiant/field.toRoot", Rows.laid_affiant_field_toRoot), ("affiant/field.rootOfMinusOne", Rows.laid_affiant_field_rootOfMinusOne), ("affiant/edwards.d", Rows.laid_affiant_edwards_d), ("affiant/edwards.base", Rows.laid_affiant_edwards_base)] [.data, .data, .data, .data, .data, .data] true :=
  Program.laidByTextLater_by_one 41 8 9 (by kernel_rfl) (by kernel_rfl) (by kernel_rfl) (by kernel_rfl) (by kernel_rfl) (by kernel_rfl) (fun _ _ => by kernel_rfl)
theorem noOwnUnsafe : Tryd.pinned.checked.prog.headLifts.contains "ownunsafe" = false := by kernel_rfl
theorem tie : Tryd.prog.laidByTextLater [("affiant/field.prime", Rows.laid_affiant_field_prime), ("affiant/edwards.d", Rows.laid_affiant_edwards_d), ("affiant/edwards.base", Rows.laid_affiant_edwards_base)] [.data, .data, .data] true :=
  Program.laidByTextLater.sub seatTie1 ["affiant/field.prime", "affiant/edwards.d", "affiant/edwards.base"] (by kernel_rfl) (by kernel_rfl)
theorem edwardsOn_row_tie : Rows.edwardsOnRow.laidByTextAt .later Tryd.pinned [.data, .data, .data] true :=
  OpenClaim.laidByTextAt_later rfl rfl tie noOwnUnsafe
theorem edwardsNumber_row_tie : Rows.edwardsNumberRow.laidByTextAt .later Tryd.pinned [.data, .data, .data] true :=
  OpenClaim.laidByTextAt_later rfl rfl tie noOwnUnsafe
theorem tie2 : Tryd.prog.laidByTextLater [("affiant/field.prime", Rows.laid_affiant_field_prime), ("affiant/field.toInverse", Rows.laid_affiant_field_toInverse), ("affiant/edwards.d", Rows.laid_affiant_edwards_d), ("affiant/edwards.base", Rows.laid_affiant_edwards_base)] [.data, .data, .data, .data] true :=
  Program.laidByTextLater.sub seatTie1 ["affiant/field.prime", "affiant/field.toInverse", "affiant/edwards.d", "affiant/edwards.base"] (by kernel_rfl) (by kernel_rfl)
theorem edwardsAdd_row_tie : Rows.edwardsAddRow.laidByTextAt .later Tryd.pinned [.data, .data, .data, .data] true :=
  OpenClaim.laidByTextAt_later rfl rfl tie2 noOwnUnsafe
theorem edwardsMul_row_tie : Rows.edwardsMulRow.laidByTextAt .later Tryd.pinned [.data, .data, .data, .data] true :=
  OpenClaim.laidByTextAt_later rfl rfl tie2 noOwnUnsafe
theorem edwardsGroup_row_tie : Rows.edwardsGroupRow.laidByTextAt .later Tryd.pinned [.data, .data, .data, .data] true :=
  OpenClaim.laidByTextAt_later rfl rfl tie2 noOwnUnsafe
theorem edwardsTimes_row_tie : Rows.edwardsTimesRow.laidByTextAt .later Tryd.pinned [.data, .data, .data, .data] true :=
  OpenClaim.laidByTextAt_later rfl rfl tie2 noOwnUnsafe
theorem tie3 : Tryd.prog.laidByTextLater [("affiant/field.prime", Rows.laid_affiant_field_prime), ("affiant/field.toInverse", Rows.laid_affiant_field_toInverse), ("affiant/field.toRoot", Rows.laid_affiant_field_toRoot), ("affiant/field.rootOfMinusOne", Rows.laid_affiant_field_rootOfMinusOne), ("affiant/edwards.d", Rows.laid_affiant_edwards_d), ("affiant/edwards.base", Rows.laid_affiant_edwards_base)] [.data, .data, .data, .data, .data, .data] true :=
  Program.laidByTextLater.sub seatTie1 ["affiant/field.prime", "affiant/field.toInverse", "affiant/field.toRoot", "affiant/field.rootOfMinusOne", "affiant/edwards.d", "affiant/edwards.base"] (by kernel_rfl) (by kernel_rfl)
theorem edwardsUnpack_row_tie : Rows.edwardsUnpackRow.laidByTextAt .later Tryd.pinned [.data, .data, .data, .data, .data, .data] true :=
  OpenClaim.laidByTextAt_later rfl rfl tie3 noOwnUnsafe
theorem edwardsBack_row_tie : Rows.edwardsBackRow.laidByTextAt .later Tryd.pinned [.data, .data, .data, .data, .data, .data] true :=
  OpenClaim.laidByTextAt_later rfl rfl tie3 noOwnUnsafe
theorem edwardsOnUpto_row_tie : Rows.edwardsOnUptoRow.laidByTextAt .later Tryd.pinned [.data, .data, .data] true :=
  OpenClaim.laidByTextAt_later rfl rfl tie noOwnUnsafe
theorem edwardsAddUpto_row_tie : Rows.edwardsAddUptoRow.laidByTextAt .later Tryd.pinned [.data, .data, .data, .data] true :=
  OpenClaim.laidByTextAt_later rfl rfl tie2 noOwnUnsafe
theorem edwardsMulUpto_row_tie : Rows.edwardsMulUptoRow.laidByTextAt .later Tryd.pinned [.data, .data, .data, .data] true :=
  OpenClaim.laidByTextAt_later rfl rfl tie2 noOwnUnsafe
theorem edwardsUnpackUpto_row_tie : Rows.edwardsUnpackUptoRow.laidByTextAt .later Tryd.pinned [.data, .data, .data, .data, .data, .data] true :=
  OpenClaim.laidByTextAt_later rfl rfl tie3 noOwnUnsafe
theorem edwardsGroupUpto_row_tie : Rows.edwardsGroupUptoRow.laidByTextAt .later Tryd.pinned [.data, .data, .data, .data] true :=
  OpenClaim.laidByTextAt_later rfl rfl tie2 noOwnUnsafe
theorem edwardsTimesUpto_row_tie : Rows.edwardsTimesUptoRow.laidByTextAt .later Tryd.pinned [.data, .data, .data, .data] true :=
  OpenClaim.laidByTextAt_later rfl rfl tie2 noOwnUnsafe
theorem edwardsBackUpto_row_tie : Rows.edwardsBackUptoRow.laidByTextAt .later Tryd.pinned [.data, .data, .data, .data, .data, .data] true :=
  OpenClaim.laidByTextAt_later rfl rfl tie3 noOwnUnsafe
theorem edwardsNumberUpto_row_tie : Rows.edwardsNumberUptoRow.laidByTextAt .later Tryd.pinned [.data, .data, .data] true :=
  OpenClaim.laidByTextAt_later rfl rfl tie noOwnUnsafe
end Go.Proofs.YthjlbcbkllaicaaDoor
