/-
  NARROWER THAN 'FOR EVERY INPUT', by the rows' own cells (each row's printed sentence says how): EdwardsOn: laid · EdwardsAdd: laid · EdwardsMul: laid · EdwardsUnpack: laid · EdwardsGroup: laid · EdwardsTimes: laid · EdwardsBack: laid · EdwardsNumber: laid.
  DERIVED. THE GIVEN ROWS OF THIS SEAT. 8 by the template 'for every input the law returns true; each argument reads behind the call as it read before'; 0 by the template 'total and deterministic' (their statements: YthjlbcbkllaicaaDoorTotals.lean).
  GIVEN WITH THE SEED: the statements are not yours to turn. If you find one false, say at which input.
  Laid BY PROGRAM, IN A SANDBOX (cutbox-rows.mjs): the forced cells as the released guide's own fill.sh prints them over the translation 01db2adad4d63858… (all of the seat's roots in one cut). By AI agents, Wed Nov 11 2026. No macro, syntax, notation, axiom, sorry.
-/
import Derived.Test.YthjlbcbkllaicaaDoorChecked
import GoSem.Claim
import GoSem.ClaimJoined
import GoSem.ClaimMapViews
import Derived.JoinedTies
import Derived.KernelRfl
namespace Go.Proofs.YthjlbcbkllaicaaDoor
/- THE CELL 'sum', in the pinned program and in every row, IS THE sha256 OF THE DUMP (.gsa) THAT YthjlbcbkllaicaaDoorProg.lean LOADS. Nothing in Lean hashes anything: it is a label: what it is worth is what the hold of that sum in a sandbox is worth. -/
noncomputable def Tryd.pinned : Pinned := { name := "ythjlbcbkllaicaadoor", sum := "01db2adad4d63858d1e5809de23752e0e91296381fb5cfb10b777e98915983b8", checked := Tryd.checked }
namespace Rows
def none {H : Type} : Left H := { results := [], args := [] }

/- WHAT THE LISTED PACKAGE-LEVEL VARIABLES READ AS WHEN THE CALL BEGINS. Each datum BY PROGRAM (the guide's laid-datum.mjs) off the statement by which the dump's own 'gosem.cut.vars' lays the variable. In a bare row this is a premise. The card (YthjlbcbkllaicaaDoorCards.lean) ties it to the program's text. -/
def laid_affiant_field_prime {H : Type} : DataW H := .agg [.lit (.int .u64 18446744073709551597), .lit (.int .u64 18446744073709551615), .lit (.int .u64 18446744073709551615), .lit (.int .u64 9223372036854775807)]
def laid_affiant_edwards_d {H : Type} : DataW H := .agg [.lit (.int .u64 8496970652267935907), .lit (.int .u64 31536524315187371), .lit (.int .u64 10144147576115030168), .lit (.int .u64 5909686906226998899)]
def laid_affiant_edwards_base {H : Type} : DataW H := .agg [.agg [.lit (.int .u64 14507833142362363162), .lit (.int .u64 7578651490590762930), .lit (.int .u64 13881468655802702940), .lit (.int .u64 2407515759118799870)], .agg [.lit (.int .u64 7378697629483820632), .lit (.int .u64 7378697629483820646), .lit (.int .u64 7378697629483820646), .lit (.int .u64 7378697629483820646)]]
def laid_affiant_field_toInverse {H : Type} : DataW H := .agg [.lit (.int .u64 18446744073709551595), .lit (.int .u64 18446744073709551615), .lit (.int .u64 18446744073709551615), .lit (.int .u64 9223372036854775807)]
def laid_affiant_field_toRoot {H : Type} : DataW H := .agg [.lit (.int .u64 18446744073709551614), .lit (.int .u64 18446744073709551615), .lit (.int .u64 18446744073709551615), .lit (.int .u64 1152921504606846975)]
def laid_affiant_field_rootOfMinusOne {H : Type} : DataW H := .agg [.lit (.int .u64 14190309331451158704), .lit (.int .u64 3405592160176694392), .lit (.int .u64 3120150775007532967), .lit (.int .u64 3135389899092516619)]

/-- 'affiantlaw13.EdwardsOn': WHATEVER THE INPUT: true; the input reads as it did. -/
def edwardsOnSpec : ChangeSpec := { name := "edwardsOn", fn := fun _ => fun
  | [d] => { results := [.lit (.bool true)], args := [d] }
  | _ => none }
def edwardsOnRow : OpenClaim := { program := "ythjlbcbkllaicaadoor", sum := "01db2adad4d63858d1e5809de23752e0e91296381fb5cfb10b777e98915983b8", func := "affiant/affiantlaw13.EdwardsOn", spec := "edwardsOn", inPlace := ["math/bits.Sub64", "math/bits.Add64"], named := ["affiant/edwards.base", "affiant/edwards.d", "affiant/field.prime"], apart := false, laid := [("affiant/field.prime", laid_affiant_field_prime), ("affiant/edwards.d", laid_affiant_edwards_d), ("affiant/edwards.base", laid_affiant_edwards_base)] }
def EdwardsOnSaid : Prop := edwardsOnRow.holds Tryd.pinned (OpenSpec.ofChange edwardsOnSpec)

/-- ITS FALSE NEIGHBOUR: 'it returns false'. Refute it at one input. -/
def edwardsOnWrong : ChangeSpec := { name := "edwardsOn", fn := fun _ => fun
  | [d] => { results := [.lit (.bool false)], args := [d] }
  | _ => none }
def EdwardsOnWrongFalsely : Prop := edwardsOnRow.holds Tryd.pinned (OpenSpec.ofChange edwardsOnWrong)

/-- 'affiantlaw13.EdwardsAdd': WHATEVER THE INPUT: true; the input reads as it did. -/
def edwardsAddSpec : ChangeSpec := { name := "edwardsAdd", fn := fun _ => fun
  | [d1, d2] => { results := [.lit (.bool true)], args := [d1, d2] }
  | _ => none }
def edwardsAddRow : OpenClaim := { program := "ythjlbcbkllaicaadoor", sum := "01db2adad4d63858d1e5809de23752e0e91296381fb5cfb10b777e98915983b8", func := "affiant/affiantlaw13.EdwardsAdd", spec := "edwardsAdd", inPlace := ["math/bits.Sub64", "math/bits.Add64"], named := ["affiant/edwards.base", "affiant/edwards.d", "affiant/field.prime", "affiant/field.toInverse"], apart := false, laid := [("affiant/field.prime", laid_affiant_field_prime), ("affiant/field.toInverse", laid_affiant_field_toInverse), ("affiant/edwards.d", laid_affiant_edwards_d), ("affiant/edwards.base", laid_affiant_edwards_base)] }
def EdwardsAddSaid : Prop := edwardsAddRow.holds Tryd.pinned (OpenSpec.ofChange edwardsAddSpec)

/-- ITS FALSE NEIGHBOUR: 'it returns false'. Refute it at one input. -/
def edwardsAddWrong : ChangeSpec := { name := "edwardsAdd", fn := fun _ => fun
  | [d1, d2] => { results := [.lit (.bool false)], args := [d1, d2] }
  | _ => none }
def EdwardsAddWrongFalsely : Prop := edwardsAddRow.holds Tryd.pinned (OpenSpec.ofChange edwardsAddWrong)

/-- 'affiantlaw13.EdwardsMul': WHATEVER THE INPUT: true; the input reads as it did. -/
def edwardsMulSpec : ChangeSpec := { name := "edwardsMul", fn := fun _ => fun
  | [d1, d2] => { results := [.lit (.bool true)], args := [d1, d2] }
  | _ => none }
def edwardsMulRow : OpenClaim := { program := "ythjlbcbkllaicaadoor", sum := "01db2adad4d63858d1e5809de23752e0e91296381fb5cfb10b777e98915983b8", func := "affiant/affiantlaw13.EdwardsMul", spec := "edwardsMul", inPlace := ["math/bits.Sub64", "math/bits.Add64"], named := ["affiant/edwards.base", "affiant/edwards.d", "affiant/field.prime", "affiant/field.toInverse"], apart := false, laid := [("affiant/field.prime", laid_affiant_field_prime), ("affiant/field.toInverse", laid_affiant_field_toInverse), ("affiant/edwards.d", laid_affiant_edwards_d), ("affiant/edwards.base", laid_affiant_edwards_base)] }
def EdwardsMulSaid : Prop := edwardsMulRow.holds Tryd.pinned (OpenSpec.ofChange edwardsMulSpec)

/-- ITS FALSE NEIGHBOUR: 'it returns false'. Refute it at one input. -/
def edwardsMulWrong : ChangeSpec := { name := "edwardsMul", fn := fun _ => fun
  | [d1, d2] => { results := [.lit (.bool false)], args := [d1, d2] }
  | _ => none }
def EdwardsMulWrongFalsely : Prop := edwardsMulRow.holds Tryd.pinned (OpenSpec.ofChange edwardsMulWrong)

/-- 'affiantlaw13.EdwardsUnpack': WHATEVER THE INPUT: true; the input reads as it did. -/
def edwardsUnpackSpec : ChangeSpec := { name := "edwardsUnpack", fn := fun _ => fun
  | [d] => { results := [.lit (.bool true)], args := [d] }
  | _ => none }
def edwardsUnpackRow : OpenClaim := { program := "ythjlbcbkllaicaadoor", sum := "01db2adad4d63858d1e5809de23752e0e91296381fb5cfb10b777e98915983b8", func := "affiant/affiantlaw13.EdwardsUnpack", spec := "edwardsUnpack", inPlace := ["math/bits.Sub64", "math/bits.Add64"], named := ["affiant/field.prime", "affiant/edwards.d", "affiant/field.toInverse", "affiant/field.toRoot", "affiant/field.rootOfMinusOne", "affiant/edwards.base"], apart := false, laid := [("affiant/field.prime", laid_affiant_field_prime), ("affiant/field.toInverse", laid_affiant_field_toInverse), ("affiant/field.toRoot", laid_affiant_field_toRoot), ("affiant/field.rootOfMinusOne", laid_affiant_field_rootOfMinusOne), ("affiant/edwards.d", laid_affiant_edwards_d), ("affiant/edwards.base", laid_affiant_edwards_base)] }
def EdwardsUnpackSaid : Prop := edwardsUnpackRow.holds Tryd.pinned (OpenSpec.ofChange edwardsUnpackSpec)

/-- ITS FALSE NEIGHBOUR: 'it returns false'. Refute it at one input. -/
def edwardsUnpackWrong : ChangeSpec := { name := "edwardsUnpack", fn := fun _ => fun
  | [d] => { results := [.lit (.bool false)], args := [d] }
  | _ => none }
def EdwardsUnpackWrongFalsely : Prop := edwardsUnpackRow.holds Tryd.pinned (OpenSpec.ofChange edwardsUnpackWrong)

/-- 'affiantlaw13.EdwardsGroup': WHATEVER THE INPUT: true; the input reads as it did. -/
def edwardsGroupSpec : ChangeSpec := { name := "edwardsGroup", fn := fun _ => fun
  | [d1, d2, d3] => { results := [.lit (.bool true)], args := [d1, d2, d3] }
  | _ => none }
def edwardsGroupRow : OpenClaim := { program := "ythjlbcbkllaicaadoor", sum := "01db2adad4d63858d1e5809de23752e0e91296381fb5cfb10b777e98915983b8", func := "affiant/affiantlaw13.EdwardsGroup", spec := "edwardsGroup", inPlace := ["math/bits.Sub64", "math/bits.Add64"], named := ["affiant/edwards.d", "affiant/field.prime", "affiant/field.toInverse", "affiant/edwards.base"], apart := false, laid := [("affiant/field.prime", laid_affiant_field_prime), ("affiant/field.toInverse", laid_affiant_field_toInverse), ("affiant/edwards.d", laid_affiant_edwards_d), ("affiant/edwards.base", laid_affiant_edwards_base)] }
def EdwardsGroupSaid : Prop := edwardsGroupRow.holds Tryd.pinned (OpenSpec.ofChange edwardsGroupSpec)

/-- ITS FALSE NEIGHBOUR: 'it returns false'. Refute it at one input. -/
def edwardsGroupWrong : ChangeSpec := { name := "edwardsGroup", fn := fun _ => fun
  | [d1, d2, d3] => { results := [.lit (.bool false)], args := [d1, d2, d3] }
  | _ => none }
def EdwardsGroupWrongFalsely : Prop := edwardsGroupRow.holds Tryd.pinned (OpenSpec.ofChange edwardsGroupWrong)

/-- 'affiantlaw13.EdwardsTimes': WHATEVER THE INPUT: true; the input reads as it did. -/
def edwardsTimesSpec : ChangeSpec := { name := "edwardsTimes", fn := fun _ => fun
  | [d1, d2, d3] => { results := [.lit (.bool true)], args := [d1, d2, d3] }
  | _ => none }
def edwardsTimesRow : OpenClaim := { program := "ythjlbcbkllaicaadoor", sum := "01db2adad4d63858d1e5809de23752e0e91296381fb5cfb10b777e98915983b8", func := "affiant/affiantlaw13.EdwardsTimes", spec := "edwardsTimes", inPlace := ["math/bits.Sub64", "math/bits.Add64"], named := ["affiant/edwards.d", "affiant/field.prime", "affiant/field.toInverse", "affiant/edwards.base"], apart := false, laid := [("affiant/field.prime", laid_affiant_field_prime), ("affiant/field.toInverse", laid_affiant_field_toInverse), ("affiant/edwards.d", laid_affiant_edwards_d), ("affiant/edwards.base", laid_affiant_edwards_base)] }
def EdwardsTimesSaid : Prop := edwardsTimesRow.holds Tryd.pinned (OpenSpec.ofChange edwardsTimesSpec)

/-- ITS FALSE NEIGHBOUR: 'it returns false'. Refute it at one input. -/
def edwardsTimesWrong : ChangeSpec := { name := "edwardsTimes", fn := fun _ => fun
  | [d1, d2, d3] => { results := [.lit (.bool false)], args := [d1, d2, d3] }
  | _ => none }
def EdwardsTimesWrongFalsely : Prop := edwardsTimesRow.holds Tryd.pinned (OpenSpec.ofChange edwardsTimesWrong)

/-- 'affiantlaw13.EdwardsBack': WHATEVER THE INPUT: true; the input reads as it did. -/
def edwardsBackSpec : ChangeSpec := { name := "edwardsBack", fn := fun _ => fun
  | [d1, d2] => { results := [.lit (.bool true)], args := [d1, d2] }
  | _ => none }
def edwardsBackRow : OpenClaim := { program := "ythjlbcbkllaicaadoor", sum := "01db2adad4d63858d1e5809de23752e0e91296381fb5cfb10b777e98915983b8", func := "affiant/affiantlaw13.EdwardsBack", spec := "edwardsBack", inPlace := ["math/bits.Sub64", "math/bits.Add64"], named := ["affiant/field.prime", "affiant/edwards.d", "affiant/field.toInverse", "affiant/field.toRoot", "affiant/field.rootOfMinusOne", "affiant/edwards.base"], apart := false, laid := [("affiant/field.prime", laid_affiant_field_prime), ("affiant/field.toInverse", laid_affiant_field_toInverse), ("affiant/field.toRoot", laid_affiant_field_toRoot), ("affiant/field.rootOfMinusOne", laid_affiant_field_rootOfMinusOne), ("affiant/edwards.d", laid_affiant_edwards_d), ("affiant/edwards.base", laid_affiant_edwards_base)] }
def EdwardsBackSaid : Prop := edwardsBackRow.holds Tryd.pinned (OpenSpec.ofChange edwardsBackSpec)

/-- ITS FALSE NEIGHBOUR: 'it returns false'. Refute it at one input. -/
def edwardsBackWrong : ChangeSpec := { name := "edwardsBack", fn := fun _ => fun
  | [d1, d2] => { results := [.lit (.bool false)], args := [d1, d2] }
  | _ => none }
def EdwardsBackWrongFalsely : Prop := edwardsBackRow.holds Tryd.pinned (OpenSpec.ofChange edwardsBackWrong)

/-- 'affiantlaw13.EdwardsNumber': WHATEVER THE INPUT: true; the input reads as it did. -/
def edwardsNumberSpec : ChangeSpec := { name := "edwardsNumber", fn := fun _ => fun
  | [] => { results := [.lit (.bool true)], args := [] }
  | _ => none }
def edwardsNumberRow : OpenClaim := { program := "ythjlbcbkllaicaadoor", sum := "01db2adad4d63858d1e5809de23752e0e91296381fb5cfb10b777e98915983b8", func := "affiant/affiantlaw13.EdwardsNumber", spec := "edwardsNumber", inPlace := ["math/bits.Sub64", "math/bits.Add64"], named := ["affiant/field.prime", "affiant/edwards.base", "affiant/edwards.d"], apart := false, laid := [("affiant/field.prime", laid_affiant_field_prime), ("affiant/edwards.d", laid_affiant_edwards_d), ("affiant/edwards.base", laid_affiant_edwards_base)] }
def EdwardsNumberSaid : Prop := edwardsNumberRow.holds Tryd.pinned (OpenSpec.ofChange edwardsNumberSpec)

/-- ITS FALSE NEIGHBOUR: 'it returns false'. Refute it at one input. -/
def edwardsNumberWrong : ChangeSpec := { name := "edwardsNumber", fn := fun _ => fun
  | [] => { results := [.lit (.bool false)], args := [] }
  | _ => none }
def EdwardsNumberWrongFalsely : Prop := edwardsNumberRow.holds Tryd.pinned (OpenSpec.ofChange edwardsNumberWrong)

/- THE SECOND FORM. 'bulk': how many values and letters a reading holds, each counted each time it is reached (what is shared counts as often as it is met; a slice's spare places count too). A statement '..UptoSaid' is the law's where the arguments, and the package variables that the reading takes, are together of bulk at most 1048576: NARROWER than '..Said'. Prove '..Said' where nothing that the law and all that it calls make is longer than what came in: it says more and counts as full. Else prove '..UptoSaid'. A law counts once. -/
mutual
def uptoBulk {H : Type} : DataW H → Nat
  | .lit (.string bytes) => bytes.length + 1
  | .lit _ => 1
  | .nil => 1
  | .ptr d => uptoBulk d + 1
  | .slice elems spare => uptoBulkAll elems + uptoBulkAll spare + 1
  | .agg parts => uptoBulkAll parts + 1
  | .iface _ d => uptoBulk d + 1
  | .map entries => uptoBulkEntries entries + 1
  | .held _ => 1
def uptoBulkAll {H : Type} : List (DataW H) → Nat
  | [] => 0
  | d :: r => uptoBulk d + uptoBulkAll r
def uptoBulkEntries {H : Type} : List (Lit × DataW H) → Nat
  | [] => 0
  | x :: r => uptoBulkEntry x + uptoBulkEntries r
def uptoBulkEntry {H : Type} : Lit × DataW H → Nat
  | (.string bytes, d) => bytes.length + uptoBulk d + 1
  | (_, d) => uptoBulk d + 1
 end
def uptoSmall : (H : Type) → List (DataW H) → Bool := fun _ ds => decide (uptoBulkAll ds ≤ 1048576)
def OpenSpec.upto (s : _root_.Go.ChangeSpec) : _root_.Go.OpenSpec := { _root_.Go.OpenSpec.ofChange s with cond := some uptoSmall }

/-- 'affiantlaw13.EdwardsOn', WHERE WHAT IT READS IS OF BULK AT MOST 1048576: true; the input reads as it did. -/
def edwardsOnUptoRow : OpenClaim := { program := "ythjlbcbkllaicaadoor", sum := "01db2adad4d63858d1e5809de23752e0e91296381fb5cfb10b777e98915983b8", func := "affiant/affiantlaw13.EdwardsOn", spec := "edwardsOn", inPlace := ["math/bits.Sub64", "math/bits.Add64"], named := ["affiant/edwards.base", "affiant/edwards.d", "affiant/field.prime"], apart := false, laid := [("affiant/field.prime", laid_affiant_field_prime), ("affiant/edwards.d", laid_affiant_edwards_d), ("affiant/edwards.base", laid_affiant_edwards_base)], narrowed := true }
def EdwardsOnUptoSaid : Prop := edwardsOnUptoRow.holds Tryd.pinned (OpenSpec.upto edwardsOnSpec)

/-- 'affiantlaw13.EdwardsAdd', WHERE WHAT IT READS IS OF BULK AT MOST 1048576: true; the input reads as it did. -/
def edwardsAddUptoRow : OpenClaim := { program := "ythjlbcbkllaicaadoor", sum := "01db2adad4d63858d1e5809de23752e0e91296381fb5cfb10b777e98915983b8", func := "affiant/affiantlaw13.EdwardsAdd", spec := "edwardsAdd", inPlace := ["math/bits.Sub64", "math/bits.Add64"], named := ["affiant/edwards.base", "affiant/edwards.d", "affiant/field.prime", "affiant/field.toInverse"], apart := false, laid := [("affiant/field.prime", laid_affiant_field_prime), ("affiant/field.toInverse", laid_affiant_field_toInverse), ("affiant/edwards.d", laid_affiant_edwards_d), ("affiant/edwards.base", laid_affiant_edwards_base)], narrowed := true }
def EdwardsAddUptoSaid : Prop := edwardsAddUptoRow.holds Tryd.pinned (OpenSpec.upto edwardsAddSpec)

/-- 'affiantlaw13.EdwardsMul', WHERE WHAT IT READS IS OF BULK AT MOST 1048576: true; the input reads as it did. -/
def edwardsMulUptoRow : OpenClaim := { program := "ythjlbcbkllaicaadoor", sum := "01db2adad4d63858d1e5809de23752e0e91296381fb5cfb10b777e98915983b8", func := "affiant/affiantlaw13.EdwardsMul", spec := "edwardsMul", inPlace := ["math/bits.Sub64", "math/bits.Add64"], named := ["affiant/edwards.base", "affiant/edwards.d", "affiant/field.prime", "affiant/field.toInverse"], apart := false, laid := [("affiant/field.prime", laid_affiant_field_prime), ("affiant/field.toInverse", laid_affiant_field_toInverse), ("affiant/edwards.d", laid_affiant_edwards_d), ("affiant/edwards.base", laid_affiant_edwards_base)], narrowed := true }
def EdwardsMulUptoSaid : Prop := edwardsMulUptoRow.holds Tryd.pinned (OpenSpec.upto edwardsMulSpec)

/-- 'affiantlaw13.EdwardsUnpack', WHERE WHAT IT READS IS OF BULK AT MOST 1048576: true; the input reads as it did. -/
def edwardsUnpackUptoRow : OpenClaim := { program := "ythjlbcbkllaicaadoor", sum := "01db2adad4d63858d1e5809de23752e0e91296381fb5cfb10b777e98915983b8", func := "affiant/affiantlaw13.EdwardsUnpack", spec := "edwardsUnpack", inPlace := ["math/bits.Sub64", "math/bits.Add64"], named := ["affiant/field.prime", "affiant/edwards.d", "affiant/field.toInverse", "affiant/field.toRoot", "affiant/field.rootOfMinusOne", "affiant/edwards.base"], apart := false, laid := [("affiant/field.prime", laid_affiant_field_prime), ("affiant/field.toInverse", laid_affiant_field_toInverse), ("affiant/field.toRoot", laid_affiant_field_toRoot), ("affiant/field.rootOfMinusOne", laid_affiant_field_rootOfMinusOne), ("affiant/edwards.d", laid_affiant_edwards_d), ("affiant/edwards.base", laid_affiant_edwards_base)], narrowed := true }
def EdwardsUnpackUptoSaid : Prop := edwardsUnpackUptoRow.holds Tryd.pinned (OpenSpec.upto edwardsUnpackSpec)

/-- 'affiantlaw13.EdwardsGroup', WHERE WHAT IT READS IS OF BULK AT MOST 1048576: true; the input reads as it did. -/
def edwardsGroupUptoRow : OpenClaim := { program := "ythjlbcbkllaicaadoor", sum := "01db2adad4d63858d1e5809de23752e0e91296381fb5cfb10b777e98915983b8", func := "affiant/affiantlaw13.EdwardsGroup", spec := "edwardsGroup", inPlace := ["math/bits.Sub64", "math/bits.Add64"], named := ["affiant/edwards.d", "affiant/field.prime", "affiant/field.toInverse", "affiant/edwards.base"], apart := false, laid := [("affiant/field.prime", laid_affiant_field_prime), ("affiant/field.toInverse", laid_affiant_field_toInverse), ("affiant/edwards.d", laid_affiant_edwards_d), ("affiant/edwards.base", laid_affiant_edwards_base)], narrowed := true }
def EdwardsGroupUptoSaid : Prop := edwardsGroupUptoRow.holds Tryd.pinned (OpenSpec.upto edwardsGroupSpec)

/-- 'affiantlaw13.EdwardsTimes', WHERE WHAT IT READS IS OF BULK AT MOST 1048576: true; the input reads as it did. -/
def edwardsTimesUptoRow : OpenClaim := { program := "ythjlbcbkllaicaadoor", sum := "01db2adad4d63858d1e5809de23752e0e91296381fb5cfb10b777e98915983b8", func := "affiant/affiantlaw13.EdwardsTimes", spec := "edwardsTimes", inPlace := ["math/bits.Sub64", "math/bits.Add64"], named := ["affiant/edwards.d", "affiant/field.prime", "affiant/field.toInverse", "affiant/edwards.base"], apart := false, laid := [("affiant/field.prime", laid_affiant_field_prime), ("affiant/field.toInverse", laid_affiant_field_toInverse), ("affiant/edwards.d", laid_affiant_edwards_d), ("affiant/edwards.base", laid_affiant_edwards_base)], narrowed := true }
def EdwardsTimesUptoSaid : Prop := edwardsTimesUptoRow.holds Tryd.pinned (OpenSpec.upto edwardsTimesSpec)

/-- 'affiantlaw13.EdwardsBack', WHERE WHAT IT READS IS OF BULK AT MOST 1048576: true; the input reads as it did. -/
def edwardsBackUptoRow : OpenClaim := { program := "ythjlbcbkllaicaadoor", sum := "01db2adad4d63858d1e5809de23752e0e91296381fb5cfb10b777e98915983b8", func := "affiant/affiantlaw13.EdwardsBack", spec := "edwardsBack", inPlace := ["math/bits.Sub64", "math/bits.Add64"], named := ["affiant/field.prime", "affiant/edwards.d", "affiant/field.toInverse", "affiant/field.toRoot", "affiant/field.rootOfMinusOne", "affiant/edwards.base"], apart := false, laid := [("affiant/field.prime", laid_affiant_field_prime), ("affiant/field.toInverse", laid_affiant_field_toInverse), ("affiant/field.toRoot", laid_affiant_field_toRoot), ("affiant/field.rootOfMinusOne", laid_affiant_field_rootOfMinusOne), ("affiant/edwards.d", laid_affiant_edwards_d), ("affiant/edwards.base", laid_affiant_edwards_base)], narrowed := true }
def EdwardsBackUptoSaid : Prop := edwardsBackUptoRow.holds Tryd.pinned (OpenSpec.upto edwardsBackSpec)

/-- 'affiantlaw13.EdwardsNumber', WHERE WHAT IT READS IS OF BULK AT MOST 1048576: true; the input reads as it did. -/
def edwardsNumberUptoRow : OpenClaim := { program := "ythjlbcbkllaicaadoor", sum := "01db2adad4d63858d1e5809de23752e0e91296381fb5cfb10b777e98915983b8", func := "affiant/affiantlaw13.EdwardsNumber", spec := "edwardsNumber", inPlace := ["math/bits.Sub64", "math/bits.Add64"], named := ["affiant/field.prime", "affiant/edwards.base", "affiant/edwards.d"], apart := false, laid := [("affiant/field.prime", laid_affiant_field_prime), ("affiant/edwards.d", laid_affiant_edwards_d), ("affiant/edwards.base", laid_affiant_edwards_base)], narrowed := true }
def EdwardsNumberUptoSaid : Prop := edwardsNumberUptoRow.holds Tryd.pinned (OpenSpec.upto edwardsNumberSpec)

end Rows
end Go.Proofs.YthjlbcbkllaicaaDoor
