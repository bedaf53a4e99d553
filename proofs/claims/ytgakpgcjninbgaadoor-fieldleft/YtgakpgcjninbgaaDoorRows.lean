/-
  NARROWER THAN 'FOR EVERY INPUT', by the rows' own cells (each row's printed sentence says how): FieldSums: laid · FieldMul: laid · FieldPow: laid · FieldBytes: laid · FieldLeft: laid · FieldLaws: laid · FieldInverse: laid.
  DERIVED. THE GIVEN ROWS OF THIS SEAT. 7 by the template 'for every input the law returns true; each argument reads behind the call as it read before'; 0 by the template 'total and deterministic' (their statements: YtgakpgcjninbgaaDoorTotals.lean).
  GIVEN WITH THE SEED: the statements are not yours to turn. If you find one false, say at which input.
  Laid BY PROGRAM, IN A SANDBOX (cutbox-rows.mjs): the forced cells as the released guide's own fill.sh prints them over the translation 8a11c73ff0af4b4a… (all of the seat's roots in one cut). By AI agents, Wed Nov 11 2026. No macro, syntax, notation, axiom, sorry.
-/
import Derived.Test.YtgakpgcjninbgaaDoorChecked
import GoSem.Claim
import GoSem.ClaimJoined
import GoSem.ClaimMapViews
import Derived.JoinedTies
import Derived.KernelRfl
namespace Go.Proofs.YtgakpgcjninbgaaDoor
/- THE CELL 'sum', in the pinned program and in every row, IS THE sha256 OF THE DUMP (.gsa) THAT YtgakpgcjninbgaaDoorProg.lean LOADS. Nothing in Lean hashes anything: it is a label: what it is worth is what the hold of that sum in a sandbox is worth. -/
noncomputable def Tryd.pinned : Pinned := { name := "ytgakpgcjninbgaadoor", sum := "8a11c73ff0af4b4a0867f0ea1e00d08dc0226fd4db14f5420685357a6937775c", checked := Tryd.checked }
namespace Rows
def none {H : Type} : Left H := { results := [], args := [] }

/- WHAT THE LISTED PACKAGE-LEVEL VARIABLES READ AS WHEN THE CALL BEGINS. Each datum BY PROGRAM (the guide's laid-datum.mjs) off the statement by which the dump's own 'gosem.cut.vars' lays the variable. In a bare row this is a premise. The card (YtgakpgcjninbgaaDoorCards.lean) ties it to the program's text. -/
def laid_affiant_field_prime {H : Type} : DataW H := .agg [.lit (.int .u64 18446744073709551597), .lit (.int .u64 18446744073709551615), .lit (.int .u64 18446744073709551615), .lit (.int .u64 9223372036854775807)]
def laid_affiant_field_toRoot {H : Type} : DataW H := .agg [.lit (.int .u64 18446744073709551614), .lit (.int .u64 18446744073709551615), .lit (.int .u64 18446744073709551615), .lit (.int .u64 1152921504606846975)]
def laid_affiant_field_rootOfMinusOne {H : Type} : DataW H := .agg [.lit (.int .u64 14190309331451158704), .lit (.int .u64 3405592160176694392), .lit (.int .u64 3120150775007532967), .lit (.int .u64 3135389899092516619)]
def laid_affiant_field_toInverse {H : Type} : DataW H := .agg [.lit (.int .u64 18446744073709551595), .lit (.int .u64 18446744073709551615), .lit (.int .u64 18446744073709551615), .lit (.int .u64 9223372036854775807)]

/-- 'affiantlaw11.FieldSums': WHATEVER THE INPUT: true; the input reads as it did. -/
def fieldSumsSpec : ChangeSpec := { name := "fieldSums", fn := fun _ => fun
  | [d1, d2] => { results := [.lit (.bool true)], args := [d1, d2] }
  | _ => none }
def fieldSumsRow : OpenClaim := { program := "ytgakpgcjninbgaadoor", sum := "8a11c73ff0af4b4a0867f0ea1e00d08dc0226fd4db14f5420685357a6937775c", func := "affiant/affiantlaw11.FieldSums", spec := "fieldSums", inPlace := ["math/bits.Sub64", "math/bits.Add64"], named := ["affiant/field.toRoot", "affiant/field.rootOfMinusOne", "affiant/field.prime"], apart := false, laid := [("affiant/field.prime", laid_affiant_field_prime), ("affiant/field.toRoot", laid_affiant_field_toRoot), ("affiant/field.rootOfMinusOne", laid_affiant_field_rootOfMinusOne)] }
def FieldSumsSaid : Prop := fieldSumsRow.holds Tryd.pinned (OpenSpec.ofChange fieldSumsSpec)

/-- ITS FALSE NEIGHBOUR: 'it returns false'. Refute it at one input. -/
def fieldSumsWrong : ChangeSpec := { name := "fieldSums", fn := fun _ => fun
  | [d1, d2] => { results := [.lit (.bool false)], args := [d1, d2] }
  | _ => none }
def FieldSumsWrongFalsely : Prop := fieldSumsRow.holds Tryd.pinned (OpenSpec.ofChange fieldSumsWrong)

/-- 'affiantlaw11.FieldMul': WHATEVER THE INPUT: true; the input reads as it did. -/
def fieldMulSpec : ChangeSpec := { name := "fieldMul", fn := fun _ => fun
  | [d1, d2] => { results := [.lit (.bool true)], args := [d1, d2] }
  | _ => none }
def fieldMulRow : OpenClaim := { program := "ytgakpgcjninbgaadoor", sum := "8a11c73ff0af4b4a0867f0ea1e00d08dc0226fd4db14f5420685357a6937775c", func := "affiant/affiantlaw11.FieldMul", spec := "fieldMul", inPlace := ["math/bits.Sub64", "math/bits.Add64"], named := ["affiant/field.toRoot", "affiant/field.rootOfMinusOne", "affiant/field.prime"], apart := false, laid := [("affiant/field.prime", laid_affiant_field_prime), ("affiant/field.toRoot", laid_affiant_field_toRoot), ("affiant/field.rootOfMinusOne", laid_affiant_field_rootOfMinusOne)] }
def FieldMulSaid : Prop := fieldMulRow.holds Tryd.pinned (OpenSpec.ofChange fieldMulSpec)

/-- ITS FALSE NEIGHBOUR: 'it returns false'. Refute it at one input. -/
def fieldMulWrong : ChangeSpec := { name := "fieldMul", fn := fun _ => fun
  | [d1, d2] => { results := [.lit (.bool false)], args := [d1, d2] }
  | _ => none }
def FieldMulWrongFalsely : Prop := fieldMulRow.holds Tryd.pinned (OpenSpec.ofChange fieldMulWrong)

/-- 'affiantlaw11.FieldPow': WHATEVER THE INPUT: true; the input reads as it did. -/
def fieldPowSpec : ChangeSpec := { name := "fieldPow", fn := fun _ => fun
  | [d1, d2] => { results := [.lit (.bool true)], args := [d1, d2] }
  | _ => none }
def fieldPowRow : OpenClaim := { program := "ytgakpgcjninbgaadoor", sum := "8a11c73ff0af4b4a0867f0ea1e00d08dc0226fd4db14f5420685357a6937775c", func := "affiant/affiantlaw11.FieldPow", spec := "fieldPow", inPlace := ["math/bits.Sub64", "math/bits.Add64"], named := ["affiant/field.toRoot", "affiant/field.rootOfMinusOne", "affiant/field.prime", "affiant/field.toInverse"], apart := false, laid := [("affiant/field.prime", laid_affiant_field_prime), ("affiant/field.toInverse", laid_affiant_field_toInverse), ("affiant/field.toRoot", laid_affiant_field_toRoot), ("affiant/field.rootOfMinusOne", laid_affiant_field_rootOfMinusOne)] }
def FieldPowSaid : Prop := fieldPowRow.holds Tryd.pinned (OpenSpec.ofChange fieldPowSpec)

/-- ITS FALSE NEIGHBOUR: 'it returns false'. Refute it at one input. -/
def fieldPowWrong : ChangeSpec := { name := "fieldPow", fn := fun _ => fun
  | [d1, d2] => { results := [.lit (.bool false)], args := [d1, d2] }
  | _ => none }
def FieldPowWrongFalsely : Prop := fieldPowRow.holds Tryd.pinned (OpenSpec.ofChange fieldPowWrong)

/-- 'affiantlaw11.FieldBytes': WHATEVER THE INPUT: true; the input reads as it did. -/
def fieldBytesSpec : ChangeSpec := { name := "fieldBytes", fn := fun _ => fun
  | [d1, d2] => { results := [.lit (.bool true)], args := [d1, d2] }
  | _ => none }
def fieldBytesRow : OpenClaim := { program := "ytgakpgcjninbgaadoor", sum := "8a11c73ff0af4b4a0867f0ea1e00d08dc0226fd4db14f5420685357a6937775c", func := "affiant/affiantlaw11.FieldBytes", spec := "fieldBytes", inPlace := ["math/bits.Sub64", "math/bits.Add64"], named := ["affiant/field.prime", "affiant/field.toRoot", "affiant/field.rootOfMinusOne"], apart := false, laid := [("affiant/field.prime", laid_affiant_field_prime), ("affiant/field.toRoot", laid_affiant_field_toRoot), ("affiant/field.rootOfMinusOne", laid_affiant_field_rootOfMinusOne)] }
def FieldBytesSaid : Prop := fieldBytesRow.holds Tryd.pinned (OpenSpec.ofChange fieldBytesSpec)

/-- ITS FALSE NEIGHBOUR: 'it returns false'. Refute it at one input. -/
def fieldBytesWrong : ChangeSpec := { name := "fieldBytes", fn := fun _ => fun
  | [d1, d2] => { results := [.lit (.bool false)], args := [d1, d2] }
  | _ => none }
def FieldBytesWrongFalsely : Prop := fieldBytesRow.holds Tryd.pinned (OpenSpec.ofChange fieldBytesWrong)

/-- 'affiantlaw11.FieldLeft': WHATEVER THE INPUT: true; the input reads as it did. -/
def fieldLeftSpec : ChangeSpec := { name := "fieldLeft", fn := fun _ => fun
  | [d1, d2] => { results := [.lit (.bool true)], args := [d1, d2] }
  | _ => none }
def fieldLeftRow : OpenClaim := { program := "ytgakpgcjninbgaadoor", sum := "8a11c73ff0af4b4a0867f0ea1e00d08dc0226fd4db14f5420685357a6937775c", func := "affiant/affiantlaw11.FieldLeft", spec := "fieldLeft", inPlace := ["math/bits.Sub64", "math/bits.Add64"], unfollowed := true, recurses := true, named := ["affiant/field.toRoot", "affiant/field.rootOfMinusOne", "affiant/field.prime"], apart := false, laid := [("affiant/field.prime", laid_affiant_field_prime), ("affiant/field.toRoot", laid_affiant_field_toRoot), ("affiant/field.rootOfMinusOne", laid_affiant_field_rootOfMinusOne)] }
def FieldLeftSaid : Prop := fieldLeftRow.holds Tryd.pinned (OpenSpec.ofChange fieldLeftSpec)

/-- ITS FALSE NEIGHBOUR: 'it returns false'. Refute it at one input. -/
def fieldLeftWrong : ChangeSpec := { name := "fieldLeft", fn := fun _ => fun
  | [d1, d2] => { results := [.lit (.bool false)], args := [d1, d2] }
  | _ => none }
def FieldLeftWrongFalsely : Prop := fieldLeftRow.holds Tryd.pinned (OpenSpec.ofChange fieldLeftWrong)

/-- 'affiantlaw11.FieldLaws': WHATEVER THE INPUT: true; the input reads as it did. -/
def fieldLawsSpec : ChangeSpec := { name := "fieldLaws", fn := fun _ => fun
  | [d1, d2, d3] => { results := [.lit (.bool true)], args := [d1, d2, d3] }
  | _ => none }
def fieldLawsRow : OpenClaim := { program := "ytgakpgcjninbgaadoor", sum := "8a11c73ff0af4b4a0867f0ea1e00d08dc0226fd4db14f5420685357a6937775c", func := "affiant/affiantlaw11.FieldLaws", spec := "fieldLaws", inPlace := ["math/bits.Sub64", "math/bits.Add64"], named := ["affiant/field.prime", "affiant/field.toRoot", "affiant/field.rootOfMinusOne"], apart := false, laid := [("affiant/field.prime", laid_affiant_field_prime), ("affiant/field.toRoot", laid_affiant_field_toRoot), ("affiant/field.rootOfMinusOne", laid_affiant_field_rootOfMinusOne)] }
def FieldLawsSaid : Prop := fieldLawsRow.holds Tryd.pinned (OpenSpec.ofChange fieldLawsSpec)

/-- ITS FALSE NEIGHBOUR: 'it returns false'. Refute it at one input. -/
def fieldLawsWrong : ChangeSpec := { name := "fieldLaws", fn := fun _ => fun
  | [d1, d2, d3] => { results := [.lit (.bool false)], args := [d1, d2, d3] }
  | _ => none }
def FieldLawsWrongFalsely : Prop := fieldLawsRow.holds Tryd.pinned (OpenSpec.ofChange fieldLawsWrong)

/-- 'affiantlaw11.FieldInverse': WHATEVER THE INPUT: true; the input reads as it did. -/
def fieldInverseSpec : ChangeSpec := { name := "fieldInverse", fn := fun _ => fun
  | [d] => { results := [.lit (.bool true)], args := [d] }
  | _ => none }
def fieldInverseRow : OpenClaim := { program := "ytgakpgcjninbgaadoor", sum := "8a11c73ff0af4b4a0867f0ea1e00d08dc0226fd4db14f5420685357a6937775c", func := "affiant/affiantlaw11.FieldInverse", spec := "fieldInverse", inPlace := ["math/bits.Add64", "math/bits.Sub64"], named := ["affiant/field.toInverse", "affiant/field.prime", "affiant/field.toRoot", "affiant/field.rootOfMinusOne"], apart := false, laid := [("affiant/field.prime", laid_affiant_field_prime), ("affiant/field.toInverse", laid_affiant_field_toInverse), ("affiant/field.toRoot", laid_affiant_field_toRoot), ("affiant/field.rootOfMinusOne", laid_affiant_field_rootOfMinusOne)] }
def FieldInverseSaid : Prop := fieldInverseRow.holds Tryd.pinned (OpenSpec.ofChange fieldInverseSpec)

/-- ITS FALSE NEIGHBOUR: 'it returns false'. Refute it at one input. -/
def fieldInverseWrong : ChangeSpec := { name := "fieldInverse", fn := fun _ => fun
  | [d] => { results := [.lit (.bool false)], args := [d] }
  | _ => none }
def FieldInverseWrongFalsely : Prop := fieldInverseRow.holds Tryd.pinned (OpenSpec.ofChange fieldInverseWrong)

/- THE SECOND FORM. 'bulk': how many values and letters a reading holds, each counted each time it is reached (what is shared counts as often as it is met; a slice's spare places count too). A statement '..UptoSaid' is the law's where the arguments, and the package variables that the reading takes, are together of bulk at most 1048576: NARROWER than '..Said'. Prove '..Said' where nothing that the law and all that it calls make is longer than what came in: it says more and counts as full. Else prove '..UptoSaid'. A law counts once. -/
mutual
def uptoBulk {H : Type} : DataW H → Nat
  | .lit (.string bytes) => bytes.length + 1
  | .lit _ => 1
  | .nil => 1
  | .ptr d => uptoBulk d + 1
  | .slice elems spare => uptoBulkAll elems + uptoBulkAll spare + 1
  | .agg parts => uptoBulkAll parts + 1
  | .iface _ d => uptoBulk d + 1
  | .map entries => uptoBulkEntries entries + 1
  | .held _ => 1
def uptoBulkAll {H : Type} : List (DataW H) → Nat
  | [] => 0
  | d :: r => uptoBulk d + uptoBulkAll r
def uptoBulkEntries {H : Type} : List (Lit × DataW H) → Nat
  | [] => 0
  | x :: r => uptoBulkEntry x + uptoBulkEntries r
def uptoBulkEntry {H : Type} : Lit × DataW H → Nat
  | (.string bytes, d) => bytes.length + uptoBulk d + 1
  | (_, d) => uptoBulk d + 1
 end
def uptoSmall : (H : Type) → List (DataW H) → Bool := fun _ ds => decide (uptoBulkAll ds ≤ 1048576)
def OpenSpec.upto (s : _root_.Go.ChangeSpec) : _root_.Go.OpenSpec := { _root_.Go.OpenSpec.ofChange s with cond := some uptoSmall }

/-- 'affiantlaw11.FieldSums', WHERE WHAT IT READS IS OF BULK AT MOST 1048576: true; the input reads as it did. -/
def fieldSumsUptoRow : OpenClaim := { program := "ytgakpgcjninbgaadoor", sum := "8a11c73ff0af4b4a0867f0ea1e00d08dc0226fd4db14f5420685357a6937775c", func := "affiant/affiantlaw11.FieldSums", spec := "fieldSums", inPlace := ["math/bits.Sub64", "math/bits.Add64"], named := ["affiant/field.toRoot", "affiant/field.rootOfMinusOne", "affiant/field.prime"], apart := false, laid := [("affiant/field.prime", laid_affiant_field_prime), ("affiant/field.toRoot", laid_affiant_field_toRoot), ("affiant/field.rootOfMinusOne", laid_affiant_field_rootOfMinusOne)], narrowed := true }
def FieldSumsUptoSaid : Prop := fieldSumsUptoRow.holds Tryd.pinned (OpenSpec.upto fieldSumsSpec)

/-- 'affiantlaw11.FieldMul', WHERE WHAT IT READS IS OF BULK AT MOST 1048576: true; the input reads as it did. -/
def fieldMulUptoRow : OpenClaim := { program := "ytgakpgcjninbgaadoor", sum := "8a11c73ff0af4b4a0867f0ea1e00d08dc0226fd4db14f5420685357a6937775c", func := "affiant/affiantlaw11.FieldMul", spec := "fieldMul", inPlace := ["math/bits.Sub64", "math/bits.Add64"], named := ["affiant/field.toRoot", "affiant/field.rootOfMinusOne", "affiant/field.prime"], apart := false, laid := [("affiant/field.prime", laid_affiant_field_prime), ("affiant/field.toRoot", laid_affiant_field_toRoot), ("affiant/field.rootOfMinusOne", laid_affiant_field_rootOfMinusOne)], narrowed := true }
def FieldMulUptoSaid : Prop := fieldMulUptoRow.holds Tryd.pinned (OpenSpec.upto fieldMulSpec)

/-- 'affiantlaw11.FieldPow', WHERE WHAT IT READS IS OF BULK AT MOST 1048576: true; the input reads as it did. -/
def fieldPowUptoRow : OpenClaim := { program := "ytgakpgcjninbgaadoor", sum := "8a11c73ff0af4b4a0867f0ea1e00d08dc0226fd4db14f5420685357a6937775c", func := "affiant/affiantlaw11.FieldPow", spec := "fieldPow", inPlace := ["math/bits.Sub64", "math/bits.Add64"], named := ["affiant/field.toRoot", "affiant/field.rootOfMinusOne", "affiant/field.prime", "affiant/field.toInverse"], apart := false, laid := [("affiant/field.prime", laid_affiant_field_prime), ("affiant/field.toInverse", laid_affiant_field_toInverse), ("affiant/field.toRoot", laid_affiant_field_toRoot), ("affiant/field.rootOfMinusOne", laid_affiant_field_rootOfMinusOne)], narrowed := true }
def FieldPowUptoSaid : Prop := fieldPowUptoRow.holds Tryd.pinned (OpenSpec.upto fieldPowSpec)

/-- 'affiantlaw11.FieldBytes', WHERE WHAT IT READS IS OF BULK AT MOST 1048576: true; the input reads as it did. -/
def fieldBytesUptoRow : OpenClaim := { program := "ytgakpgcjninbgaadoor", sum := "8a11c73ff0af4b4a0867f0ea1e00d08dc0226fd4db14f5420685357a6937775c", func := "affiant/affiantlaw11.FieldBytes", spec := "fieldBytes", inPlace := ["math/bits.Sub64", "math/bits.Add64"], named := ["affiant/field.prime", "affiant/field.toRoot", "affiant/field.rootOfMinusOne"], apart := false, laid := [("affiant/field.prime", laid_affiant_field_prime), ("affiant/field.toRoot", laid_affiant_field_toRoot), ("affiant/field.rootOfMinusOne", laid_affiant_field_rootOfMinusOne)], narrowed := true }
def FieldBytesUptoSaid : Prop := fieldBytesUptoRow.holds Tryd.pinned (OpenSpec.upto fieldBytesSpec)

/-- 'affiantlaw11.FieldLeft', WHERE WHAT IT READS IS OF BULK AT MOST 1048576: true; the input reads as it did. -/
def fieldLeftUptoRow : OpenClaim := { program := "ytgakpgcjninbgaadoor", sum := "8a11c73ff0af4b4a0867f0ea1e00d08dc0226fd4db14f5420685357a6937775c", func := "affiant/affiantlaw11.FieldLeft", spec := "fieldLeft", inPlace := ["math/bits.Sub64", "math/bits.Add64"], unfollowed := true, recurses := true, named := ["affiant/field.toRoot", "affiant/field.rootOfMinusOne", "affiant/field.prime"], apart := false, laid := [("affiant/field.prime", laid_affiant_field_prime), ("affiant/field.toRoot", laid_affiant_field_toRoot), ("affiant/field.rootOfMinusOne", laid_affiant_field_rootOfMinusOne)], narrowed := true }
def FieldLeftUptoSaid : Prop := fieldLeftUptoRow.holds Tryd.pinned (OpenSpec.upto fieldLeftSpec)

/-- 'affiantlaw11.FieldLaws', WHERE WHAT IT READS IS OF BULK AT MOST 1048576: true; the input reads as it did. -/
def fieldLawsUptoRow : OpenClaim := { program := "ytgakpgcjninbgaadoor", sum := "8a11c73ff0af4b4a0867f0ea1e00d08dc0226fd4db14f5420685357a6937775c", func := "affiant/affiantlaw11.FieldLaws", spec := "fieldLaws", inPlace := ["math/bits.Sub64", "math/bits.Add64"], named := ["affiant/field.prime", "affiant/field.toRoot", "affiant/field.rootOfMinusOne"], apart := false, laid := [("affiant/field.prime", laid_affiant_field_prime), ("affiant/field.toRoot", laid_affiant_field_toRoot), ("affiant/field.rootOfMinusOne", laid_affiant_field_rootOfMinusOne)], narrowed := true }
def FieldLawsUptoSaid : Prop := fieldLawsUptoRow.holds Tryd.pinned (OpenSpec.upto fieldLawsSpec)

/-- 'affiantlaw11.FieldInverse', WHERE WHAT IT READS IS OF BULK AT MOST 1048576: true; the input reads as it did. -/
def fieldInverseUptoRow : OpenClaim := { program := "ytgakpgcjninbgaadoor", sum := "8a11c73ff0af4b4a0867f0ea1e00d08dc0226fd4db14f5420685357a6937775c", func := "affiant/affiantlaw11.FieldInverse", spec := "fieldInverse", inPlace := ["math/bits.Add64", "math/bits.Sub64"], named := ["affiant/field.toInverse", "affiant/field.prime", "affiant/field.toRoot", "affiant/field.rootOfMinusOne"], apart := false, laid := [("affiant/field.prime", laid_affiant_field_prime), ("affiant/field.toInverse", laid_affiant_field_toInverse), ("affiant/field.toRoot", laid_affiant_field_toRoot), ("affiant/field.rootOfMinusOne", laid_affiant_field_rootOfMinusOne)], narrowed := true }
def FieldInverseUptoSaid : Prop := fieldInverseUptoRow.holds Tryd.pinned (OpenSpec.upto fieldInverseSpec)

end Rows
end Go.Proofs.YtgakpgcjninbgaaDoor
