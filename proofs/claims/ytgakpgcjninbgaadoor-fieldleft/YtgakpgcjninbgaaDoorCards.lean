/-
  DERIVED. GIVEN WITH THE SEED: THE CARDS: each row of YtgakpgcjninbgaaDoorRows.lean that lists a variable, with what it lists TIED to the program's text (the seventh form; the later family's looks); each row that meets fmt, with fmt's text TOLD by the authors' own Lean function (tested against real Go, not proved from fmt's source: count such statements apart). THE CARD IS WHAT COUNTS. Prove the row's statement (the work); the ties are given (YtgakpgcjninbgaaDoorTie.lean); close each card by the builder's one call (the guide's Derived/Test/ToyasCard.lean, 'card_holds'). Laid BY PROGRAM, IN A SANDBOX (cutbox-door.mjs). By AI agents, Wed Nov 11 2026. No macro, syntax, notation, axiom, sorry.
-/
import Derived.Test.YtgakpgcjninbgaaDoorRows
import GoSem.ClaimSeven
namespace Go.Proofs.YtgakpgcjninbgaaDoor
namespace Rows

/-- THE TIED CARD OF 'affiantlaw11.FieldSums'. -/
def fieldSumsCard : Claim7 := { stood := { row := fieldSumsRow, standIns := [], harness := (true, "15914531b4b6fb3f3d60b7b50461ce0ba9c53d0e9a41c1244df8851fa1204d2c"), looks := false }, kinds := [], alts := [], laidByText := true, laidKinds := [.data, .data, .data], laidTests := true, laidLooks := .later }
def FieldSumsCardSaid : Prop := Claim7.holds Tryd.pinned (.plain (OpenSpec.ofChange fieldSumsSpec)) fieldSumsCard

/-- THE TIED CARD OF 'affiantlaw11.FieldMul'. -/
def fieldMulCard : Claim7 := { stood := { row := fieldMulRow, standIns := [], harness := (true, "15914531b4b6fb3f3d60b7b50461ce0ba9c53d0e9a41c1244df8851fa1204d2c"), looks := false }, kinds := [], alts := [], laidByText := true, laidKinds := [.data, .data, .data], laidTests := true, laidLooks := .later }
def FieldMulCardSaid : Prop := Claim7.holds Tryd.pinned (.plain (OpenSpec.ofChange fieldMulSpec)) fieldMulCard

/-- THE TIED CARD OF 'affiantlaw11.FieldPow'. -/
def fieldPowCard : Claim7 := { stood := { row := fieldPowRow, standIns := [], harness := (true, "15914531b4b6fb3f3d60b7b50461ce0ba9c53d0e9a41c1244df8851fa1204d2c"), looks := false }, kinds := [], alts := [], laidByText := true, laidKinds := [.data, .data, .data, .data], laidTests := true, laidLooks := .later }
def FieldPowCardSaid : Prop := Claim7.holds Tryd.pinned (.plain (OpenSpec.ofChange fieldPowSpec)) fieldPowCard

/-- THE TIED CARD OF 'affiantlaw11.FieldBytes'. -/
def fieldBytesCard : Claim7 := { stood := { row := fieldBytesRow, standIns := [], harness := (true, "15914531b4b6fb3f3d60b7b50461ce0ba9c53d0e9a41c1244df8851fa1204d2c"), looks := false }, kinds := [], alts := [], laidByText := true, laidKinds := [.data, .data, .data], laidTests := true, laidLooks := .later }
def FieldBytesCardSaid : Prop := Claim7.holds Tryd.pinned (.plain (OpenSpec.ofChange fieldBytesSpec)) fieldBytesCard

/-- THE TIED CARD OF 'affiantlaw11.FieldLeft'. -/
def fieldLeftCard : Claim7 := { stood := { row := fieldLeftRow, standIns := [], harness := (true, "15914531b4b6fb3f3d60b7b50461ce0ba9c53d0e9a41c1244df8851fa1204d2c"), looks := false }, kinds := [], alts := [], laidByText := true, laidKinds := [.data, .data, .data], laidTests := true, laidLooks := .later }
def FieldLeftCardSaid : Prop := Claim7.holds Tryd.pinned (.plain (OpenSpec.ofChange fieldLeftSpec)) fieldLeftCard

/-- THE TIED CARD OF 'affiantlaw11.FieldLaws'. -/
def fieldLawsCard : Claim7 := { stood := { row := fieldLawsRow, standIns := [], harness := (true, "15914531b4b6fb3f3d60b7b50461ce0ba9c53d0e9a41c1244df8851fa1204d2c"), looks := false }, kinds := [], alts := [], laidByText := true, laidKinds := [.data, .data, .data], laidTests := true, laidLooks := .later }
def FieldLawsCardSaid : Prop := Claim7.holds Tryd.pinned (.plain (OpenSpec.ofChange fieldLawsSpec)) fieldLawsCard

/-- THE TIED CARD OF 'affiantlaw11.FieldInverse'. -/
def fieldInverseCard : Claim7 := { stood := { row := fieldInverseRow, standIns := [], harness := (true, "15914531b4b6fb3f3d60b7b50461ce0ba9c53d0e9a41c1244df8851fa1204d2c"), looks := false }, kinds := [], alts := [], laidByText := true, laidKinds := [.data, .data, .data, .data], laidTests := true, laidLooks := .later }
def FieldInverseCardSaid : Prop := Claim7.holds Tryd.pinned (.plain (OpenSpec.ofChange fieldInverseSpec)) fieldInverseCard

/-- THE SECOND FORM's CARD OF 'affiantlaw11.FieldSums'. -/
def fieldSumsUptoCard : Claim7 := { stood := { row := fieldSumsUptoRow, standIns := [], harness := (true, "15914531b4b6fb3f3d60b7b50461ce0ba9c53d0e9a41c1244df8851fa1204d2c"), looks := false }, kinds := [], alts := [], laidByText := true, laidKinds := [.data, .data, .data], laidTests := true, laidLooks := .later }
def FieldSumsUptoCardSaid : Prop := Claim7.holds Tryd.pinned (.plain (OpenSpec.upto fieldSumsSpec)) fieldSumsUptoCard

/-- THE SECOND FORM's CARD OF 'affiantlaw11.FieldMul'. -/
def fieldMulUptoCard : Claim7 := { stood := { row := fieldMulUptoRow, standIns := [], harness := (true, "15914531b4b6fb3f3d60b7b50461ce0ba9c53d0e9a41c1244df8851fa1204d2c"), looks := false }, kinds := [], alts := [], laidByText := true, laidKinds := [.data, .data, .data], laidTests := true, laidLooks := .later }
def FieldMulUptoCardSaid : Prop := Claim7.holds Tryd.pinned (.plain (OpenSpec.upto fieldMulSpec)) fieldMulUptoCard

/-- THE SECOND FORM's CARD OF 'affiantlaw11.FieldPow'. -/
def fieldPowUptoCard : Claim7 := { stood := { row := fieldPowUptoRow, standIns := [], harness := (true, "15914531b4b6fb3f3d60b7b50461ce0ba9c53d0e9a41c1244df8851fa1204d2c"), looks := false }, kinds := [], alts := [], laidByText := true, laidKinds := [.data, .data, .data, .data], laidTests := true, laidLooks := .later }
def FieldPowUptoCardSaid : Prop := Claim7.holds Tryd.pinned (.plain (OpenSpec.upto fieldPowSpec)) fieldPowUptoCard

/-- THE SECOND FORM's CARD OF 'affiantlaw11.FieldBytes'. -/
def fieldBytesUptoCard : Claim7 := { stood := { row := fieldBytesUptoRow, standIns := [], harness := (true, "15914531b4b6fb3f3d60b7b50461ce0ba9c53d0e9a41c1244df8851fa1204d2c"), looks := false }, kinds := [], alts := [], laidByText := true, laidKinds := [.data, .data, .data], laidTests := true, laidLooks := .later }
def FieldBytesUptoCardSaid : Prop := Claim7.holds Tryd.pinned (.plain (OpenSpec.upto fieldBytesSpec)) fieldBytesUptoCard

/-- THE SECOND FORM's CARD OF 'affiantlaw11.FieldLeft'. -/
def fieldLeftUptoCard : Claim7 := { stood := { row := fieldLeftUptoRow, standIns := [], harness := (true, "15914531b4b6fb3f3d60b7b50461ce0ba9c53d0e9a41c1244df8851fa1204d2c"), looks := false }, kinds := [], alts := [], laidByText := true, laidKinds := [.data, .data, .data], laidTests := true, laidLooks := .later }
def FieldLeftUptoCardSaid : Prop := Claim7.holds Tryd.pinned (.plain (OpenSpec.upto fieldLeftSpec)) fieldLeftUptoCard

/-- THE SECOND FORM's CARD OF 'affiantlaw11.FieldLaws'. -/
def fieldLawsUptoCard : Claim7 := { stood := { row := fieldLawsUptoRow, standIns := [], harness := (true, "15914531b4b6fb3f3d60b7b50461ce0ba9c53d0e9a41c1244df8851fa1204d2c"), looks := false }, kinds := [], alts := [], laidByText := true, laidKinds := [.data, .data, .data], laidTests := true, laidLooks := .later }
def FieldLawsUptoCardSaid : Prop := Claim7.holds Tryd.pinned (.plain (OpenSpec.upto fieldLawsSpec)) fieldLawsUptoCard

/-- THE SECOND FORM's CARD OF 'affiantlaw11.FieldInverse'. -/
def fieldInverseUptoCard : Claim7 := { stood := { row := fieldInverseUptoRow, standIns := [], harness := (true, "15914531b4b6fb3f3d60b7b50461ce0ba9c53d0e9a41c1244df8851fa1204d2c"), looks := false }, kinds := [], alts := [], laidByText := true, laidKinds := [.data, .data, .data, .data], laidTests := true, laidLooks := .later }
def FieldInverseUptoCardSaid : Prop := Claim7.holds Tryd.pinned (.plain (OpenSpec.upto fieldInverseSpec)) fieldInverseUptoCard
end Rows
end Go.Proofs.YtgakpgcjninbgaaDoor
