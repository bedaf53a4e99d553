/-
  DERIVED. GIVEN WITH THE SEED: THE CARDS: each row of YtniclmghkbdkbaaDoorRows.lean that lists a variable, with what it lists TIED to the program's text (the seventh form; the later family's looks); each row that meets fmt, with fmt's text TOLD by the authors' own Lean function (tested against real Go, not proved from fmt's source: count such statements apart). THE CARD IS WHAT COUNTS. Prove the row's statement (the work); the ties are given (YtniclmghkbdkbaaDoorTie.lean); close each card by the builder's one call (the guide's Derived/Test/ToyasCard.lean, 'card_holds'). Laid BY PROGRAM, IN A SANDBOX (cutbox-door.mjs). By AI agents, Wed Nov 11 2026. No macro, syntax, notation, axiom, sorry.
-/
import Derived.Test.YtniclmghkbdkbaaDoorRows
import GoSem.ClaimSeven
namespace Go.Proofs.YtniclmghkbdkbaaDoor
namespace Rows

/-- THE TIED CARD OF 'affiantlaw08.Sha512Sum'. -/
def sha512SumCard : Claim7 := { stood := { row := sha512SumRow, standIns := [], harness := (true, "811edfb1be13716fa3f6f04c4fb46979b36beed6323c6561f9e0df8f7ac8aa31"), looks := false }, kinds := [], alts := [], laidByText := true, laidKinds := [.data], laidTests := true, laidLooks := .later }
def Sha512SumCardSaid : Prop := Claim7.holds Tryd.pinned (.plain (OpenSpec.ofChange sha512SumSpec)) sha512SumCard

/-- THE TIED CARD OF 'affiantlaw08.Sha512Block'. -/
def sha512BlockCard : Claim7 := { stood := { row := sha512BlockRow, standIns := [], harness := (true, "811edfb1be13716fa3f6f04c4fb46979b36beed6323c6561f9e0df8f7ac8aa31"), looks := false }, kinds := [], alts := [], laidByText := true, laidKinds := [.data], laidTests := true, laidLooks := .later }
def Sha512BlockCardSaid : Prop := Claim7.holds Tryd.pinned (.plain (OpenSpec.ofChange sha512BlockSpec)) sha512BlockCard

/-- THE TIED CARD OF 'affiantlaw08.Sha512Blocks'. -/
def sha512BlocksCard : Claim7 := { stood := { row := sha512BlocksRow, standIns := [], harness := (true, "811edfb1be13716fa3f6f04c4fb46979b36beed6323c6561f9e0df8f7ac8aa31"), looks := false }, kinds := [], alts := [], laidByText := true, laidKinds := [.data], laidTests := true, laidLooks := .later }
def Sha512BlocksCardSaid : Prop := Claim7.holds Tryd.pinned (.plain (OpenSpec.ofChange sha512BlocksSpec)) sha512BlocksCard

/-- THE TIED CARD OF 'affiantlaw08.Sha512Long'. -/
def sha512LongCard : Claim7 := { stood := { row := sha512LongRow, standIns := [], harness := (true, "811edfb1be13716fa3f6f04c4fb46979b36beed6323c6561f9e0df8f7ac8aa31"), looks := false }, kinds := [], alts := [], laidByText := true, laidKinds := [.data], laidTests := true, laidLooks := .later }
def Sha512LongCardSaid : Prop := Claim7.holds Tryd.pinned (.plain (OpenSpec.ofChange sha512LongSpec)) sha512LongCard

/-- THE TIED CARD OF 'affiantlaw08.Sha512Roots'. -/
def sha512RootsCard : Claim7 := { stood := { row := sha512RootsRow, standIns := [], harness := (true, "811edfb1be13716fa3f6f04c4fb46979b36beed6323c6561f9e0df8f7ac8aa31"), looks := false }, kinds := [], alts := [], laidByText := true, laidKinds := [.data], laidTests := true, laidLooks := .later }
def Sha512RootsCardSaid : Prop := Claim7.holds Tryd.pinned (.plain (OpenSpec.ofChange sha512RootsSpec)) sha512RootsCard

/-- THE SECOND FORM's CARD OF 'affiantlaw08.Sha512Sum'. -/
def sha512SumUptoCard : Claim7 := { stood := { row := sha512SumUptoRow, standIns := [], harness := (true, "811edfb1be13716fa3f6f04c4fb46979b36beed6323c6561f9e0df8f7ac8aa31"), looks := false }, kinds := [], alts := [], laidByText := true, laidKinds := [.data], laidTests := true, laidLooks := .later }
def Sha512SumUptoCardSaid : Prop := Claim7.holds Tryd.pinned (.plain (OpenSpec.upto sha512SumSpec)) sha512SumUptoCard

/-- THE SECOND FORM's CARD OF 'affiantlaw08.Sha512Block'. -/
def sha512BlockUptoCard : Claim7 := { stood := { row := sha512BlockUptoRow, standIns := [], harness := (true, "811edfb1be13716fa3f6f04c4fb46979b36beed6323c6561f9e0df8f7ac8aa31"), looks := false }, kinds := [], alts := [], laidByText := true, laidKinds := [.data], laidTests := true, laidLooks := .later }
def Sha512BlockUptoCardSaid : Prop := Claim7.holds Tryd.pinned (.plain (OpenSpec.upto sha512BlockSpec)) sha512BlockUptoCard

/-- THE SECOND FORM's CARD OF 'affiantlaw08.Sha512Blocks'. -/
def sha512BlocksUptoCard : Claim7 := { stood := { row := sha512BlocksUptoRow, standIns := [], harness := (true, "811edfb1be13716fa3f6f04c4fb46979b36beed6323c6561f9e0df8f7ac8aa31"), looks := false }, kinds := [], alts := [], laidByText := true, laidKinds := [.data], laidTests := true, laidLooks := .later }
def Sha512BlocksUptoCardSaid : Prop := Claim7.holds Tryd.pinned (.plain (OpenSpec.upto sha512BlocksSpec)) sha512BlocksUptoCard

/-- THE SECOND FORM's CARD OF 'affiantlaw08.Sha512Long'. -/
def sha512LongUptoCard : Claim7 := { stood := { row := sha512LongUptoRow, standIns := [], harness := (true, "811edfb1be13716fa3f6f04c4fb46979b36beed6323c6561f9e0df8f7ac8aa31"), looks := false }, kinds := [], alts := [], laidByText := true, laidKinds := [.data], laidTests := true, laidLooks := .later }
def Sha512LongUptoCardSaid : Prop := Claim7.holds Tryd.pinned (.plain (OpenSpec.upto sha512LongSpec)) sha512LongUptoCard

/-- THE SECOND FORM's CARD OF 'affiantlaw08.Sha512Roots'. -/
def sha512RootsUptoCard : Claim7 := { stood := { row := sha512RootsUptoRow, standIns := [], harness := (true, "811edfb1be13716fa3f6f04c4fb46979b36beed6323c6561f9e0df8f7ac8aa31"), looks := false }, kinds := [], alts := [], laidByText := true, laidKinds := [.data], laidTests := true, laidLooks := .later }
def Sha512RootsUptoCardSaid : Prop := Claim7.holds Tryd.pinned (.plain (OpenSpec.upto sha512RootsSpec)) sha512RootsUptoCard
end Rows
end Go.Proofs.YtniclmghkbdkbaaDoor
