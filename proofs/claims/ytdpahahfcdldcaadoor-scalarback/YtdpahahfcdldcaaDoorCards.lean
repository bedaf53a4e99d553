/-
  DERIVED. GIVEN WITH THE SEED: THE CARDS: each row of YtdpahahfcdldcaaDoorRows.lean that lists a variable, with what it lists TIED to the program's text (the seventh form; the later family's looks); each row that meets fmt, with fmt's text TOLD by the authors' own Lean function (tested against real Go, not proved from fmt's source: count such statements apart). THE CARD IS WHAT COUNTS. Prove the row's statement (the work); the ties are given (YtdpahahfcdldcaaDoorTie.lean); close each card by the builder's one call (the guide's Derived/Test/ToyasCard.lean, 'card_holds'). Laid BY PROGRAM, IN A SANDBOX (cutbox-door.mjs). By AI agents, Wed Nov 11 2026. No macro, syntax, notation, axiom, sorry.
-/
import Derived.Test.YtdpahahfcdldcaaDoorRows
import GoSem.ClaimSeven
namespace Go.Proofs.YtdpahahfcdldcaaDoor
namespace Rows

/-- THE TIED CARD OF 'affiantlaw12.ScalarSums'. -/
def scalarSumsCard : Claim7 := { stood := { row := scalarSumsRow, standIns := [], harness := (true, "12d6fb0e3130be978e13103ef964bff3f25dd06b13ba6b86c892b31fee49d019"), looks := false }, kinds := [], alts := [], laidByText := true, laidKinds := [.data], laidTests := true, laidLooks := .later }
def ScalarSumsCardSaid : Prop := Claim7.holds Tryd.pinned (.plain (OpenSpec.ofChange scalarSumsSpec)) scalarSumsCard

/-- THE TIED CARD OF 'affiantlaw12.ScalarBytes'. -/
def scalarBytesCard : Claim7 := { stood := { row := scalarBytesRow, standIns := [], harness := (true, "12d6fb0e3130be978e13103ef964bff3f25dd06b13ba6b86c892b31fee49d019"), looks := false }, kinds := [], alts := [], laidByText := true, laidKinds := [.data], laidTests := true, laidLooks := .later }
def ScalarBytesCardSaid : Prop := Claim7.holds Tryd.pinned (.plain (OpenSpec.ofChange scalarBytesSpec)) scalarBytesCard

/-- THE TIED CARD OF 'affiantlaw12.ScalarLaws'. -/
def scalarLawsCard : Claim7 := { stood := { row := scalarLawsRow, standIns := [], harness := (true, "12d6fb0e3130be978e13103ef964bff3f25dd06b13ba6b86c892b31fee49d019"), looks := false }, kinds := [], alts := [], laidByText := true, laidKinds := [.data], laidTests := true, laidLooks := .later }
def ScalarLawsCardSaid : Prop := Claim7.holds Tryd.pinned (.plain (OpenSpec.ofChange scalarLawsSpec)) scalarLawsCard

/-- THE TIED CARD OF 'affiantlaw12.ScalarBack'. -/
def scalarBackCard : Claim7 := { stood := { row := scalarBackRow, standIns := [], harness := (true, "12d6fb0e3130be978e13103ef964bff3f25dd06b13ba6b86c892b31fee49d019"), looks := false }, kinds := [], alts := [], laidByText := true, laidKinds := [.data], laidTests := true, laidLooks := .later }
def ScalarBackCardSaid : Prop := Claim7.holds Tryd.pinned (.plain (OpenSpec.ofChange scalarBackSpec)) scalarBackCard

/-- THE SECOND FORM's CARD OF 'affiantlaw12.ScalarSums'. -/
def scalarSumsUptoCard : Claim7 := { stood := { row := scalarSumsUptoRow, standIns := [], harness := (true, "12d6fb0e3130be978e13103ef964bff3f25dd06b13ba6b86c892b31fee49d019"), looks := false }, kinds := [], alts := [], laidByText := true, laidKinds := [.data], laidTests := true, laidLooks := .later }
def ScalarSumsUptoCardSaid : Prop := Claim7.holds Tryd.pinned (.plain (OpenSpec.upto scalarSumsSpec)) scalarSumsUptoCard

/-- THE SECOND FORM's CARD OF 'affiantlaw12.ScalarBytes'. -/
def scalarBytesUptoCard : Claim7 := { stood := { row := scalarBytesUptoRow, standIns := [], harness := (true, "12d6fb0e3130be978e13103ef964bff3f25dd06b13ba6b86c892b31fee49d019"), looks := false }, kinds := [], alts := [], laidByText := true, laidKinds := [.data], laidTests := true, laidLooks := .later }
def ScalarBytesUptoCardSaid : Prop := Claim7.holds Tryd.pinned (.plain (OpenSpec.upto scalarBytesSpec)) scalarBytesUptoCard

/-- THE SECOND FORM's CARD OF 'affiantlaw12.ScalarLaws'. -/
def scalarLawsUptoCard : Claim7 := { stood := { row := scalarLawsUptoRow, standIns := [], harness := (true, "12d6fb0e3130be978e13103ef964bff3f25dd06b13ba6b86c892b31fee49d019"), looks := false }, kinds := [], alts := [], laidByText := true, laidKinds := [.data], laidTests := true, laidLooks := .later }
def ScalarLawsUptoCardSaid : Prop := Claim7.holds Tryd.pinned (.plain (OpenSpec.upto scalarLawsSpec)) scalarLawsUptoCard

/-- THE SECOND FORM's CARD OF 'affiantlaw12.ScalarBack'. -/
def scalarBackUptoCard : Claim7 := { stood := { row := scalarBackUptoRow, standIns := [], harness := (true, "12d6fb0e3130be978e13103ef964bff3f25dd06b13ba6b86c892b31fee49d019"), looks := false }, kinds := [], alts := [], laidByText := true, laidKinds := [.data], laidTests := true, laidLooks := .later }
def ScalarBackUptoCardSaid : Prop := Claim7.holds Tryd.pinned (.plain (OpenSpec.upto scalarBackSpec)) scalarBackUptoCard
end Rows
end Go.Proofs.YtdpahahfcdldcaaDoor
