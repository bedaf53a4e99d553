/-
  DERIVED. GIVEN WITH THE SEED: THE CARDS: each row of YtmbaenodibfedaaDoorRows.lean that lists a variable, with what it lists TIED to the program's text (the seventh form; the later family's looks); each row that meets fmt, with fmt's text TOLD by the authors' own Lean function (tested against real Go, not proved from fmt's source: count such statements apart). THE CARD IS WHAT COUNTS. Prove the row's statement (the work); the ties are given (YtmbaenodibfedaaDoorTie.lean); close each card by the builder's one call (the guide's Derived/Test/ToyasCard.lean, 'card_holds'). Laid BY PROGRAM, IN A SANDBOX (cutbox-door.mjs). By AI agents, Wed Nov 11 2026. No macro, syntax, notation, axiom, sorry.
-/
import Derived.Test.YtmbaenodibfedaaDoorRows
import GoSem.ClaimSeven
namespace Go.Proofs.YtmbaenodibfedaaDoor
namespace Rows

/-- THE TIED CARD OF 'affiantlaw09.HashSum'. -/
def hashSumCard : Claim7 := { stood := { row := hashSumRow, standIns := [], harness := (true, "acf3b126d85603c7875b7185765e22b2556293ded4c5da733af97786718a27d3"), looks := false }, kinds := [], alts := [], laidByText := true, laidKinds := [.data, .data], laidTests := true, laidLooks := .later }
def HashSumCardSaid : Prop := Claim7.holds Tryd.pinned (.plain (OpenSpec.ofChange hashSumSpec)) hashSumCard

/-- THE TIED CARD OF 'affiantlaw09.HashPieces'. -/
def hashPiecesCard : Claim7 := { stood := { row := hashPiecesRow, standIns := [], harness := (true, "acf3b126d85603c7875b7185765e22b2556293ded4c5da733af97786718a27d3"), looks := false }, kinds := [], alts := [], laidByText := true, laidKinds := [.data, .data], laidTests := true, laidLooks := .later }
def HashPiecesCardSaid : Prop := Claim7.holds Tryd.pinned (.plain (OpenSpec.ofChange hashPiecesSpec)) hashPiecesCard

/-- THE TIED CARD OF 'affiantlaw09.HashNew'. -/
def hashNewCard : Claim7 := { stood := { row := hashNewRow, standIns := [], harness := (true, "acf3b126d85603c7875b7185765e22b2556293ded4c5da733af97786718a27d3"), looks := false }, kinds := [], alts := [], laidByText := true, laidKinds := [.data, .data], laidTests := true, laidLooks := .later }
def HashNewCardSaid : Prop := Claim7.holds Tryd.pinned (.plain (OpenSpec.ofChange hashNewSpec)) hashNewCard

/-- THE TIED CARD OF 'affiantlaw09.HashNil'. -/
def hashNilCard : Claim7 := { stood := { row := hashNilRow, standIns := [], harness := (true, "acf3b126d85603c7875b7185765e22b2556293ded4c5da733af97786718a27d3"), looks := false }, kinds := [], alts := [], laidByText := true, laidKinds := [.data, .data], laidTests := true, laidLooks := .later }
def HashNilCardSaid : Prop := Claim7.holds Tryd.pinned (.plain (OpenSpec.ofChange hashNilSpec)) hashNilCard

/-- THE SECOND FORM's CARD OF 'affiantlaw09.HashSum'. -/
def hashSumUptoCard : Claim7 := { stood := { row := hashSumUptoRow, standIns := [], harness := (true, "acf3b126d85603c7875b7185765e22b2556293ded4c5da733af97786718a27d3"), looks := false }, kinds := [], alts := [], laidByText := true, laidKinds := [.data, .data], laidTests := true, laidLooks := .later }
def HashSumUptoCardSaid : Prop := Claim7.holds Tryd.pinned (.plain (OpenSpec.upto hashSumSpec)) hashSumUptoCard

/-- THE SECOND FORM's CARD OF 'affiantlaw09.HashPieces'. -/
def hashPiecesUptoCard : Claim7 := { stood := { row := hashPiecesUptoRow, standIns := [], harness := (true, "acf3b126d85603c7875b7185765e22b2556293ded4c5da733af97786718a27d3"), looks := false }, kinds := [], alts := [], laidByText := true, laidKinds := [.data, .data], laidTests := true, laidLooks := .later }
def HashPiecesUptoCardSaid : Prop := Claim7.holds Tryd.pinned (.plain (OpenSpec.upto hashPiecesSpec)) hashPiecesUptoCard

/-- THE SECOND FORM's CARD OF 'affiantlaw09.HashNew'. -/
def hashNewUptoCard : Claim7 := { stood := { row := hashNewUptoRow, standIns := [], harness := (true, "acf3b126d85603c7875b7185765e22b2556293ded4c5da733af97786718a27d3"), looks := false }, kinds := [], alts := [], laidByText := true, laidKinds := [.data, .data], laidTests := true, laidLooks := .later }
def HashNewUptoCardSaid : Prop := Claim7.holds Tryd.pinned (.plain (OpenSpec.upto hashNewSpec)) hashNewUptoCard

/-- THE SECOND FORM's CARD OF 'affiantlaw09.HashNil'. -/
def hashNilUptoCard : Claim7 := { stood := { row := hashNilUptoRow, standIns := [], harness := (true, "acf3b126d85603c7875b7185765e22b2556293ded4c5da733af97786718a27d3"), looks := false }, kinds := [], alts := [], laidByText := true, laidKinds := [.data, .data], laidTests := true, laidLooks := .later }
def HashNilUptoCardSaid : Prop := Claim7.holds Tryd.pinned (.plain (OpenSpec.upto hashNilSpec)) hashNilUptoCard
end Rows
end Go.Proofs.YtmbaenodibfedaaDoor
