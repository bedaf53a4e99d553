/-
  DERIVED. GIVEN WITH THE SEED: THE CARDS: each row of YtcidmapknijdkaaDoorRows.lean that lists a variable, with what it lists TIED to the program's text (the seventh form; the later family's looks); each row that meets fmt, with fmt's text TOLD by the authors' own Lean function (tested against real Go, not proved from fmt's source: count such statements apart). THE CARD IS WHAT COUNTS. Prove the row's statement (the work); the ties are given (YtcidmapknijdkaaDoorTie.lean); close each card by the builder's one call (the guide's Derived/Test/ToyasCard.lean, 'card_holds'). Laid BY PROGRAM, IN A SANDBOX (cutbox-door.mjs). By AI agents, Wed Nov 11 2026. No macro, syntax, notation, axiom, sorry.
-/
import Derived.Test.YtcidmapknijdkaaDoorRows
import GoSem.ClaimSeven
namespace Go.Proofs.YtcidmapknijdkaaDoor
namespace Rows

/-- THE TIED CARD OF 'affiantlaw07.Sha256Sum'. -/
def sha256SumCard : Claim7 := { stood := { row := sha256SumRow, standIns := [], harness := (true, "6ccc615cc8f78eaa1da0c4d465102bb04a00737a507382da336c8444ef75bde7"), looks := false }, kinds := [], alts := [], laidByText := true, laidKinds := [.data], laidTests := true, laidLooks := .later }
def Sha256SumCardSaid : Prop := Claim7.holds Tryd.pinned (.plain (OpenSpec.ofChange sha256SumSpec)) sha256SumCard

/-- THE TIED CARD OF 'affiantlaw07.Sha256Block'. -/
def sha256BlockCard : Claim7 := { stood := { row := sha256BlockRow, standIns := [], harness := (true, "6ccc615cc8f78eaa1da0c4d465102bb04a00737a507382da336c8444ef75bde7"), looks := false }, kinds := [], alts := [], laidByText := true, laidKinds := [.data], laidTests := true, laidLooks := .later }
def Sha256BlockCardSaid : Prop := Claim7.holds Tryd.pinned (.plain (OpenSpec.ofChange sha256BlockSpec)) sha256BlockCard

/-- THE TIED CARD OF 'affiantlaw07.Sha256Blocks'. -/
def sha256BlocksCard : Claim7 := { stood := { row := sha256BlocksRow, standIns := [], harness := (true, "6ccc615cc8f78eaa1da0c4d465102bb04a00737a507382da336c8444ef75bde7"), looks := false }, kinds := [], alts := [], laidByText := true, laidKinds := [.data], laidTests := true, laidLooks := .later }
def Sha256BlocksCardSaid : Prop := Claim7.holds Tryd.pinned (.plain (OpenSpec.ofChange sha256BlocksSpec)) sha256BlocksCard

/-- THE TIED CARD OF 'affiantlaw07.Sha256Long'. -/
def sha256LongCard : Claim7 := { stood := { row := sha256LongRow, standIns := [], harness := (true, "6ccc615cc8f78eaa1da0c4d465102bb04a00737a507382da336c8444ef75bde7"), looks := false }, kinds := [], alts := [], laidByText := true, laidKinds := [.data], laidTests := true, laidLooks := .later }
def Sha256LongCardSaid : Prop := Claim7.holds Tryd.pinned (.plain (OpenSpec.ofChange sha256LongSpec)) sha256LongCard

/-- THE TIED CARD OF 'affiantlaw07.Sha256Roots'. -/
def sha256RootsCard : Claim7 := { stood := { row := sha256RootsRow, standIns := [], harness := (true, "6ccc615cc8f78eaa1da0c4d465102bb04a00737a507382da336c8444ef75bde7"), looks := false }, kinds := [], alts := [], laidByText := true, laidKinds := [.data], laidTests := true, laidLooks := .later }
def Sha256RootsCardSaid : Prop := Claim7.holds Tryd.pinned (.plain (OpenSpec.ofChange sha256RootsSpec)) sha256RootsCard

/-- THE SECOND FORM's CARD OF 'affiantlaw07.Sha256Sum'. -/
def sha256SumUptoCard : Claim7 := { stood := { row := sha256SumUptoRow, standIns := [], harness := (true, "6ccc615cc8f78eaa1da0c4d465102bb04a00737a507382da336c8444ef75bde7"), looks := false }, kinds := [], alts := [], laidByText := true, laidKinds := [.data], laidTests := true, laidLooks := .later }
def Sha256SumUptoCardSaid : Prop := Claim7.holds Tryd.pinned (.plain (OpenSpec.upto sha256SumSpec)) sha256SumUptoCard

/-- THE SECOND FORM's CARD OF 'affiantlaw07.Sha256Block'. -/
def sha256BlockUptoCard : Claim7 := { stood := { row := sha256BlockUptoRow, standIns := [], harness := (true, "6ccc615cc8f78eaa1da0c4d465102bb04a00737a507382da336c8444ef75bde7"), looks := false }, kinds := [], alts := [], laidByText := true, laidKinds := [.data], laidTests := true, laidLooks := .later }
def Sha256BlockUptoCardSaid : Prop := Claim7.holds Tryd.pinned (.plain (OpenSpec.upto sha256BlockSpec)) sha256BlockUptoCard

/-- THE SECOND FORM's CARD OF 'affiantlaw07.Sha256Blocks'. -/
def sha256BlocksUptoCard : Claim7 := { stood := { row := sha256BlocksUptoRow, standIns := [], harness := (true, "6ccc615cc8f78eaa1da0c4d465102bb04a00737a507382da336c8444ef75bde7"), looks := false }, kinds := [], alts := [], laidByText := true, laidKinds := [.data], laidTests := true, laidLooks := .later }
def Sha256BlocksUptoCardSaid : Prop := Claim7.holds Tryd.pinned (.plain (OpenSpec.upto sha256BlocksSpec)) sha256BlocksUptoCard

/-- THE SECOND FORM's CARD OF 'affiantlaw07.Sha256Long'. -/
def sha256LongUptoCard : Claim7 := { stood := { row := sha256LongUptoRow, standIns := [], harness := (true, "6ccc615cc8f78eaa1da0c4d465102bb04a00737a507382da336c8444ef75bde7"), looks := false }, kinds := [], alts := [], laidByText := true, laidKinds := [.data], laidTests := true, laidLooks := .later }
def Sha256LongUptoCardSaid : Prop := Claim7.holds Tryd.pinned (.plain (OpenSpec.upto sha256LongSpec)) sha256LongUptoCard

/-- THE SECOND FORM's CARD OF 'affiantlaw07.Sha256Roots'. -/
def sha256RootsUptoCard : Claim7 := { stood := { row := sha256RootsUptoRow, standIns := [], harness := (true, "6ccc615cc8f78eaa1da0c4d465102bb04a00737a507382da336c8444ef75bde7"), looks := false }, kinds := [], alts := [], laidByText := true, laidKinds := [.data], laidTests := true, laidLooks := .later }
def Sha256RootsUptoCardSaid : Prop := Claim7.holds Tryd.pinned (.plain (OpenSpec.upto sha256RootsSpec)) sha256RootsUptoCard
end Rows
end Go.Proofs.YtcidmapknijdkaaDoor
