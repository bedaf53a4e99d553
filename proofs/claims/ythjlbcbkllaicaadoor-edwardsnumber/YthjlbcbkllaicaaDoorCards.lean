/-
  DERIVED. GIVEN WITH THE SEED: THE CARDS: each row of YthjlbcbkllaicaaDoorRows.lean that lists a variable, with what it lists TIED to the program's text (the seventh form; the later family's looks); each row that meets fmt, with fmt's text TOLD by the authors' own Lean function (tested against real Go, not proved from fmt's source: count such statements apart). THE CARD IS WHAT COUNTS. Prove the row's statement (the work); the ties are given (YthjlbcbkllaicaaDoorTie.lean); close each card by the builder's one call (the guide's Derived/Test/ToyasCard.lean, 'card_holds'). Laid BY PROGRAM, IN A SANDBOX (cutbox-door.mjs). By AI agents, Wed Nov 11 2026. No macro, syntax, notation, axiom, sorry.
-/
import Derived.Test.YthjlbcbkllaicaaDoorRows
import GoSem.ClaimSeven
namespace Go.Proofs.YthjlbcbkllaicaaDoor
namespace Rows

/-- THE TIED CARD OF 'affiantlaw13.EdwardsOn'. -/
def edwardsOnCard : Claim7 := { stood := { row := edwardsOnRow, standIns := [], harness := (true, "6c81ab964824856677c0d2b71b16e379ba1f889a55ffe6000620aa7cdde3cb5a"), looks := false }, kinds := [], alts := [], laidByText := true, laidKinds := [.data, .data, .data], laidTests := true, laidLooks := .later }
def EdwardsOnCardSaid : Prop := Claim7.holds Tryd.pinned (.plain (OpenSpec.ofChange edwardsOnSpec)) edwardsOnCard

/-- THE TIED CARD OF 'affiantlaw13.EdwardsAdd'. -/
def edwardsAddCard : Claim7 := { stood := { row := edwardsAddRow, standIns := [], harness := (true, "6c81ab964824856677c0d2b71b16e379ba1f889a55ffe6000620aa7cdde3cb5a"), looks := false }, kinds := [], alts := [], laidByText := true, laidKinds := [.data, .data, .data, .data], laidTests := true, laidLooks := .later }
def EdwardsAddCardSaid : Prop := Claim7.holds Tryd.pinned (.plain (OpenSpec.ofChange edwardsAddSpec)) edwardsAddCard

/-- THE TIED CARD OF 'affiantlaw13.EdwardsMul'. -/
def edwardsMulCard : Claim7 := { stood := { row := edwardsMulRow, standIns := [], harness := (true, "6c81ab964824856677c0d2b71b16e379ba1f889a55ffe6000620aa7cdde3cb5a"), looks := false }, kinds := [], alts := [], laidByText := true, laidKinds := [.data, .data, .data, .data], laidTests := true, laidLooks := .later }
def EdwardsMulCardSaid : Prop := Claim7.holds Tryd.pinned (.plain (OpenSpec.ofChange edwardsMulSpec)) edwardsMulCard

/-- THE TIED CARD OF 'affiantlaw13.EdwardsUnpack'. -/
def edwardsUnpackCard : Claim7 := { stood := { row := edwardsUnpackRow, standIns := [], harness := (true, "6c81ab964824856677c0d2b71b16e379ba1f889a55ffe6000620aa7cdde3cb5a"), looks := false }, kinds := [], alts := [], laidByText := true, laidKinds := [.data, .data, .data, .data, .data, .data], laidTests := true, laidLooks := .later }
def EdwardsUnpackCardSaid : Prop := Claim7.holds Tryd.pinned (.plain (OpenSpec.ofChange edwardsUnpackSpec)) edwardsUnpackCard

/-- THE TIED CARD OF 'affiantlaw13.EdwardsGroup'. -/
def edwardsGroupCard : Claim7 := { stood := { row := edwardsGroupRow, standIns := [], harness := (true, "6c81ab964824856677c0d2b71b16e379ba1f889a55ffe6000620aa7cdde3cb5a"), looks := false }, kinds := [], alts := [], laidByText := true, laidKinds := [.data, .data, .data, .data], laidTests := true, laidLooks := .later }
def EdwardsGroupCardSaid : Prop := Claim7.holds Tryd.pinned (.plain (OpenSpec.ofChange edwardsGroupSpec)) edwardsGroupCard

/-- THE TIED CARD OF 'affiantlaw13.EdwardsTimes'. -/
def edwardsTimesCard : Claim7 := { stood := { row := edwardsTimesRow, standIns := [], harness := (true, "6c81ab964824856677c0d2b71b16e379ba1f889a55ffe6000620aa7cdde3cb5a"), looks := false }, kinds := [], alts := [], laidByText := true, laidKinds := [.data, .data, .data, .data], laidTests := true, laidLooks := .later }
def EdwardsTimesCardSaid : Prop := Claim7.holds Tryd.pinned (.plain (OpenSpec.ofChange edwardsTimesSpec)) edwardsTimesCard

/-- THE TIED CARD OF 'affiantlaw13.EdwardsBack'. -/
def edwardsBackCard : Claim7 := { stood := { row := edwardsBackRow, standIns := [], harness := (true, "6c81ab964824856677c0d2b71b16e379ba1f889a55ffe6000620aa7cdde3cb5a"), looks := false }, kinds := [], alts := [], laidByText := true, laidKinds := [.data, .data, .data, .data, .data, .data], laidTests := true, laidLooks := .later }
def EdwardsBackCardSaid : Prop := Claim7.holds Tryd.pinned (.plain (OpenSpec.ofChange edwardsBackSpec)) edwardsBackCard

/-- THE TIED CARD OF 'affiantlaw13.EdwardsNumber'. -/
def edwardsNumberCard : Claim7 := { stood := { row := edwardsNumberRow, standIns := [], harness := (true, "6c81ab964824856677c0d2b71b16e379ba1f889a55ffe6000620aa7cdde3cb5a"), looks := false }, kinds := [], alts := [], laidByText := true, laidKinds := [.data, .data, .data], laidTests := true, laidLooks := .later }
def EdwardsNumberCardSaid : Prop := Claim7.holds Tryd.pinned (.plain (OpenSpec.ofChange edwardsNumberSpec)) edwardsNumberCard

/-- THE SECOND FORM's CARD OF 'affiantlaw13.EdwardsOn'. -/
def edwardsOnUptoCard : Claim7 := { stood := { row := edwardsOnUptoRow, standIns := [], harness := (true, "6c81ab964824856677c0d2b71b16e379ba1f889a55ffe6000620aa7cdde3cb5a"), looks := false }, kinds := [], alts := [], laidByText := true, laidKinds := [.data, .data, .data], laidTests := true, laidLooks := .later }
def EdwardsOnUptoCardSaid : Prop := Claim7.holds Tryd.pinned (.plain (OpenSpec.upto edwardsOnSpec)) edwardsOnUptoCard

/-- THE SECOND FORM's CARD OF 'affiantlaw13.EdwardsAdd'. -/
def edwardsAddUptoCard : Claim7 := { stood := { row := edwardsAddUptoRow, standIns := [], harness := (true, "6c81ab964824856677c0d2b71b16e379ba1f889a55ffe6000620aa7cdde3cb5a"), looks := false }, kinds := [], alts := [], laidByText := true, laidKinds := [.data, .data, .data, .data], laidTests := true, laidLooks := .later }
def EdwardsAddUptoCardSaid : Prop := Claim7.holds Tryd.pinned (.plain (OpenSpec.upto edwardsAddSpec)) edwardsAddUptoCard

/-- THE SECOND FORM's CARD OF 'affiantlaw13.EdwardsMul'. -/
def edwardsMulUptoCard : Claim7 := { stood := { row := edwardsMulUptoRow, standIns := [], harness := (true, "6c81ab964824856677c0d2b71b16e379ba1f889a55ffe6000620aa7cdde3cb5a"), looks := false }, kinds := [], alts := [], laidByText := true, laidKinds := [.data, .data, .data, .data], laidTests := true, laidLooks := .later }
def EdwardsMulUptoCardSaid : Prop := Claim7.holds Tryd.pinned (.plain (OpenSpec.upto edwardsMulSpec)) edwardsMulUptoCard

/-- THE SECOND FORM's CARD OF 'affiantlaw13.EdwardsUnpack'. -/
def edwardsUnpackUptoCard : Claim7 := { stood := { row := edwardsUnpackUptoRow, standIns := [], harness := (true, "6c81ab964824856677c0d2b71b16e379ba1f889a55ffe6000620aa7cdde3cb5a"), looks := false }, kinds := [], alts := [], laidByText := true, laidKinds := [.data, .data, .data, .data, .data, .data], laidTests := true, laidLooks := .later }
def EdwardsUnpackUptoCardSaid : Prop := Claim7.holds Tryd.pinned (.plain (OpenSpec.upto edwardsUnpackSpec)) edwardsUnpackUptoCard

/-- THE SECOND FORM's CARD OF 'affiantlaw13.EdwardsGroup'. -/
def edwardsGroupUptoCard : Claim7 := { stood := { row := edwardsGroupUptoRow, standIns := [], harness := (true, "6c81ab964824856677c0d2b71b16e379ba1f889a55ffe6000620aa7cdde3cb5a"), looks := false }, kinds := [], alts := [], laidByText := true, laidKinds := [.data, .data, .data, .data], laidTests := true, laidLooks := .later }
def EdwardsGroupUptoCardSaid : Prop := Claim7.holds Tryd.pinned (.plain (OpenSpec.upto edwardsGroupSpec)) edwardsGroupUptoCard

/-- THE SECOND FORM's CARD OF 'affiantlaw13.EdwardsTimes'. -/
def edwardsTimesUptoCard : Claim7 := { stood := { row := edwardsTimesUptoRow, standIns := [], harness := (true, "6c81ab964824856677c0d2b71b16e379ba1f889a55ffe6000620aa7cdde3cb5a"), looks := false }, kinds := [], alts := [], laidByText := true, laidKinds := [.data, .data, .data, .data], laidTests := true, laidLooks := .later }
def EdwardsTimesUptoCardSaid : Prop := Claim7.holds Tryd.pinned (.plain (OpenSpec.upto edwardsTimesSpec)) edwardsTimesUptoCard

/-- THE SECOND FORM's CARD OF 'affiantlaw13.EdwardsBack'. -/
def edwardsBackUptoCard : Claim7 := { stood := { row := edwardsBackUptoRow, standIns := [], harness := (true, "6c81ab964824856677c0d2b71b16e379ba1f889a55ffe6000620aa7cdde3cb5a"), looks := false }, kinds := [], alts := [], laidByText := true, laidKinds := [.data, .data, .data, .data, .data, .data], laidTests := true, laidLooks := .later }
def EdwardsBackUptoCardSaid : Prop := Claim7.holds Tryd.pinned (.plain (OpenSpec.upto edwardsBackSpec)) edwardsBackUptoCard

/-- THE SECOND FORM's CARD OF 'affiantlaw13.EdwardsNumber'. -/
def edwardsNumberUptoCard : Claim7 := { stood := { row := edwardsNumberUptoRow, standIns := [], harness := (true, "6c81ab964824856677c0d2b71b16e379ba1f889a55ffe6000620aa7cdde3cb5a"), looks := false }, kinds := [], alts := [], laidByText := true, laidKinds := [.data, .data, .data], laidTests := true, laidLooks := .later }
def EdwardsNumberUptoCardSaid : Prop := Claim7.holds Tryd.pinned (.plain (OpenSpec.upto edwardsNumberSpec)) edwardsNumberUptoCard
end Rows
end Go.Proofs.YthjlbcbkllaicaaDoor
