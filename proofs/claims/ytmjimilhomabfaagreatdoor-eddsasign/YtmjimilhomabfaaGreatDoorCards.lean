/-
  DERIVED. GIVEN WITH THE SEED: THE CARDS: each row of YtmjimilhomabfaaGreatDoorRows.lean that lists a variable, with what it lists TIED to the program's text (the seventh form; the later family's looks); each row that meets fmt, with fmt's text TOLD by the authors' own Lean function (tested against real Go, not proved from fmt's source: count such statements apart). THE CARD IS WHAT COUNTS. Prove the row's statement (the work); the ties are given (YtmjimilhomabfaaGreatDoorTie.lean); close each card by the builder's one call (the guide's Derived/Test/ToyasCard.lean, 'card_holds'). Laid BY PROGRAM, IN A SANDBOX (cutbox-door.mjs). By AI agents, Wed Nov 11 2026. No macro, syntax, notation, axiom, sorry.
-/
import Derived.Test.YtmjimilhomabfaaGreatDoorRows
import GoSem.ClaimSeven
namespace Go.Proofs.YtmjimilhomabfaaGreatDoor
namespace Rows

/-- THE TIED CARD OF 'affiantlaw14.EddsaSign'. -/
def eddsaSignCard : Claim7 := { stood := { row := eddsaSignRow, standIns := [], harness := (true, "32266f3c2c1da12c4b3768ac40d32ab501c6aa104d3de57cff571e22d9757302"), looks := false }, kinds := [], alts := [], laidByText := true, laidKinds := [.data, .data, .data, .data, .data, .data, .data, .data, .data], laidTests := true, laidLooks := .later }
def EddsaSignCardSaid : Prop := Claim7.holds Tryz.pinned (.plain (OpenSpec.ofChange eddsaSignSpec)) eddsaSignCard

/-- THE TIED CARD OF 'affiantlaw14.EddsaVerify'. -/
def eddsaVerifyCard : Claim7 := { stood := { row := eddsaVerifyRow, standIns := [], harness := (true, "32266f3c2c1da12c4b3768ac40d32ab501c6aa104d3de57cff571e22d9757302"), looks := false }, kinds := [], alts := [], laidByText := true, laidKinds := [.data, .data, .data, .data, .data, .data, .data, .data, .data], laidTests := true, laidLooks := .later }
def EddsaVerifyCardSaid : Prop := Claim7.holds Tryz.pinned (.plain (OpenSpec.ofChange eddsaVerifySpec)) eddsaVerifyCard

/-- THE TIED CARD OF 'affiantlaw14.EddsaSigns'. -/
def eddsaSignsCard : Claim7 := { stood := { row := eddsaSignsRow, standIns := [], harness := (true, "32266f3c2c1da12c4b3768ac40d32ab501c6aa104d3de57cff571e22d9757302"), looks := false }, kinds := [], alts := [], laidByText := true, laidKinds := [.data, .data, .data, .data, .data, .data, .data, .data, .data], laidTests := true, laidLooks := .later }
def EddsaSignsCardSaid : Prop := Claim7.holds Tryz.pinned (.plain (OpenSpec.ofChange eddsaSignsSpec)) eddsaSignsCard

/-- THE TIED CARD OF 'affiantlaw14.EddsaOne'. -/
def eddsaOneCard : Claim7 := { stood := { row := eddsaOneRow, standIns := [], harness := (true, "32266f3c2c1da12c4b3768ac40d32ab501c6aa104d3de57cff571e22d9757302"), looks := false }, kinds := [], alts := [], laidByText := true, laidKinds := [.data, .data, .data, .data, .data, .data, .data, .data, .data], laidTests := true, laidLooks := .later }
def EddsaOneCardSaid : Prop := Claim7.holds Tryz.pinned (.plain (OpenSpec.ofChange eddsaOneSpec)) eddsaOneCard

/-- THE SECOND FORM's CARD OF 'affiantlaw14.EddsaSign'. -/
def eddsaSignUptoCard : Claim7 := { stood := { row := eddsaSignUptoRow, standIns := [], harness := (true, "32266f3c2c1da12c4b3768ac40d32ab501c6aa104d3de57cff571e22d9757302"), looks := false }, kinds := [], alts := [], laidByText := true, laidKinds := [.data, .data, .data, .data, .data, .data, .data, .data, .data], laidTests := true, laidLooks := .later }
def EddsaSignUptoCardSaid : Prop := Claim7.holds Tryz.pinned (.plain (OpenSpec.upto eddsaSignSpec)) eddsaSignUptoCard

/-- THE SECOND FORM's CARD OF 'affiantlaw14.EddsaVerify'. -/
def eddsaVerifyUptoCard : Claim7 := { stood := { row := eddsaVerifyUptoRow, standIns := [], harness := (true, "32266f3c2c1da12c4b3768ac40d32ab501c6aa104d3de57cff571e22d9757302"), looks := false }, kinds := [], alts := [], laidByText := true, laidKinds := [.data, .data, .data, .data, .data, .data, .data, .data, .data], laidTests := true, laidLooks := .later }
def EddsaVerifyUptoCardSaid : Prop := Claim7.holds Tryz.pinned (.plain (OpenSpec.upto eddsaVerifySpec)) eddsaVerifyUptoCard

/-- THE SECOND FORM's CARD OF 'affiantlaw14.EddsaSigns'. -/
def eddsaSignsUptoCard : Claim7 := { stood := { row := eddsaSignsUptoRow, standIns := [], harness := (true, "32266f3c2c1da12c4b3768ac40d32ab501c6aa104d3de57cff571e22d9757302"), looks := false }, kinds := [], alts := [], laidByText := true, laidKinds := [.data, .data, .data, .data, .data, .data, .data, .data, .data], laidTests := true, laidLooks := .later }
def EddsaSignsUptoCardSaid : Prop := Claim7.holds Tryz.pinned (.plain (OpenSpec.upto eddsaSignsSpec)) eddsaSignsUptoCard

/-- THE SECOND FORM's CARD OF 'affiantlaw14.EddsaOne'. -/
def eddsaOneUptoCard : Claim7 := { stood := { row := eddsaOneUptoRow, standIns := [], harness := (true, "32266f3c2c1da12c4b3768ac40d32ab501c6aa104d3de57cff571e22d9757302"), looks := false }, kinds := [], alts := [], laidByText := true, laidKinds := [.data, .data, .data, .data, .data, .data, .data, .data, .data], laidTests := true, laidLooks := .later }
def EddsaOneUptoCardSaid : Prop := Claim7.holds Tryz.pinned (.plain (OpenSpec.upto eddsaOneSpec)) eddsaOneUptoCard
end Rows
end Go.Proofs.YtmjimilhomabfaaGreatDoor
