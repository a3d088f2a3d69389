/-
  DERIVED. GIVEN WITH THE SEED: THE CARDS: each row of YtadgnafafdfioaaDoorRows.lean that lists a variable, with what it lists TIED to the program's text (the seventh form; the later family's looks); each row that meets fmt, with fmt's text TOLD by the authors' own Lean function (tested against real Go, not proved from fmt's source: count such statements apart). THE CARD IS WHAT COUNTS. Prove the row's statement (the work); the ties are given (YtadgnafafdfioaaDoorTie.lean); close each card by the builder's one call (the guide's Derived/Test/ToyasCard.lean, 'card_holds'). Laid BY PROGRAM, IN A SANDBOX (cutbox-door.mjs). By AI agents, Wed Nov 11 2026. No macro, syntax, notation, axiom, sorry.
-/
import Derived.Test.YtadgnafafdfioaaDoorRows
import GoSem.ClaimSeven
namespace Go.Proofs.YtadgnafafdfioaaDoor
namespace Rows

/-- THE TIED CARD OF 'tapewrightlaw10.GraphShapes'. -/
def graphShapesCard : Claim7 := { stood := { row := graphShapesRow, standIns := [], harness := (true, "675d1e9977a0b51013efa18801499d2c35e0857fd9771f9ccc0b77fa98f50d03"), looks := false }, kinds := [], alts := [], laidByText := true, laidKinds := [.sentinel], laidTests := true, laidLooks := .later }
def GraphShapesCardSaid : Prop := Claim7.holds Tryd.pinned (.plain (OpenSpec.ofChange graphShapesSpec)) graphShapesCard

/-- THE TIED CARD OF 'tapewrightlaw10.GraphNames'. -/
def graphNamesCard : Claim7 := { stood := { row := graphNamesRow, standIns := [], harness := (true, "675d1e9977a0b51013efa18801499d2c35e0857fd9771f9ccc0b77fa98f50d03"), looks := false }, kinds := [], alts := [], laidByText := true, laidKinds := [.sentinel], laidTests := true, laidLooks := .later }
def GraphNamesCardSaid : Prop := Claim7.holds Tryd.pinned (.plain (OpenSpec.ofChange graphNamesSpec)) graphNamesCard

/-- THE TIED CARD OF 'tapewrightlaw10.GraphMore'. -/
def graphMoreCard : Claim7 := { stood := { row := graphMoreRow, standIns := [], harness := (true, "675d1e9977a0b51013efa18801499d2c35e0857fd9771f9ccc0b77fa98f50d03"), looks := false }, kinds := [], alts := [], laidByText := true, laidKinds := [.sentinel], laidTests := true, laidLooks := .later }
def GraphMoreCardSaid : Prop := Claim7.holds Tryd.pinned (.plain (OpenSpec.ofChange graphMoreSpec)) graphMoreCard

/-- THE SECOND FORM's CARD OF 'tapewrightlaw10.GraphShapes'. -/
def graphShapesUptoCard : Claim7 := { stood := { row := graphShapesUptoRow, standIns := [], harness := (true, "675d1e9977a0b51013efa18801499d2c35e0857fd9771f9ccc0b77fa98f50d03"), looks := false }, kinds := [], alts := [], laidByText := true, laidKinds := [.sentinel], laidTests := true, laidLooks := .later }
def GraphShapesUptoCardSaid : Prop := Claim7.holds Tryd.pinned (.plain (OpenSpec.upto graphShapesSpec)) graphShapesUptoCard

/-- THE SECOND FORM's CARD OF 'tapewrightlaw10.GraphNames'. -/
def graphNamesUptoCard : Claim7 := { stood := { row := graphNamesUptoRow, standIns := [], harness := (true, "675d1e9977a0b51013efa18801499d2c35e0857fd9771f9ccc0b77fa98f50d03"), looks := false }, kinds := [], alts := [], laidByText := true, laidKinds := [.sentinel], laidTests := true, laidLooks := .later }
def GraphNamesUptoCardSaid : Prop := Claim7.holds Tryd.pinned (.plain (OpenSpec.upto graphNamesSpec)) graphNamesUptoCard

/-- THE SECOND FORM's CARD OF 'tapewrightlaw10.GraphMore'. -/
def graphMoreUptoCard : Claim7 := { stood := { row := graphMoreUptoRow, standIns := [], harness := (true, "675d1e9977a0b51013efa18801499d2c35e0857fd9771f9ccc0b77fa98f50d03"), looks := false }, kinds := [], alts := [], laidByText := true, laidKinds := [.sentinel], laidTests := true, laidLooks := .later }
def GraphMoreUptoCardSaid : Prop := Claim7.holds Tryd.pinned (.plain (OpenSpec.upto graphMoreSpec)) graphMoreUptoCard
end Rows
end Go.Proofs.YtadgnafafdfioaaDoor
