/-
  DERIVED. GIVEN WITH THE SEED: THE CARDS: each row of YtokfkmncabmmcaaGreatDoorRows.lean that lists a variable, with what it lists TIED to the program's text (the seventh form; the later family's looks); each row that meets fmt, with fmt's text TOLD by the authors' own Lean function (tested against real Go, not proved from fmt's source: count such statements apart). THE CARD IS WHAT COUNTS. Prove the row's statement (the work); the ties are given (YtokfkmncabmmcaaGreatDoorTie.lean); close each card by the builder's one call (the guide's Derived/Test/ToyasCard.lean, 'card_holds'). Laid BY PROGRAM, IN A SANDBOX (cutbox-door.mjs). By AI agents, Wed Nov 11 2026. No macro, syntax, notation, axiom, sorry.
-/
import Derived.Test.YtokfkmncabmmcaaGreatDoorRows
import GoSem.ClaimSeven
namespace Go.Proofs.YtokfkmncabmmcaaGreatDoor
namespace Rows

/-- THE TIED CARD OF 'tapewrightlaw09.ReadParses'. -/
def readParsesCard : Claim7 := { stood := { row := readParsesRow, standIns := [], harness := (true, "bd3cfea3bf725f341759fcf39c3e2b14df97801970a0be14ee081743294fe225"), looks := false }, kinds := [], alts := [], laidByText := true, laidKinds := [.sentinel], laidTests := true, laidLooks := .later }
def ReadParsesCardSaid : Prop := Claim7.holds Tryz.pinned (.plain (OpenSpec.ofChange readParsesSpec)) readParsesCard

/-- THE TIED CARD OF 'tapewrightlaw09.ReadAll'. -/
def readAllCard : Claim7 := { stood := { row := readAllRow, standIns := [], harness := (true, "bd3cfea3bf725f341759fcf39c3e2b14df97801970a0be14ee081743294fe225"), looks := false }, kinds := [], alts := [], laidByText := true, laidKinds := [.sentinel], laidTests := true, laidLooks := .later }
def ReadAllCardSaid : Prop := Claim7.holds Tryz.pinned (.plain (OpenSpec.ofChange readAllSpec)) readAllCard

/-- THE SECOND FORM's CARD OF 'tapewrightlaw09.ReadParses'. -/
def readParsesUptoCard : Claim7 := { stood := { row := readParsesUptoRow, standIns := [], harness := (true, "bd3cfea3bf725f341759fcf39c3e2b14df97801970a0be14ee081743294fe225"), looks := false }, kinds := [], alts := [], laidByText := true, laidKinds := [.sentinel], laidTests := true, laidLooks := .later }
def ReadParsesUptoCardSaid : Prop := Claim7.holds Tryz.pinned (.plain (OpenSpec.upto readParsesSpec)) readParsesUptoCard

/-- THE SECOND FORM's CARD OF 'tapewrightlaw09.ReadAll'. -/
def readAllUptoCard : Claim7 := { stood := { row := readAllUptoRow, standIns := [], harness := (true, "bd3cfea3bf725f341759fcf39c3e2b14df97801970a0be14ee081743294fe225"), looks := false }, kinds := [], alts := [], laidByText := true, laidKinds := [.sentinel], laidTests := true, laidLooks := .later }
def ReadAllUptoCardSaid : Prop := Claim7.holds Tryz.pinned (.plain (OpenSpec.upto readAllSpec)) readAllUptoCard
end Rows
end Go.Proofs.YtokfkmncabmmcaaGreatDoor
