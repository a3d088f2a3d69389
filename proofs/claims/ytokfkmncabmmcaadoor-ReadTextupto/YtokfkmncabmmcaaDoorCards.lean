/-
  DERIVED. GIVEN WITH THE SEED: THE CARDS: each row of YtokfkmncabmmcaaDoorRows.lean that lists a variable, with what it lists TIED to the program's text (the seventh form; the later family's looks); each row that meets fmt, with fmt's text TOLD by the authors' own Lean function (tested against real Go, not proved from fmt's source: count such statements apart). THE CARD IS WHAT COUNTS. Prove the row's statement (the work); the ties are given (YtokfkmncabmmcaaDoorTie.lean); close each card by the builder's one call (the guide's Derived/Test/ToyasCard.lean, 'card_holds'). Laid BY PROGRAM, IN A SANDBOX (cutbox-door.mjs). By AI agents, Wed Nov 11 2026. No macro, syntax, notation, axiom, sorry.
-/
import Derived.Test.YtokfkmncabmmcaaDoorRows
import GoSem.ClaimSeven
namespace Go.Proofs.YtokfkmncabmmcaaDoor
namespace Rows

/-- THE TIED CARD OF 'tapewrightlaw09.ReadOne'. -/
def readOneCard : Claim7 := { stood := { row := readOneRow, standIns := [], harness := (true, "fa312c862ac3aaac3f123442656ee8fff37ad5180d232ee57311282c7ea347a0"), looks := false }, kinds := [], alts := [], laidByText := true, laidKinds := [.sentinel], laidTests := true, laidLooks := .later }
def ReadOneCardSaid : Prop := Claim7.holds Tryd.pinned (.plain (OpenSpec.ofChange readOneSpec)) readOneCard

/-- THE TIED CARD OF 'tapewrightlaw09.ReadDims'. -/
def readDimsCard : Claim7 := { stood := { row := readDimsRow, standIns := [], harness := (true, "fa312c862ac3aaac3f123442656ee8fff37ad5180d232ee57311282c7ea347a0"), looks := false }, kinds := [], alts := [], laidByText := true, laidKinds := [.sentinel], laidTests := true, laidLooks := .later }
def ReadDimsCardSaid : Prop := Claim7.holds Tryd.pinned (.plain (OpenSpec.ofChange readDimsSpec)) readDimsCard

/-- THE TIED CARD OF 'tapewrightlaw09.ReadText'. -/
def readTextCard : Claim7 := { stood := { row := readTextRow, standIns := [], harness := (true, "fa312c862ac3aaac3f123442656ee8fff37ad5180d232ee57311282c7ea347a0"), looks := false }, kinds := [], alts := [], laidByText := true, laidKinds := [.sentinel], laidTests := true, laidLooks := .later }
def ReadTextCardSaid : Prop := Claim7.holds Tryd.pinned (.plain (OpenSpec.ofChange readTextSpec)) readTextCard

/-- THE SECOND FORM's CARD OF 'tapewrightlaw09.ReadOne'. -/
def readOneUptoCard : Claim7 := { stood := { row := readOneUptoRow, standIns := [], harness := (true, "fa312c862ac3aaac3f123442656ee8fff37ad5180d232ee57311282c7ea347a0"), looks := false }, kinds := [], alts := [], laidByText := true, laidKinds := [.sentinel], laidTests := true, laidLooks := .later }
def ReadOneUptoCardSaid : Prop := Claim7.holds Tryd.pinned (.plain (OpenSpec.upto readOneSpec)) readOneUptoCard

/-- THE SECOND FORM's CARD OF 'tapewrightlaw09.ReadDims'. -/
def readDimsUptoCard : Claim7 := { stood := { row := readDimsUptoRow, standIns := [], harness := (true, "fa312c862ac3aaac3f123442656ee8fff37ad5180d232ee57311282c7ea347a0"), looks := false }, kinds := [], alts := [], laidByText := true, laidKinds := [.sentinel], laidTests := true, laidLooks := .later }
def ReadDimsUptoCardSaid : Prop := Claim7.holds Tryd.pinned (.plain (OpenSpec.upto readDimsSpec)) readDimsUptoCard

/-- THE SECOND FORM's CARD OF 'tapewrightlaw09.ReadText'. -/
def readTextUptoCard : Claim7 := { stood := { row := readTextUptoRow, standIns := [], harness := (true, "fa312c862ac3aaac3f123442656ee8fff37ad5180d232ee57311282c7ea347a0"), looks := false }, kinds := [], alts := [], laidByText := true, laidKinds := [.sentinel], laidTests := true, laidLooks := .later }
def ReadTextUptoCardSaid : Prop := Claim7.holds Tryd.pinned (.plain (OpenSpec.upto readTextSpec)) readTextUptoCard
end Rows
end Go.Proofs.YtokfkmncabmmcaaDoor
