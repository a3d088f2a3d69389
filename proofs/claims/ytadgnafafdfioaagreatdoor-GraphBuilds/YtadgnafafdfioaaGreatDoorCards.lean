/-
  DERIVED. GIVEN WITH THE SEED: THE CARDS: each row of YtadgnafafdfioaaGreatDoorRows.lean that lists a variable, with what it lists TIED to the program's text (the seventh form; the later family's looks); each row that meets fmt, with fmt's text TOLD by the authors' own Lean function (tested against real Go, not proved from fmt's source: count such statements apart). THE CARD IS WHAT COUNTS. Prove the row's statement (the work); the ties are given (YtadgnafafdfioaaGreatDoorTie.lean); close each card by the builder's one call (the guide's Derived/Test/ToyasCard.lean, 'card_holds'). Laid BY PROGRAM, IN A SANDBOX (cutbox-door.mjs). By AI agents, Wed Nov 11 2026. No macro, syntax, notation, axiom, sorry.
-/
import Derived.Test.YtadgnafafdfioaaGreatDoorRows
import GoSem.ClaimSeven
namespace Go.Proofs.YtadgnafafdfioaaGreatDoor
namespace Rows

/-- THE TIED CARD OF 'tapewrightlaw10.GraphRight'. -/
def graphRightCard : Claim7 := { stood := { row := graphRightRow, standIns := [], harness := (true, "b4971e4d839be196bca8a920682f4e2c88e1ad64a1c2ffa48f931dd8d48f7f20"), looks := false }, kinds := [], alts := [], laidByText := true, laidKinds := [.sentinel], laidTests := true, laidLooks := .later }
def GraphRightCardSaid : Prop := Claim7.holds Tryz.pinned (.plain (OpenSpec.ofChange graphRightSpec)) graphRightCard

/-- THE TIED CARD OF 'tapewrightlaw10.GraphBuilds'. -/
def graphBuildsCard : Claim7 := { stood := { row := graphBuildsRow, standIns := [], harness := (true, "b4971e4d839be196bca8a920682f4e2c88e1ad64a1c2ffa48f931dd8d48f7f20"), looks := false }, kinds := [], alts := [], laidByText := true, laidKinds := [.sentinel], laidTests := true, laidLooks := .later }
def GraphBuildsCardSaid : Prop := Claim7.holds Tryz.pinned (.plain (OpenSpec.ofChange graphBuildsSpec)) graphBuildsCard

/-- THE TIED CARD OF 'tapewrightlaw10.GraphLoss'. -/
def graphLossCard : Claim7 := { stood := { row := graphLossRow, standIns := [], harness := (true, "b4971e4d839be196bca8a920682f4e2c88e1ad64a1c2ffa48f931dd8d48f7f20"), looks := false }, kinds := [], alts := [], laidByText := true, laidKinds := [.sentinel], laidTests := true, laidLooks := .later }
def GraphLossCardSaid : Prop := Claim7.holds Tryz.pinned (.plain (OpenSpec.ofChange graphLossSpec)) graphLossCard

/-- THE SECOND FORM's CARD OF 'tapewrightlaw10.GraphRight'. -/
def graphRightUptoCard : Claim7 := { stood := { row := graphRightUptoRow, standIns := [], harness := (true, "b4971e4d839be196bca8a920682f4e2c88e1ad64a1c2ffa48f931dd8d48f7f20"), looks := false }, kinds := [], alts := [], laidByText := true, laidKinds := [.sentinel], laidTests := true, laidLooks := .later }
def GraphRightUptoCardSaid : Prop := Claim7.holds Tryz.pinned (.plain (OpenSpec.upto graphRightSpec)) graphRightUptoCard

/-- THE SECOND FORM's CARD OF 'tapewrightlaw10.GraphBuilds'. -/
def graphBuildsUptoCard : Claim7 := { stood := { row := graphBuildsUptoRow, standIns := [], harness := (true, "b4971e4d839be196bca8a920682f4e2c88e1ad64a1c2ffa48f931dd8d48f7f20"), looks := false }, kinds := [], alts := [], laidByText := true, laidKinds := [.sentinel], laidTests := true, laidLooks := .later }
def GraphBuildsUptoCardSaid : Prop := Claim7.holds Tryz.pinned (.plain (OpenSpec.upto graphBuildsSpec)) graphBuildsUptoCard

/-- THE SECOND FORM's CARD OF 'tapewrightlaw10.GraphLoss'. -/
def graphLossUptoCard : Claim7 := { stood := { row := graphLossUptoRow, standIns := [], harness := (true, "b4971e4d839be196bca8a920682f4e2c88e1ad64a1c2ffa48f931dd8d48f7f20"), looks := false }, kinds := [], alts := [], laidByText := true, laidKinds := [.sentinel], laidTests := true, laidLooks := .later }
def GraphLossUptoCardSaid : Prop := Claim7.holds Tryz.pinned (.plain (OpenSpec.upto graphLossSpec)) graphLossUptoCard
end Rows
end Go.Proofs.YtadgnafafdfioaaGreatDoor
