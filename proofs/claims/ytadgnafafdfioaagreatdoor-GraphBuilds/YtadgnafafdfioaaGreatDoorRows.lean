/-
  NARROWER THAN 'FOR EVERY INPUT', by the rows' own cells (each row's printed sentence says how): GraphRight: laid · GraphBuilds: laid · GraphLoss: laid.
  DERIVED. THE GIVEN ROWS OF THIS SEAT. 3 by the template 'for every input the law returns true; each argument reads behind the call as it read before'; 0 by the template 'total and deterministic' (their statements: YtadgnafafdfioaaGreatDoorTotals.lean).
  GIVEN WITH THE SEED: the statements are not yours to turn. If you find one false, say at which input.
  Laid BY PROGRAM, IN A SANDBOX (cutbox-rows.mjs): the forced cells as the released guide's own fill.sh prints them over the translation a9275f27e6ba63ea… (all of the seat's roots in one cut). By AI agents, Wed Nov 11 2026. No macro, syntax, notation, axiom, sorry.
-/
import Derived.Test.YtadgnafafdfioaaGreatDoorChecked
import GoSem.Claim
import GoSem.ClaimJoined
import GoSem.ClaimMapViews
import Derived.JoinedTies
import Derived.KernelRfl
namespace Go.Proofs.YtadgnafafdfioaaGreatDoor
/- THE CELL 'sum', in the pinned program and in every row, IS THE sha256 OF THE DUMP (.gsa) THAT YtadgnafafdfioaaGreatDoorProg.lean LOADS. Nothing in Lean hashes anything: it is a label: what it is worth is what the hold of that sum in a sandbox is worth. -/
noncomputable def Tryz.pinned : Pinned := { name := "ytadgnafafdfioaagreatdoor", sum := "a9275f27e6ba63ea37bd7ea5870393c714c7fbc32a149eec69ffd6be6005c2eb", checked := Tryz.checked }
namespace Rows
def none {H : Type} : Left H := { results := [], args := [] }

/- WHAT THE LISTED PACKAGE-LEVEL VARIABLES READ AS WHEN THE CALL BEGINS. Each datum BY PROGRAM (the guide's laid-datum.mjs) off the statement by which the dump's own 'gosem.cut.vars' lays the variable. In a bare row this is a premise. The card (YtadgnafafdfioaaGreatDoorCards.lean) ties it to the program's text. -/
def laid_tapewright_rat_errForm {H : Type} : DataW H := .iface "*errors.errorString" (.ptr (.agg [.lit (.string [110, 111, 116, 32, 111, 102, 32, 116, 104, 101, 32, 102, 111, 114, 109, 32, 116, 104, 97, 116, 32, 105, 115, 32, 97, 115, 107, 101, 100, 32, 102, 111, 114])]))

/-- 'tapewrightlaw10.GraphRight': WHATEVER THE INPUT: true; the input reads as it did. -/
def graphRightSpec : ChangeSpec := { name := "graphRight", fn := fun _ => fun
  | [d1, d2] => { results := [.lit (.bool true)], args := [d1, d2] }
  | _ => none }
def graphRightRow : OpenClaim := { program := "ytadgnafafdfioaagreatdoor", sum := "a9275f27e6ba63ea37bd7ea5870393c714c7fbc32a149eec69ffd6be6005c2eb", func := "tapewright/tapewrightlaw10.GraphRight", spec := "graphRight", inPlace := ["internal/bytealg.IndexByteString", "internal/bytealg.IndexString", "internal/bytealg.abigen_runtime_cmpstring"], named := ["tapewright/rat.errForm", "internal/bytealg.MaxLen"], apart := false, laid := [("tapewright/rat.errForm", laid_tapewright_rat_errForm)] }
def GraphRightSaid : Prop := graphRightRow.holds Tryz.pinned (OpenSpec.ofChange graphRightSpec)

/-- ITS FALSE NEIGHBOUR: 'it returns false'. Refute it at one input. -/
def graphRightWrong : ChangeSpec := { name := "graphRight", fn := fun _ => fun
  | [d1, d2] => { results := [.lit (.bool false)], args := [d1, d2] }
  | _ => none }
def GraphRightWrongFalsely : Prop := graphRightRow.holds Tryz.pinned (OpenSpec.ofChange graphRightWrong)

/-- 'tapewrightlaw10.GraphBuilds': WHATEVER THE INPUT: true; the input reads as it did. -/
def graphBuildsSpec : ChangeSpec := { name := "graphBuilds", fn := fun _ => fun
  | [d] => { results := [.lit (.bool true)], args := [d] }
  | _ => none }
def graphBuildsRow : OpenClaim := { program := "ytadgnafafdfioaagreatdoor", sum := "a9275f27e6ba63ea37bd7ea5870393c714c7fbc32a149eec69ffd6be6005c2eb", func := "tapewright/tapewrightlaw10.GraphBuilds", spec := "graphBuilds", inPlace := ["internal/bytealg.IndexByteString", "internal/bytealg.IndexString", "internal/bytealg.abigen_runtime_cmpstring"], unfollowed := true, recurses := true, named := ["tapewright/rat.errForm", "internal/bytealg.MaxLen"], apart := false, laid := [("tapewright/rat.errForm", laid_tapewright_rat_errForm)] }
def GraphBuildsSaid : Prop := graphBuildsRow.holds Tryz.pinned (OpenSpec.ofChange graphBuildsSpec)

/-- ITS FALSE NEIGHBOUR: 'it returns false'. Refute it at one input. -/
def graphBuildsWrong : ChangeSpec := { name := "graphBuilds", fn := fun _ => fun
  | [d] => { results := [.lit (.bool false)], args := [d] }
  | _ => none }
def GraphBuildsWrongFalsely : Prop := graphBuildsRow.holds Tryz.pinned (OpenSpec.ofChange graphBuildsWrong)

/-- 'tapewrightlaw10.GraphLoss': WHATEVER THE INPUT: true; the input reads as it did. -/
def graphLossSpec : ChangeSpec := { name := "graphLoss", fn := fun _ => fun
  | [d1, d2] => { results := [.lit (.bool true)], args := [d1, d2] }
  | _ => none }
def graphLossRow : OpenClaim := { program := "ytadgnafafdfioaagreatdoor", sum := "a9275f27e6ba63ea37bd7ea5870393c714c7fbc32a149eec69ffd6be6005c2eb", func := "tapewright/tapewrightlaw10.GraphLoss", spec := "graphLoss", inPlace := ["internal/bytealg.IndexByteString", "internal/bytealg.IndexString", "internal/bytealg.abigen_runtime_cmpstring"], named := ["tapewright/rat.errForm", "internal/bytealg.MaxLen"], apart := false, laid := [("tapewright/rat.errForm", laid_tapewright_rat_errForm)] }
def GraphLossSaid : Prop := graphLossRow.holds Tryz.pinned (OpenSpec.ofChange graphLossSpec)

/-- ITS FALSE NEIGHBOUR: 'it returns false'. Refute it at one input. -/
def graphLossWrong : ChangeSpec := { name := "graphLoss", fn := fun _ => fun
  | [d1, d2] => { results := [.lit (.bool false)], args := [d1, d2] }
  | _ => none }
def GraphLossWrongFalsely : Prop := graphLossRow.holds Tryz.pinned (OpenSpec.ofChange graphLossWrong)

/- THE SECOND FORM. 'bulk': how many values and letters a reading holds, each counted each time it is reached (what is shared counts as often as it is met; a slice's spare places count too). A statement '..UptoSaid' is the law's where the arguments, and the package variables that the reading takes, are together of bulk at most 1048576: NARROWER than '..Said'. Prove '..Said' where nothing that the law and all that it calls make is longer than what came in: it says more and counts as full. Else prove '..UptoSaid'. A law counts once. -/
mutual
def uptoBulk {H : Type} : DataW H → Nat
  | .lit (.string bytes) => bytes.length + 1
  | .lit _ => 1
  | .nil => 1
  | .ptr d => uptoBulk d + 1
  | .slice elems spare => uptoBulkAll elems + uptoBulkAll spare + 1
  | .agg parts => uptoBulkAll parts + 1
  | .iface _ d => uptoBulk d + 1
  | .map entries => uptoBulkEntries entries + 1
  | .held _ => 1
def uptoBulkAll {H : Type} : List (DataW H) → Nat
  | [] => 0
  | d :: r => uptoBulk d + uptoBulkAll r
def uptoBulkEntries {H : Type} : List (Lit × DataW H) → Nat
  | [] => 0
  | x :: r => uptoBulkEntry x + uptoBulkEntries r
def uptoBulkEntry {H : Type} : Lit × DataW H → Nat
  | (.string bytes, d) => bytes.length + uptoBulk d + 1
  | (_, d) => uptoBulk d + 1
 end
def uptoSmall : (H : Type) → List (DataW H) → Bool := fun _ ds => decide (uptoBulkAll ds ≤ 1048576)
def OpenSpec.upto (s : _root_.Go.ChangeSpec) : _root_.Go.OpenSpec := { _root_.Go.OpenSpec.ofChange s with cond := some uptoSmall }

/-- 'tapewrightlaw10.GraphRight', WHERE WHAT IT READS IS OF BULK AT MOST 1048576: true; the input reads as it did. -/
def graphRightUptoRow : OpenClaim := { program := "ytadgnafafdfioaagreatdoor", sum := "a9275f27e6ba63ea37bd7ea5870393c714c7fbc32a149eec69ffd6be6005c2eb", func := "tapewright/tapewrightlaw10.GraphRight", spec := "graphRight", inPlace := ["internal/bytealg.IndexByteString", "internal/bytealg.IndexString", "internal/bytealg.abigen_runtime_cmpstring"], named := ["tapewright/rat.errForm", "internal/bytealg.MaxLen"], apart := false, laid := [("tapewright/rat.errForm", laid_tapewright_rat_errForm)], narrowed := true }
def GraphRightUptoSaid : Prop := graphRightUptoRow.holds Tryz.pinned (OpenSpec.upto graphRightSpec)

/-- 'tapewrightlaw10.GraphBuilds', WHERE WHAT IT READS IS OF BULK AT MOST 1048576: true; the input reads as it did. -/
def graphBuildsUptoRow : OpenClaim := { program := "ytadgnafafdfioaagreatdoor", sum := "a9275f27e6ba63ea37bd7ea5870393c714c7fbc32a149eec69ffd6be6005c2eb", func := "tapewright/tapewrightlaw10.GraphBuilds", spec := "graphBuilds", inPlace := ["internal/bytealg.IndexByteString", "internal/bytealg.IndexString", "internal/bytealg.abigen_runtime_cmpstring"], unfollowed := true, recurses := true, named := ["tapewright/rat.errForm", "internal/bytealg.MaxLen"], apart := false, laid := [("tapewright/rat.errForm", laid_tapewright_rat_errForm)], narrowed := true }
def GraphBuildsUptoSaid : Prop := graphBuildsUptoRow.holds Tryz.pinned (OpenSpec.upto graphBuildsSpec)

/-- 'tapewrightlaw10.GraphLoss', WHERE WHAT IT READS IS OF BULK AT MOST 1048576: true; the input reads as it did. -/
def graphLossUptoRow : OpenClaim := { program := "ytadgnafafdfioaagreatdoor", sum := "a9275f27e6ba63ea37bd7ea5870393c714c7fbc32a149eec69ffd6be6005c2eb", func := "tapewright/tapewrightlaw10.GraphLoss", spec := "graphLoss", inPlace := ["internal/bytealg.IndexByteString", "internal/bytealg.IndexString", "internal/bytealg.abigen_runtime_cmpstring"], named := ["tapewright/rat.errForm", "internal/bytealg.MaxLen"], apart := false, laid := [("tapewright/rat.errForm", laid_tapewright_rat_errForm)], narrowed := true }
def GraphLossUptoSaid : Prop := graphLossUptoRow.holds Tryz.pinned (OpenSpec.upto graphLossSpec)

end Rows
end Go.Proofs.YtadgnafafdfioaaGreatDoor
