/-
  NARROWER THAN 'FOR EVERY INPUT', by the rows' own cells (each row's printed sentence says how): GraphShapes: laid · GraphNames: laid · GraphMore: laid.
  DERIVED. THE GIVEN ROWS OF THIS SEAT. 3 by the template 'for every input the law returns true; each argument reads behind the call as it read before'; 0 by the template 'total and deterministic' (their statements: YtadgnafafdfioaaDoorTotals.lean).
  GIVEN WITH THE SEED: the statements are not yours to turn. If you find one false, say at which input.
  Laid BY PROGRAM, IN A SANDBOX (cutbox-rows.mjs): the forced cells as the released guide's own fill.sh prints them over the translation 8d65e27e0241c3e2… (all of the seat's roots in one cut). By AI agents, Wed Nov 11 2026. No macro, syntax, notation, axiom, sorry.
-/
import Derived.Test.YtadgnafafdfioaaDoorChecked
import GoSem.Claim
import GoSem.ClaimJoined
import GoSem.ClaimMapViews
import Derived.JoinedTies
import Derived.KernelRfl
namespace Go.Proofs.YtadgnafafdfioaaDoor
/- THE CELL 'sum', in the pinned program and in every row, IS THE sha256 OF THE DUMP (.gsa) THAT YtadgnafafdfioaaDoorProg.lean LOADS. Nothing in Lean hashes anything: it is a label: what it is worth is what the hold of that sum in a sandbox is worth. -/
noncomputable def Tryd.pinned : Pinned := { name := "ytadgnafafdfioaadoor", sum := "8d65e27e0241c3e29ea5a7687540ae4deb956432658119a79024727edb548cba", checked := Tryd.checked }
namespace Rows
def none {H : Type} : Left H := { results := [], args := [] }

/- WHAT THE LISTED PACKAGE-LEVEL VARIABLES READ AS WHEN THE CALL BEGINS. Each datum BY PROGRAM (the guide's laid-datum.mjs) off the statement by which the dump's own 'gosem.cut.vars' lays the variable. In a bare row this is a premise. The card (YtadgnafafdfioaaDoorCards.lean) ties it to the program's text. -/
def laid_tapewright_rat_errForm {H : Type} : DataW H := .iface "*errors.errorString" (.ptr (.agg [.lit (.string [110, 111, 116, 32, 111, 102, 32, 116, 104, 101, 32, 102, 111, 114, 109, 32, 116, 104, 97, 116, 32, 105, 115, 32, 97, 115, 107, 101, 100, 32, 102, 111, 114])]))

/-- 'tapewrightlaw10.GraphShapes': WHATEVER THE INPUT: true; the input reads as it did. -/
def graphShapesSpec : ChangeSpec := { name := "graphShapes", fn := fun _ => fun
  | [d] => { results := [.lit (.bool true)], args := [d] }
  | _ => none }
def graphShapesRow : OpenClaim := { program := "ytadgnafafdfioaadoor", sum := "8d65e27e0241c3e29ea5a7687540ae4deb956432658119a79024727edb548cba", func := "tapewright/tapewrightlaw10.GraphShapes", spec := "graphShapes", inPlace := ["internal/bytealg.IndexByteString", "internal/bytealg.IndexString", "internal/bytealg.abigen_runtime_cmpstring"], named := ["tapewright/rat.errForm", "internal/bytealg.MaxLen"], apart := false, laid := [("tapewright/rat.errForm", laid_tapewright_rat_errForm)] }
def GraphShapesSaid : Prop := graphShapesRow.holds Tryd.pinned (OpenSpec.ofChange graphShapesSpec)

/-- ITS FALSE NEIGHBOUR: 'it returns false'. Refute it at one input. -/
def graphShapesWrong : ChangeSpec := { name := "graphShapes", fn := fun _ => fun
  | [d] => { results := [.lit (.bool false)], args := [d] }
  | _ => none }
def GraphShapesWrongFalsely : Prop := graphShapesRow.holds Tryd.pinned (OpenSpec.ofChange graphShapesWrong)

/-- 'tapewrightlaw10.GraphNames': WHATEVER THE INPUT: true; the input reads as it did. -/
def graphNamesSpec : ChangeSpec := { name := "graphNames", fn := fun _ => fun
  | [d1, d2] => { results := [.lit (.bool true)], args := [d1, d2] }
  | _ => none }
def graphNamesRow : OpenClaim := { program := "ytadgnafafdfioaadoor", sum := "8d65e27e0241c3e29ea5a7687540ae4deb956432658119a79024727edb548cba", func := "tapewright/tapewrightlaw10.GraphNames", spec := "graphNames", inPlace := ["internal/bytealg.IndexByteString", "internal/bytealg.IndexString", "internal/bytealg.abigen_runtime_cmpstring"], named := ["tapewright/rat.errForm", "internal/bytealg.MaxLen"], apart := false, laid := [("tapewright/rat.errForm", laid_tapewright_rat_errForm)] }
def GraphNamesSaid : Prop := graphNamesRow.holds Tryd.pinned (OpenSpec.ofChange graphNamesSpec)

/-- ITS FALSE NEIGHBOUR: 'it returns false'. Refute it at one input. -/
def graphNamesWrong : ChangeSpec := { name := "graphNames", fn := fun _ => fun
  | [d1, d2] => { results := [.lit (.bool false)], args := [d1, d2] }
  | _ => none }
def GraphNamesWrongFalsely : Prop := graphNamesRow.holds Tryd.pinned (OpenSpec.ofChange graphNamesWrong)

/-- 'tapewrightlaw10.GraphMore': WHATEVER THE INPUT: true; the input reads as it did. -/
def graphMoreSpec : ChangeSpec := { name := "graphMore", fn := fun _ => fun
  | [d1, d2] => { results := [.lit (.bool true)], args := [d1, d2] }
  | _ => none }
def graphMoreRow : OpenClaim := { program := "ytadgnafafdfioaadoor", sum := "8d65e27e0241c3e29ea5a7687540ae4deb956432658119a79024727edb548cba", func := "tapewright/tapewrightlaw10.GraphMore", spec := "graphMore", inPlace := ["internal/bytealg.IndexByteString", "internal/bytealg.IndexString", "internal/bytealg.abigen_runtime_cmpstring"], named := ["tapewright/rat.errForm", "internal/bytealg.MaxLen"], apart := false, laid := [("tapewright/rat.errForm", laid_tapewright_rat_errForm)] }
def GraphMoreSaid : Prop := graphMoreRow.holds Tryd.pinned (OpenSpec.ofChange graphMoreSpec)

/-- ITS FALSE NEIGHBOUR: 'it returns false'. Refute it at one input. -/
def graphMoreWrong : ChangeSpec := { name := "graphMore", fn := fun _ => fun
  | [d1, d2] => { results := [.lit (.bool false)], args := [d1, d2] }
  | _ => none }
def GraphMoreWrongFalsely : Prop := graphMoreRow.holds Tryd.pinned (OpenSpec.ofChange graphMoreWrong)

/- THE SECOND FORM. 'bulk': how many values and letters a reading holds, each counted each time it is reached (what is shared counts as often as it is met; a slice's spare places count too). A statement '..UptoSaid' is the law's where the arguments, and the package variables that the reading takes, are together of bulk at most 1048576: NARROWER than '..Said'. Prove '..Said' where nothing that the law and all that it calls make is longer than what came in: it says more and counts as full. Else prove '..UptoSaid'. A law counts once. -/
mutual
def uptoBulk {H : Type} : DataW H → Nat
  | .lit (.string bytes) => bytes.length + 1
  | .lit _ => 1
  | .nil => 1
  | .ptr d => uptoBulk d + 1
  | .slice elems spare => uptoBulkAll elems + uptoBulkAll spare + 1
  | .agg parts => uptoBulkAll parts + 1
  | .iface _ d => uptoBulk d + 1
  | .map entries => uptoBulkEntries entries + 1
  | .held _ => 1
def uptoBulkAll {H : Type} : List (DataW H) → Nat
  | [] => 0
  | d :: r => uptoBulk d + uptoBulkAll r
def uptoBulkEntries {H : Type} : List (Lit × DataW H) → Nat
  | [] => 0
  | x :: r => uptoBulkEntry x + uptoBulkEntries r
def uptoBulkEntry {H : Type} : Lit × DataW H → Nat
  | (.string bytes, d) => bytes.length + uptoBulk d + 1
  | (_, d) => uptoBulk d + 1
 end
def uptoSmall : (H : Type) → List (DataW H) → Bool := fun _ ds => decide (uptoBulkAll ds ≤ 1048576)
def OpenSpec.upto (s : _root_.Go.ChangeSpec) : _root_.Go.OpenSpec := { _root_.Go.OpenSpec.ofChange s with cond := some uptoSmall }

/-- 'tapewrightlaw10.GraphShapes', WHERE WHAT IT READS IS OF BULK AT MOST 1048576: true; the input reads as it did. -/
def graphShapesUptoRow : OpenClaim := { program := "ytadgnafafdfioaadoor", sum := "8d65e27e0241c3e29ea5a7687540ae4deb956432658119a79024727edb548cba", func := "tapewright/tapewrightlaw10.GraphShapes", spec := "graphShapes", inPlace := ["internal/bytealg.IndexByteString", "internal/bytealg.IndexString", "internal/bytealg.abigen_runtime_cmpstring"], named := ["tapewright/rat.errForm", "internal/bytealg.MaxLen"], apart := false, laid := [("tapewright/rat.errForm", laid_tapewright_rat_errForm)], narrowed := true }
def GraphShapesUptoSaid : Prop := graphShapesUptoRow.holds Tryd.pinned (OpenSpec.upto graphShapesSpec)

/-- 'tapewrightlaw10.GraphNames', WHERE WHAT IT READS IS OF BULK AT MOST 1048576: true; the input reads as it did. -/
def graphNamesUptoRow : OpenClaim := { program := "ytadgnafafdfioaadoor", sum := "8d65e27e0241c3e29ea5a7687540ae4deb956432658119a79024727edb548cba", func := "tapewright/tapewrightlaw10.GraphNames", spec := "graphNames", inPlace := ["internal/bytealg.IndexByteString", "internal/bytealg.IndexString", "internal/bytealg.abigen_runtime_cmpstring"], named := ["tapewright/rat.errForm", "internal/bytealg.MaxLen"], apart := false, laid := [("tapewright/rat.errForm", laid_tapewright_rat_errForm)], narrowed := true }
def GraphNamesUptoSaid : Prop := graphNamesUptoRow.holds Tryd.pinned (OpenSpec.upto graphNamesSpec)

/-- 'tapewrightlaw10.GraphMore', WHERE WHAT IT READS IS OF BULK AT MOST 1048576: true; the input reads as it did. -/
def graphMoreUptoRow : OpenClaim := { program := "ytadgnafafdfioaadoor", sum := "8d65e27e0241c3e29ea5a7687540ae4deb956432658119a79024727edb548cba", func := "tapewright/tapewrightlaw10.GraphMore", spec := "graphMore", inPlace := ["internal/bytealg.IndexByteString", "internal/bytealg.IndexString", "internal/bytealg.abigen_runtime_cmpstring"], named := ["tapewright/rat.errForm", "internal/bytealg.MaxLen"], apart := false, laid := [("tapewright/rat.errForm", laid_tapewright_rat_errForm)], narrowed := true }
def GraphMoreUptoSaid : Prop := graphMoreUptoRow.holds Tryd.pinned (OpenSpec.upto graphMoreSpec)

end Rows
end Go.Proofs.YtadgnafafdfioaaDoor
