/-
  NARROWER THAN 'FOR EVERY INPUT', by the rows' own cells (each row's printed sentence says how): ReadOne: laid · ReadDims: laid · ReadText: laid.
  DERIVED. THE GIVEN ROWS OF THIS SEAT. 3 by the template 'for every input the law returns true; each argument reads behind the call as it read before'; 0 by the template 'total and deterministic' (their statements: YtokfkmncabmmcaaDoorTotals.lean).
  GIVEN WITH THE SEED: the statements are not yours to turn. If you find one false, say at which input.
  Laid BY PROGRAM, IN A SANDBOX (cutbox-rows.mjs): the forced cells as the released guide's own fill.sh prints them over the translation f32e553728b4c54d… (all of the seat's roots in one cut). By AI agents, Wed Nov 11 2026. No macro, syntax, notation, axiom, sorry.
-/
import Derived.Test.YtokfkmncabmmcaaDoorChecked
import GoSem.Claim
import GoSem.ClaimJoined
import GoSem.ClaimMapViews
import Derived.JoinedTies
import Derived.KernelRfl
namespace Go.Proofs.YtokfkmncabmmcaaDoor
/- THE CELL 'sum', in the pinned program and in every row, IS THE sha256 OF THE DUMP (.gsa) THAT YtokfkmncabmmcaaDoorProg.lean LOADS. Nothing in Lean hashes anything: it is a label: what it is worth is what the hold of that sum in a sandbox is worth. -/
noncomputable def Tryd.pinned : Pinned := { name := "ytokfkmncabmmcaadoor", sum := "f32e553728b4c54d9d7c0cba702c9e864cefc78633b1de51d7c466782241f2c8", checked := Tryd.checked }
namespace Rows
def none {H : Type} : Left H := { results := [], args := [] }

/- WHAT THE LISTED PACKAGE-LEVEL VARIABLES READ AS WHEN THE CALL BEGINS. Each datum BY PROGRAM (the guide's laid-datum.mjs) off the statement by which the dump's own 'gosem.cut.vars' lays the variable. In a bare row this is a premise. The card (YtokfkmncabmmcaaDoorCards.lean) ties it to the program's text. -/
def laid_tapewright_rat_errForm {H : Type} : DataW H := .iface "*errors.errorString" (.ptr (.agg [.lit (.string [110, 111, 116, 32, 111, 102, 32, 116, 104, 101, 32, 102, 111, 114, 109, 32, 116, 104, 97, 116, 32, 105, 115, 32, 97, 115, 107, 101, 100, 32, 102, 111, 114])]))

/-- 'tapewrightlaw09.ReadOne': WHATEVER THE INPUT: true; the input reads as it did. -/
def readOneSpec : ChangeSpec := { name := "readOne", fn := fun _ => fun
  | [d] => { results := [.lit (.bool true)], args := [d] }
  | _ => none }
def readOneRow : OpenClaim := { program := "ytokfkmncabmmcaadoor", sum := "f32e553728b4c54d9d7c0cba702c9e864cefc78633b1de51d7c466782241f2c8", func := "tapewright/tapewrightlaw09.ReadOne", spec := "readOne", inPlace := ["internal/bytealg.IndexByteString", "internal/bytealg.IndexString", "internal/bytealg.abigen_runtime_cmpstring"], unfollowed := true, recurses := true, named := ["internal/bytealg.MaxLen", "tapewright/rat.errForm"], apart := false, laid := [("tapewright/rat.errForm", laid_tapewright_rat_errForm)] }
def ReadOneSaid : Prop := readOneRow.holds Tryd.pinned (OpenSpec.ofChange readOneSpec)

/-- ITS FALSE NEIGHBOUR: 'it returns false'. Refute it at one input. -/
def readOneWrong : ChangeSpec := { name := "readOne", fn := fun _ => fun
  | [d] => { results := [.lit (.bool false)], args := [d] }
  | _ => none }
def ReadOneWrongFalsely : Prop := readOneRow.holds Tryd.pinned (OpenSpec.ofChange readOneWrong)

/-- 'tapewrightlaw09.ReadDims': WHATEVER THE INPUT: true; the input reads as it did. -/
def readDimsSpec : ChangeSpec := { name := "readDims", fn := fun _ => fun
  | [d] => { results := [.lit (.bool true)], args := [d] }
  | _ => none }
def readDimsRow : OpenClaim := { program := "ytokfkmncabmmcaadoor", sum := "f32e553728b4c54d9d7c0cba702c9e864cefc78633b1de51d7c466782241f2c8", func := "tapewright/tapewrightlaw09.ReadDims", spec := "readDims", inPlace := ["internal/bytealg.IndexByteString", "internal/bytealg.IndexString", "internal/bytealg.abigen_runtime_cmpstring"], unfollowed := true, recurses := true, named := ["internal/bytealg.MaxLen", "tapewright/rat.errForm"], apart := false, laid := [("tapewright/rat.errForm", laid_tapewright_rat_errForm)] }
def ReadDimsSaid : Prop := readDimsRow.holds Tryd.pinned (OpenSpec.ofChange readDimsSpec)

/-- ITS FALSE NEIGHBOUR: 'it returns false'. Refute it at one input. -/
def readDimsWrong : ChangeSpec := { name := "readDims", fn := fun _ => fun
  | [d] => { results := [.lit (.bool false)], args := [d] }
  | _ => none }
def ReadDimsWrongFalsely : Prop := readDimsRow.holds Tryd.pinned (OpenSpec.ofChange readDimsWrong)

/-- 'tapewrightlaw09.ReadText': WHATEVER THE INPUT: true; the input reads as it did. -/
def readTextSpec : ChangeSpec := { name := "readText", fn := fun _ => fun
  | [d] => { results := [.lit (.bool true)], args := [d] }
  | _ => none }
def readTextRow : OpenClaim := { program := "ytokfkmncabmmcaadoor", sum := "f32e553728b4c54d9d7c0cba702c9e864cefc78633b1de51d7c466782241f2c8", func := "tapewright/tapewrightlaw09.ReadText", spec := "readText", inPlace := ["internal/bytealg.IndexByteString", "internal/bytealg.IndexString", "internal/bytealg.abigen_runtime_cmpstring"], unfollowed := true, recurses := true, named := ["internal/bytealg.MaxLen", "tapewright/rat.errForm"], apart := false, laid := [("tapewright/rat.errForm", laid_tapewright_rat_errForm)] }
def ReadTextSaid : Prop := readTextRow.holds Tryd.pinned (OpenSpec.ofChange readTextSpec)

/-- ITS FALSE NEIGHBOUR: 'it returns false'. Refute it at one input. -/
def readTextWrong : ChangeSpec := { name := "readText", fn := fun _ => fun
  | [d] => { results := [.lit (.bool false)], args := [d] }
  | _ => none }
def ReadTextWrongFalsely : Prop := readTextRow.holds Tryd.pinned (OpenSpec.ofChange readTextWrong)

/- THE SECOND FORM. 'bulk': how many values and letters a reading holds, each counted each time it is reached (what is shared counts as often as it is met; a slice's spare places count too). A statement '..UptoSaid' is the law's where the arguments, and the package variables that the reading takes, are together of bulk at most 1048576: NARROWER than '..Said'. Prove '..Said' where nothing that the law and all that it calls make is longer than what came in: it says more and counts as full. Else prove '..UptoSaid'. A law counts once. -/
mutual
def uptoBulk {H : Type} : DataW H → Nat
  | .lit (.string bytes) => bytes.length + 1
  | .lit _ => 1
  | .nil => 1
  | .ptr d => uptoBulk d + 1
  | .slice elems spare => uptoBulkAll elems + uptoBulkAll spare + 1
  | .agg parts => uptoBulkAll parts + 1
  | .iface _ d => uptoBulk d + 1
  | .map entries => uptoBulkEntries entries + 1
  | .held _ => 1
def uptoBulkAll {H : Type} : List (DataW H) → Nat
  | [] => 0
  | d :: r => uptoBulk d + uptoBulkAll r
def uptoBulkEntries {H : Type} : List (Lit × DataW H) → Nat
  | [] => 0
  | x :: r => uptoBulkEntry x + uptoBulkEntries r
def uptoBulkEntry {H : Type} : Lit × DataW H → Nat
  | (.string bytes, d) => bytes.length + uptoBulk d + 1
  | (_, d) => uptoBulk d + 1
 end
def uptoSmall : (H : Type) → List (DataW H) → Bool := fun _ ds => decide (uptoBulkAll ds ≤ 1048576)
def OpenSpec.upto (s : _root_.Go.ChangeSpec) : _root_.Go.OpenSpec := { _root_.Go.OpenSpec.ofChange s with cond := some uptoSmall }

/-- 'tapewrightlaw09.ReadOne', WHERE WHAT IT READS IS OF BULK AT MOST 1048576: true; the input reads as it did. -/
def readOneUptoRow : OpenClaim := { program := "ytokfkmncabmmcaadoor", sum := "f32e553728b4c54d9d7c0cba702c9e864cefc78633b1de51d7c466782241f2c8", func := "tapewright/tapewrightlaw09.ReadOne", spec := "readOne", inPlace := ["internal/bytealg.IndexByteString", "internal/bytealg.IndexString", "internal/bytealg.abigen_runtime_cmpstring"], unfollowed := true, recurses := true, named := ["internal/bytealg.MaxLen", "tapewright/rat.errForm"], apart := false, laid := [("tapewright/rat.errForm", laid_tapewright_rat_errForm)], narrowed := true }
def ReadOneUptoSaid : Prop := readOneUptoRow.holds Tryd.pinned (OpenSpec.upto readOneSpec)

/-- 'tapewrightlaw09.ReadDims', WHERE WHAT IT READS IS OF BULK AT MOST 1048576: true; the input reads as it did. -/
def readDimsUptoRow : OpenClaim := { program := "ytokfkmncabmmcaadoor", sum := "f32e553728b4c54d9d7c0cba702c9e864cefc78633b1de51d7c466782241f2c8", func := "tapewright/tapewrightlaw09.ReadDims", spec := "readDims", inPlace := ["internal/bytealg.IndexByteString", "internal/bytealg.IndexString", "internal/bytealg.abigen_runtime_cmpstring"], unfollowed := true, recurses := true, named := ["internal/bytealg.MaxLen", "tapewright/rat.errForm"], apart := false, laid := [("tapewright/rat.errForm", laid_tapewright_rat_errForm)], narrowed := true }
def ReadDimsUptoSaid : Prop := readDimsUptoRow.holds Tryd.pinned (OpenSpec.upto readDimsSpec)

/-- 'tapewrightlaw09.ReadText', WHERE WHAT IT READS IS OF BULK AT MOST 1048576: true; the input reads as it did. -/
def readTextUptoRow : OpenClaim := { program := "ytokfkmncabmmcaadoor", sum := "f32e553728b4c54d9d7c0cba702c9e864cefc78633b1de51d7c466782241f2c8", func := "tapewright/tapewrightlaw09.ReadText", spec := "readText", inPlace := ["internal/bytealg.IndexByteString", "internal/bytealg.IndexString", "internal/bytealg.abigen_runtime_cmpstring"], unfollowed := true, recurses := true, named := ["internal/bytealg.MaxLen", "tapewright/rat.errForm"], apart := false, laid := [("tapewright/rat.errForm", laid_tapewright_rat_errForm)], narrowed := true }
def ReadTextUptoSaid : Prop := readTextUptoRow.holds Tryd.pinned (OpenSpec.upto readTextSpec)

end Rows
end Go.Proofs.YtokfkmncabmmcaaDoor
