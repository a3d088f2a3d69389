/-
  WHAT IS REFUSED, AND STEPS OF A REGION THAT DRAWS, as the laws' walks take them. Conditions: each theorem's own.
-/
import Derived.Test.YtjkobbpebnkimaaGreatDoorIv
namespace Go.Proofs.YtjkobbpebnkimaaGreatDoor.Tn
set_option maxRecDepth 100000
open Go.RowKit Nm
set_option linter.unusedVariables false

theorem cf19 : ∀ (args : Array Value) (w : World), (callFunc 19 args).run Tryz.prog w = .ok (.enter 19 args) w := fun a w => run_enter Tryz.func19 (by kernel_rfl) rfl a w
theorem run_none {P : Program} {f : Nat} (hcf : ∀ (args : Array Value) (w : World), (callFunc f args).run P w = .ok (.enter f args) w) {o : Oper} {a : Act} {w : World} (ho : o.op = .call { callee := .value (.func f), args := #[], argTypes := #[] }) :
    (execOp a.eval o).run P w = .ok (.enter f #[]) w := by
  have hf : a.eval (.func f) = .func (.func f) #[] #[] := rfl
  simp [execOp, ho, resolve, invoke, Deferred.ofValue, hcf, hf]
/-- a value that is a tensor of these numbers -/
def Nt (zs : List Int) (m n : Nat) (qs : List Rat) (bd : Nat) (v : World) (x : Value) : Prop := ∃ a9 c9 b9 d9, x = .agg #[.slice a9 m c9, .slice b9 n d9] ∧ Tt v 0 a9 b9 zs m n qs bd
theorem step_runw {P : Program} {ops : Array Oper} {Q : Exit → Act → World → Prop} {i : Nat} {o : Oper} {K : Act → World → Prop} {a : Act} {w : World} (ho : ops[i]? = some o) (hw : Region.wanted o (yielded ops a.tmps) = true) (h : o.wp P a w K Q) : wpOp P ops Q i K a w := by
  unfold wpOp
  rw [ho]
  simp only [hw, if_true]
  exact Or.inl h
section
variable {a1 b1 : Option Addr} {B1 m1 n1 : Nat} {zs : List Int} {xs : List ByteArray} {aF aZ : Addr} {w : World}
theorem Ta.rright {B : Nat} (h : Ta w B a1 b1 zs xs) (hs : Tn.small zs xs = true) (c1 d1 : Nat) :
    Calls Tryz.prog 18 #[.agg #[.slice a1 zs.length c1, .slice b1 xs.length d1]] w fun e w' => e = .returned (.bool (tn zs xs)) ∧ Below w.heap.size w w' :=
  rright_any a1 b1 zs xs c1 d1 B w h.m h.zl h.xl (fun x hx => by have := (small_of hs).2.2 x hx; omega)
end
end Go.Proofs.YtjkobbpebnkimaaGreatDoor.Tn
