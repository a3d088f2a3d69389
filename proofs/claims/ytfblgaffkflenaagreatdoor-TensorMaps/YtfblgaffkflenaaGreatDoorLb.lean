/-
  WHAT IS REFUSED, AND STEPS OF A REGION THAT DRAWS, as the laws' walks take them. Conditions: each theorem's own.
-/
import Derived.Test.YtfblgaffkflenaaGreatDoorDz
namespace Go.Proofs.YtfblgaffkflenaaGreatDoor.Tn
set_option maxRecDepth 100000
open Go.RowKit Nm
set_option linter.unusedVariables false

theorem cf13 : ∀ (args : Array Value) (w : World), (callFunc 13 args).run Tryz.prog w = .ok (.enter 13 args) w := fun a w => run_enter Tryz.func13 (by kernel_rfl) rfl a w
theorem cf18 : ∀ (args : Array Value) (w : World), (callFunc 18 args).run Tryz.prog w = .ok (.enter 18 args) w := fun a w => run_enter Tryz.func18 (by kernel_rfl) rfl a w
theorem run_none {P : Program} {f : Nat} (hcf : ∀ (args : Array Value) (w : World), (callFunc f args).run P w = .ok (.enter f args) w) {o : Oper} {a : Act} {w : World} (ho : o.op = .call { callee := .value (.func f), args := #[], argTypes := #[] }) :
    (execOp a.eval o).run P w = .ok (.enter f #[]) w := by
  have hf : a.eval (.func f) = .func (.func f) #[] #[] := rfl
  simp [execOp, ho, resolve, invoke, Deferred.ofValue, hcf, hf]
/-- a value that is a tensor of these numbers -/
def Nt (zs : List Int) (m n : Nat) (qs : List Rat) (bd : Nat) (v : World) (x : Value) : Prop := ∃ a9 c9 b9 d9, x = .agg #[.slice a9 m c9, .slice b9 n d9] ∧ Tt v 0 a9 b9 zs m n qs bd
theorem step_runw {P : Program} {ops : Array Oper} {Q : Exit → Act → World → Prop} {i : Nat} {o : Oper} {K : Act → World → Prop} {a : Act} {w : World} (ho : ops[i]? = some o) (hw : Region.wanted o (yielded ops a.tmps) = true) (h : o.wp P a w K Q) : wpOp P ops Q i K a w := by
  unfold wpOp
  rw [ho]
  simp only [hw, if_true]
  exact Or.inl h
section
variable {a1 b1 : Option Addr} {B1 m1 n1 : Nat} {zs : List Int} {xs : List ByteArray} {aF aZ : Addr} {w : World}
theorem sfail (c1 d1 : Nat) (y : ByteArray) (hE : Er w aF aZ) (h1 : Ta w B1 a1 b1 zs xs) (e1 : zs.length = m1) (e2 : xs.length = n1) (hy : y.size ≤ 200000) (hbad : (tn zs xs && ra y) = false) :
    Calls Tryz.prog 20 #[.agg #[.slice a1 m1 c1, .slice b1 n1 d1], .string y] w fun e w' => e = .returned (noTensor 1) ∧ Below w.heap.size w w' := by
  subst e1 e2
  exact Scale_no a1 b1 c1 d1 B1 zs xs y hy aF aZ w hE h1 hbad
theorem pfail (c1 d1 : Nat) (y : Int) (hE : Er w aF aZ) (h1 : Ta w B1 a1 b1 zs xs) (e1 : zs.length = m1) (e2 : xs.length = n1) (hs : ∀ x, x ∈ xs → x.size ≤ 50000) (hbad : tn zs xs = false ∨ y < 0 ∨ 6 < y) :
    Calls Tryz.prog 21 #[.agg #[.slice a1 m1 c1, .slice b1 n1 d1], .int .i64 y] w fun e w' => e = .returned (noTensor 1) ∧ Below w.heap.size w w' := by
  subst e1 e2
  exact Pow_no a1 b1 c1 d1 B1 zs xs y aF aZ w hE h1 hbad hs
theorem Ta.rright {B : Nat} (h : Ta w B a1 b1 zs xs) (hs : Tn.small zs xs = true) (c1 d1 : Nat) :
    Calls Tryz.prog 16 #[.agg #[.slice a1 zs.length c1, .slice b1 xs.length d1]] w fun e w' => e = .returned (.bool (tn zs xs)) ∧ Below w.heap.size w w' :=
  rright_any a1 b1 zs xs c1 d1 B w h.m h.zl h.xl (fun x hx => by have := (small_of hs).2.2 x hx; omega)
end
end Go.Proofs.YtfblgaffkflenaaGreatDoor.Tn
