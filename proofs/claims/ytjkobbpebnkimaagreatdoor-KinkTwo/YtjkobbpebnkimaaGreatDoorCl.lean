/-
  THE CLOSURES OF PACKAGE tensor: what a call of each gives. Conditions: each theorem's own.
-/
import Derived.Test.YtjkobbpebnkimaaGreatDoorRg
namespace Go.Proofs.YtjkobbpebnkimaaGreatDoor.Tn
set_option maxRecDepth 100000
open Go.RowKit Nm
set_option linter.unusedVariables false

theorem run_enter {P : Program} {f : FuncId} {fn : Func} {c : Code} (hf : P.funcs[f]? = some fn) (hname : (fn.name == "runtime.NumGoroutine") = false) (hb : fn.body = some c) (args : Array Value) (w : World) :
    (callFunc f args).run P w = .ok (.enter f args) w := by
  have h1 : fn.name ≠ "runtime.NumGoroutine" := by simpa using hname
  simp [callFunc, hf, h1, hb]
theorem cf45 : ∀ (args : Array Value) (w : World), (callFunc 45 args).run Tryz.prog w = .ok (.enter 45 args) w := fun a w => run_enter Tryz.func45 (by kernel_rfl) rfl a w
theorem cf48 : ∀ (args : Array Value) (w : World), (callFunc 48 args).run Tryz.prog w = .ok (.enter 48 args) w := fun a w => run_enter Tryz.func48 (by kernel_rfl) rfl a w
theorem cf51 : ∀ (args : Array Value) (w : World), (callFunc 51 args).run Tryz.prog w = .ok (.enter 51 args) w := fun a w => run_enter Tryz.func51 (by kernel_rfl) rfl a w
theorem cf67 : ∀ (args : Array Value) (w : World), (callFunc 67 args).run Tryz.prog w = .ok (.enter 67 args) w := fun a w => run_enter Tryz.func67 (by kernel_rfl) rfl a w
theorem cf50 : ∀ (args : Array Value) (w : World), (callFunc 50 args).run Tryz.prog w = .ok (.enter 50 args) w := fun a w => run_enter Tryz.func50 (by kernel_rfl) rfl a w

set_option maxHeartbeats 2000000 in
theorem zip1_any (f k n1 n2 d1 d2 p1 q1 p2 q2 bj ba bb : Nat) (x y z : ByteArray) (er : Int) (w : World) (hk1 : k < n1) (hk2 : k < n2) (hn1 : n1 ≤ 1000) (hn2 : n2 ≤ 1000)
    (hcf : ∀ (args : Array Value) (w : World), (callFunc f args).run Tryz.prog w = .ok (.enter f args) w)
    (hj : w.cell? ⟨bj, 0, none⟩ = some (.func (.func f) #[] #[])) (ha : w.cell? ⟨ba, 1, none⟩ = some (.slice (some ⟨p1, q1, none⟩) n1 d1)) (hb : w.cell? ⟨bb, 1, none⟩ = some (.slice (some ⟨p2, q2, none⟩) n2 d2))
    (hx : w.cell? ⟨p1, q1 + k, none⟩ = some (.string x)) (hy : w.cell? ⟨p2, q2 + k, none⟩ = some (.string y))
    (hF : ∀ v, Below w.heap.size w v → Calls Tryz.prog f #[.string x, .string y] v fun e v' => e = .returned (.tuple #[.string z, .int .i64 er]) ∧ Below v.heap.size v v') :
    Calls Tryz.prog 45 #[.int .i64 (k : Int), .pointer (some ⟨bj, 0, none⟩), .pointer (some ⟨ba, 0, none⟩), .pointer (some ⟨bb, 0, none⟩)] w fun e w' => e = .returned (.tuple #[.string z, .int .i64 er]) ∧ Below w.heap.size w w' := by
  obtain ⟨C, hC⟩ : ∃ C : World → Prop, C = fun v => Below w.heap.size w v := ⟨_, rfl⟩
  have c0 : ∀ v, C v → v.cell? ⟨bj, 0, none⟩ = some (.func (.func f) #[] #[]) := fun v h => by subst hC; exact cell_below h hj
  have c1 : ∀ v, C v → v.cell? ⟨ba, 1, none⟩ = some (.slice (some ⟨p1, q1, none⟩) n1 d1) := fun v h => by subst hC; exact cell_below h ha
  have c2 : ∀ v, C v → v.cell? ⟨bb, 1, none⟩ = some (.slice (some ⟨p2, q2, none⟩) n2 d2) := fun v h => by subst hC; exact cell_below h hb
  have c3 : ∀ v, C v → v.cell? ⟨p1, q1 + k, none⟩ = some (.string x) := fun v h => by subst hC; exact cell_below h hx
  have c4 : ∀ v, C v → v.cell? ⟨p2, q2 + k, none⟩ = some (.string y) := fun v h => by subst hC; exact cell_below h hy
  have cB : ∀ v, C v → Below w.heap.size w v := fun v h => by subst hC; exact h
  have cT : ∀ u v, C u → Below u.heap.size u v → C v := fun u v h k => by subst hC; exact bl_trans h k
  have cD : ∀ v, C v → C v.drew := fun v h => by subst hC; exact h.drew
  have cI : C w := by subst hC; exact Below.refl _ _
  clear hC hj ha hb hx hy
  go_enter Tryz.func45, Tryz.ntmps45
  go_wp2_with fail
  refine region_calm C (by kernel_rfl) (by kernel_rfl) (cD _ cI) ?_
  clear cI
  refine wpQuiet_step (fun K hK => ?_)
  go_simp
  refine ⟨.func (.func f) #[] #[], fun v hv => ?_, hK _ ?_⟩
  · simp [c0 v hv]
  clear hK K
  refine wpQuiet_step (fun K hK => ?_)
  go_simp
  refine ⟨_, fun v hv => rfl, hK _ ?_⟩
  clear hK K
  refine wpQuiet_step (fun K hK => ?_)
  go_simp
  refine ⟨.slice (some ⟨p1, q1, none⟩) n1 d1, fun v hv => ?_, hK _ ?_⟩
  · simp [c1 v hv]
  clear hK K
  refine wpQuiet_step (fun K hK => ?_)
  go_simp
  refine ⟨_, fun v hv => rfl, hK _ ?_⟩
  clear hK K
  refine wpQuiet_step (fun K hK => ?_)
  go_simp
  refine ⟨_, fun v hv => rfl, hK _ ?_⟩
  clear hK K
  refine wpQuiet_step (fun K hK => ?_)
  go_simp
  refine ⟨.string x, fun v hv => ?_, hK _ ?_⟩
  · simp [c3 v hv]
  clear hK K
  refine wpQuiet_step (fun K hK => ?_)
  go_simp
  refine ⟨_, fun v hv => rfl, hK _ ?_⟩
  clear hK K
  refine wpQuiet_step (fun K hK => ?_)
  go_simp
  refine ⟨.slice (some ⟨p2, q2, none⟩) n2 d2, fun v hv => ?_, hK _ ?_⟩
  · simp [c2 v hv]
  clear hK K
  refine wpQuiet_step (fun K hK => ?_)
  go_simp
  refine ⟨_, fun v hv => rfl, hK _ ?_⟩
  clear hK K
  refine wpQuiet_step (fun K hK => ?_)
  go_simp
  refine ⟨_, fun v hv => rfl, hK _ ?_⟩
  clear hK K
  refine wpQuiet_step (fun K hK => ?_)
  go_simp
  refine ⟨.string y, fun v hv => ?_, hK _ ?_⟩
  · simp [c4 v hv]
  clear hK K
  refine wpQuiet_step (fun K hK => ?_)
  go_simp
  refine ⟨.tuple #[.string z, .int .i64 er], fun v hv => ?_, hK _ ?_⟩
  · exact calm_call cT hv (hF v (cB v hv))
  clear hK K
  refine wpQuiet_step (fun K hK => ?_)
  go_simp
  refine ⟨_, fun v hv => rfl, hK _ ?_⟩
  clear hK K
  refine wpQuiet_step (fun K hK => ?_)
  go_simp
  refine ⟨_, fun v hv => rfl, hK _ ?_⟩
  clear hK K
  refine wpQuiet_step (fun K hK => ?_)
  go_simp
  refine ⟨_, fun v hv => rfl, hK _ ?_⟩
  clear hK K
  refine wpQuiet_step (fun K hK => ?_)
  go_simp
  refine ⟨_, fun v hv => rfl, hK _ ?_⟩
  clear hK K
  refine wpQuiet_nil ?_
  intro w1 C1
  have H1 : Hid _ := cB _ C1
  clear C1
  go_wp2
  go_ret2
  exact ⟨rfl, H1.out⟩

theorem fill1_any (k bk : Nat) (y : ByteArray) (w : World) (hb : w.cell? ⟨bk, 0, none⟩ = some (.string y)) :
    Calls Tryz.prog 48 #[.int .i64 (k : Int), .pointer (some ⟨bk, 0, none⟩)] w fun e w' => e = .returned (.tuple #[.string y, .int .i64 0]) ∧ Below w.heap.size w w' := by
  go_enter Tryz.func48, Tryz.ntmps48
  go_wp2
  go_ret2
  exact ⟨rfl, Below.refl _ _⟩
end Go.Proofs.YtjkobbpebnkimaaGreatDoor.Tn
