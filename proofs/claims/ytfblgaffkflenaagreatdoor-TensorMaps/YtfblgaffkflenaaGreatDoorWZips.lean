/-
  THE WALK OF TensorZips. Conditions: what the arguments hold.
-/
import Derived.Test.YtfblgaffkflenaaGreatDoorDz
import Derived.Test.YtfblgaffkflenaaGreatDoorLa
namespace Go.Proofs.YtfblgaffkflenaaGreatDoor.Tn
set_option maxRecDepth 100000
open Go.RowKit Nm
set_option linter.unusedVariables false

theorem cf13 : ∀ (args : Array Value) (w : World), (callFunc 13 args).run Tryz.prog w = .ok (.enter 13 args) w := fun a w => run_enter Tryz.func13 (by kernel_rfl) rfl a w
theorem cf18 : ∀ (args : Array Value) (w : World), (callFunc 18 args).run Tryz.prog w = .ok (.enter 18 args) w := fun a w => run_enter Tryz.func18 (by kernel_rfl) rfl a w
theorem cf19 : ∀ (args : Array Value) (w : World), (callFunc 19 args).run Tryz.prog w = .ok (.enter 19 args) w := fun a w => run_enter Tryz.func19 (by kernel_rfl) rfl a w
theorem run_three {P : Program} {f : Nat} (hcf : ∀ (args : Array Value) (w : World), (callFunc f args).run P w = .ok (.enter f args) w) {o : Oper} {a : Act} {w : World} (x y z : Operand) (t s r : TypeId) (ho : o.op = .call { callee := .value (.func f), args := #[x, y, z], argTypes := #[t, s, r] }) (v u q : Value) (hv : a.eval x = v) (hu : a.eval y = u) (hq : a.eval z = q) :
    (execOp a.eval o).run P w = .ok (.enter f #[v, u, q]) w := by
  have hf : a.eval (.func f) = .func (.func f) #[] #[] := rfl
  simp [execOp, ho, resolve, invoke, Deferred.ofValue, hcf, hv, hu, hq, hf]
theorem run_none {P : Program} {f : Nat} (hcf : ∀ (args : Array Value) (w : World), (callFunc f args).run P w = .ok (.enter f args) w) {o : Oper} {a : Act} {w : World} (ho : o.op = .call { callee := .value (.func f), args := #[], argTypes := #[] }) :
    (execOp a.eval o).run P w = .ok (.enter f #[]) w := by
  have hf : a.eval (.func f) = .func (.func f) #[] #[] := rfl
  simp [execOp, ho, resolve, invoke, Deferred.ofValue, hcf, hf]
/-- a call of a Go function, as one step of a region that draws, behind a guard that lets it by -/
theorem step_enter_if {P : Program} {ops : Array Oper} {o : Oper} {a : Act} {w : World} {K : Act → World → Prop} {Q : Exit → Act → World → Prop} {E : Prop} {f : FuncId} {args : Array Value} {Rr : Ending → World → Prop}
    (hrun : (execOp a.eval o).run P w = .ok (.enter f args) w) (hw : Region.wanted o (yielded ops a.tmps) = true) (hc : Calls P f args w Rr) (hR : ∀ e w', Rr e w' → ∃ v, e = .returned v ∧ K (a.put o.dst v) w') :
    if Region.wanted o (yielded ops a.tmps) = true then Oper.wp P o a w K Q else E := by
  rw [if_pos hw]
  unfold Oper.wp
  rw [hrun]
  refine hc.mono ?_
  intro e w' h
  obtain ⟨v, rfl, hK⟩ := hR e w' h
  exact hK

set_option maxHeartbeats 4000000 in
theorem zips_long1 (a1 b1 a2 b2 : Option Addr) (c1 d1 m1 n1 c2 d2 m2 n2 : Nat) (op : ByteArray) (aF aZ : Addr) (w : World) (hE : Er w aF aZ)
    (hS1 : ∀ v, Below w.heap.size w v → Calls Tryz.prog 12 #[.agg #[.slice a1 m1 c1, .slice b1 n1 d1]] v fun e w' => e = .returned (.bool false) ∧ Below v.heap.size v w') :
    Calls Tryz.prog 3 #[.string op, .agg #[.slice a1 m1 c1, .slice b1 n1 d1], .agg #[.slice a2 m2 c2, .slice b2 n2 d2]] w fun e w' => e = .returned (.bool true) ∧ Below w.heap.size w w' := by
  have HE : Hid _ := hE
  clear hE
  have HB : Hid (Below w.heap.size w w) := Below.refl _ _
  have hu := bl_alloc (Below.refl w.heap.size w) (.cells #[.slice a1 m1 c1, .slice b1 n1 d1] 25)
  replace HB : Hid _ := bl_trans HB.out hu
  clear hu
  have K10 : (w.alloc (.cells #[.slice a1 m1 c1, .slice b1 n1 d1] 25)).cell? ⟨w.heap.size, 0, none⟩ = some (.slice a1 m1 c1) := by first | rw [World.cell?_alloc_at _ _ _ _ (by simp)]; rfl | simp
  have K11 : (w.alloc (.cells #[.slice a1 m1 c1, .slice b1 n1 d1] 25)).cell? ⟨w.heap.size, 1, none⟩ = some (.slice b1 n1 d1) := by first | rw [World.cell?_alloc_at _ _ _ _ (by simp)]; rfl | simp
  have hu := bl_alloc (Below.refl (w.alloc (.cells #[.slice a1 m1 c1, .slice b1 n1 d1] 25)).heap.size (w.alloc (.cells #[.slice a1 m1 c1, .slice b1 n1 d1] 25))) (.cells #[.slice a2 m2 c2, .slice b2 n2 d2] 25)
  replace HB : Hid _ := bl_trans HB.out hu
  replace K10 := cell_below hu K10
  replace K11 := cell_below hu K11
  clear hu
  have K20 : ((w.alloc (.cells #[.slice a1 m1 c1, .slice b1 n1 d1] 25)).alloc (.cells #[.slice a2 m2 c2, .slice b2 n2 d2] 25)).cell? ⟨w.heap.size + 1, 0, none⟩ = some (.slice a2 m2 c2) := by first | rw [World.cell?_alloc_at _ _ _ _ (by simp)]; rfl | simp
  have K21 : ((w.alloc (.cells #[.slice a1 m1 c1, .slice b1 n1 d1] 25)).alloc (.cells #[.slice a2 m2 c2, .slice b2 n2 d2] 25)).cell? ⟨w.heap.size + 1, 1, none⟩ = some (.slice b2 n2 d2) := by first | rw [World.cell?_alloc_at _ _ _ _ (by simp)]; rfl | simp
  go_enter Tryz.func3, Tryz.ntmps3
  go_wp2_with fail
  refine (hS1 _ HB.out).mono ?_
  rintro e w1 ⟨rfl, hb⟩
  have hu := hb
  replace HB : Hid _ := bl_trans HB.out hu
  replace K10 := cell_below hu K10
  replace K11 := cell_below hu K11
  replace K20 := cell_below hu K20
  replace K21 := cell_below hu K21
  clear hu
  clear hb
  go_wp2_with fail
  refine (awake_any aF aZ _ (HE.out.below HB.out)).mono ?_
  rintro e w2 ⟨rfl, hb⟩
  have hu := hb
  replace HB : Hid _ := bl_trans HB.out hu
  replace K10 := cell_below hu K10
  replace K11 := cell_below hu K11
  replace K20 := cell_below hu K20
  replace K21 := cell_below hu K21
  clear hu
  clear hb
  go_wp2
  go_ret
  exact ⟨rfl, HB.out⟩

set_option maxHeartbeats 4000000 in
theorem zips_long2 (a1 b1 a2 b2 : Option Addr) (c1 d1 m1 n1 c2 d2 m2 n2 : Nat) (op : ByteArray) (aF aZ : Addr) (w : World) (hE : Er w aF aZ)
    (hS1 : ∀ v, Below w.heap.size w v → Calls Tryz.prog 12 #[.agg #[.slice a1 m1 c1, .slice b1 n1 d1]] v fun e w' => e = .returned (.bool true) ∧ Below v.heap.size v w')
    (hS2 : ∀ v, Below w.heap.size w v → Calls Tryz.prog 12 #[.agg #[.slice a2 m2 c2, .slice b2 n2 d2]] v fun e w' => e = .returned (.bool false) ∧ Below v.heap.size v w') :
    Calls Tryz.prog 3 #[.string op, .agg #[.slice a1 m1 c1, .slice b1 n1 d1], .agg #[.slice a2 m2 c2, .slice b2 n2 d2]] w fun e w' => e = .returned (.bool true) ∧ Below w.heap.size w w' := by
  have HE : Hid _ := hE
  clear hE
  have HB : Hid (Below w.heap.size w w) := Below.refl _ _
  have hu := bl_alloc (Below.refl w.heap.size w) (.cells #[.slice a1 m1 c1, .slice b1 n1 d1] 25)
  replace HB : Hid _ := bl_trans HB.out hu
  clear hu
  have K10 : (w.alloc (.cells #[.slice a1 m1 c1, .slice b1 n1 d1] 25)).cell? ⟨w.heap.size, 0, none⟩ = some (.slice a1 m1 c1) := by first | rw [World.cell?_alloc_at _ _ _ _ (by simp)]; rfl | simp
  have K11 : (w.alloc (.cells #[.slice a1 m1 c1, .slice b1 n1 d1] 25)).cell? ⟨w.heap.size, 1, none⟩ = some (.slice b1 n1 d1) := by first | rw [World.cell?_alloc_at _ _ _ _ (by simp)]; rfl | simp
  have hu := bl_alloc (Below.refl (w.alloc (.cells #[.slice a1 m1 c1, .slice b1 n1 d1] 25)).heap.size (w.alloc (.cells #[.slice a1 m1 c1, .slice b1 n1 d1] 25))) (.cells #[.slice a2 m2 c2, .slice b2 n2 d2] 25)
  replace HB : Hid _ := bl_trans HB.out hu
  replace K10 := cell_below hu K10
  replace K11 := cell_below hu K11
  clear hu
  have K20 : ((w.alloc (.cells #[.slice a1 m1 c1, .slice b1 n1 d1] 25)).alloc (.cells #[.slice a2 m2 c2, .slice b2 n2 d2] 25)).cell? ⟨w.heap.size + 1, 0, none⟩ = some (.slice a2 m2 c2) := by first | rw [World.cell?_alloc_at _ _ _ _ (by simp)]; rfl | simp
  have K21 : ((w.alloc (.cells #[.slice a1 m1 c1, .slice b1 n1 d1] 25)).alloc (.cells #[.slice a2 m2 c2, .slice b2 n2 d2] 25)).cell? ⟨w.heap.size + 1, 1, none⟩ = some (.slice b2 n2 d2) := by first | rw [World.cell?_alloc_at _ _ _ _ (by simp)]; rfl | simp
  go_enter Tryz.func3, Tryz.ntmps3
  go_wp2_with fail
  refine (hS1 _ HB.out).mono ?_
  rintro e w1 ⟨rfl, hb⟩
  have hu := hb
  replace HB : Hid _ := bl_trans HB.out hu
  replace K10 := cell_below hu K10
  replace K11 := cell_below hu K11
  replace K20 := cell_below hu K20
  replace K21 := cell_below hu K21
  clear hu
  clear hb
  go_wp2_with fail
  refine (hS2 _ HB.out).mono ?_
  rintro e w2 ⟨rfl, hb⟩
  have hu := hb
  replace HB : Hid _ := bl_trans HB.out hu
  replace K10 := cell_below hu K10
  replace K11 := cell_below hu K11
  replace K20 := cell_below hu K20
  replace K21 := cell_below hu K21
  clear hu
  clear hb
  go_wp2_with fail
  refine (awake_any aF aZ _ (HE.out.below HB.out)).mono ?_
  rintro e w3 ⟨rfl, hb⟩
  have hu := hb
  replace HB : Hid _ := bl_trans HB.out hu
  replace K10 := cell_below hu K10
  replace K11 := cell_below hu K11
  replace K20 := cell_below hu K20
  replace K21 := cell_below hu K21
  clear hu
  clear hb
  go_wp2
  go_ret
  exact ⟨rfl, HB.out⟩

set_option maxHeartbeats 4000000 in
theorem zips_op (a1 b1 a2 b2 : Option Addr) (c1 d1 m1 n1 c2 d2 m2 n2 : Nat) (op : ByteArray) (t : Bool) (aF aZ : Addr) (w : World) (hE : Er w aF aZ)
    (hS1 : ∀ v, Below w.heap.size w v → Calls Tryz.prog 12 #[.agg #[.slice a1 m1 c1, .slice b1 n1 d1]] v fun e w' => e = .returned (.bool true) ∧ Below v.heap.size v w')
    (hS2 : ∀ v, Below w.heap.size w v → Calls Tryz.prog 12 #[.agg #[.slice a2 m2 c2, .slice b2 n2 d2]] v fun e w' => e = .returned (.bool true) ∧ Below v.heap.size v w')
    (hZ : ∀ v, Below w.heap.size w v → Calls Tryz.prog 14 #[.string op, .agg #[.slice a1 m1 c1, .slice b1 n1 d1], .agg #[.slice a2 m2 c2, .slice b2 n2 d2]] v fun e w' => e = .returned (noTensor 1) ∧ Below v.heap.size v w')
    (hR1 : ∀ v, Below w.heap.size w v → Calls Tryz.prog 15 #[.agg #[.slice a1 m1 c1, .slice b1 n1 d1]] v fun e w' => e = .returned (.bool t) ∧ Below v.heap.size v w')
    (hQ1 : ∀ v, Below w.heap.size w v → Calls Tryz.prog 16 #[.agg #[.slice a1 m1 c1, .slice b1 n1 d1]] v fun e w' => e = .returned (.bool t) ∧ Below v.heap.size v w') (f1 : (op.toList == [97, 100, 100]) = false) (f2 : (op.toList == [115, 117, 98]) = false) (f3 : (op.toList == [109, 117, 108]) = false) (ht : (t != t) = false) :
    Calls Tryz.prog 3 #[.string op, .agg #[.slice a1 m1 c1, .slice b1 n1 d1], .agg #[.slice a2 m2 c2, .slice b2 n2 d2]] w fun e w' => e = .returned (.bool true) ∧ Below w.heap.size w w' := by
  have HE : Hid _ := hE
  clear hE
  have HB : Hid (Below w.heap.size w w) := Below.refl _ _
  have hu := bl_alloc (Below.refl w.heap.size w) (.cells #[.slice a1 m1 c1, .slice b1 n1 d1] 25)
  replace HB : Hid _ := bl_trans HB.out hu
  clear hu
  have K10 : (w.alloc (.cells #[.slice a1 m1 c1, .slice b1 n1 d1] 25)).cell? ⟨w.heap.size, 0, none⟩ = some (.slice a1 m1 c1) := by first | rw [World.cell?_alloc_at _ _ _ _ (by simp)]; rfl | simp
  have K11 : (w.alloc (.cells #[.slice a1 m1 c1, .slice b1 n1 d1] 25)).cell? ⟨w.heap.size, 1, none⟩ = some (.slice b1 n1 d1) := by first | rw [World.cell?_alloc_at _ _ _ _ (by simp)]; rfl | simp
  have hu := bl_alloc (Below.refl (w.alloc (.cells #[.slice a1 m1 c1, .slice b1 n1 d1] 25)).heap.size (w.alloc (.cells #[.slice a1 m1 c1, .slice b1 n1 d1] 25))) (.cells #[.slice a2 m2 c2, .slice b2 n2 d2] 25)
  replace HB : Hid _ := bl_trans HB.out hu
  replace K10 := cell_below hu K10
  replace K11 := cell_below hu K11
  clear hu
  have K20 : ((w.alloc (.cells #[.slice a1 m1 c1, .slice b1 n1 d1] 25)).alloc (.cells #[.slice a2 m2 c2, .slice b2 n2 d2] 25)).cell? ⟨w.heap.size + 1, 0, none⟩ = some (.slice a2 m2 c2) := by first | rw [World.cell?_alloc_at _ _ _ _ (by simp)]; rfl | simp
  have K21 : ((w.alloc (.cells #[.slice a1 m1 c1, .slice b1 n1 d1] 25)).alloc (.cells #[.slice a2 m2 c2, .slice b2 n2 d2] 25)).cell? ⟨w.heap.size + 1, 1, none⟩ = some (.slice b2 n2 d2) := by first | rw [World.cell?_alloc_at _ _ _ _ (by simp)]; rfl | simp
  go_enter Tryz.func3, Tryz.ntmps3
  go_wp2_with fail
  refine (hS1 _ HB.out).mono ?_
  rintro e w1 ⟨rfl, hb⟩
  have hu := hb
  replace HB : Hid _ := bl_trans HB.out hu
  replace K10 := cell_below hu K10
  replace K11 := cell_below hu K11
  replace K20 := cell_below hu K20
  replace K21 := cell_below hu K21
  clear hu
  clear hb
  go_wp2_with fail
  refine (hS2 _ HB.out).mono ?_
  rintro e w2 ⟨rfl, hb⟩
  have hu := hb
  replace HB : Hid _ := bl_trans HB.out hu
  replace K10 := cell_below hu K10
  replace K11 := cell_below hu K11
  replace K20 := cell_below hu K20
  replace K21 := cell_below hu K21
  clear hu
  clear hb
  go_wp2_with fail
  refine (hZ _ HB.out).mono ?_
  rintro e w3 ⟨rfl, hb⟩
  have hu := bl_alloc hb (.cells #[.slice none 0 0, .slice none 0 0] 25)
  replace HB : Hid _ := bl_trans HB.out hu
  replace K10 := cell_below hu K10
  replace K11 := cell_below hu K11
  replace K20 := cell_below hu K20
  replace K21 := cell_below hu K21
  clear hu
  have Kt0 : (w3.alloc (.cells #[.slice none 0 0, .slice none 0 0] 25)).cell? ⟨w3.heap.size, 0, none⟩ = some (.slice none 0 0) := by simp
  have Kt1 : (w3.alloc (.cells #[.slice none 0 0, .slice none 0 0] 25)).cell? ⟨w3.heap.size, 1, none⟩ = some (.slice none 0 0) := by simp
  clear hb
  go_wp2_with fail
  obtain ⟨C, hC⟩ : ∃ C : World → Prop, C = fun v => Below (w3.alloc (.cells #[.slice none 0 0, .slice none 0 0] 25)).heap.size (w3.alloc (.cells #[.slice none 0 0, .slice none 0 0] 25)) v := ⟨_, rfl⟩
  have q0 : ∀ v, C v → v.cell? ⟨w.heap.size, 0, none⟩ = some (.slice a1 m1 c1) := fun v h => by subst hC; exact cell_below h K10
  have q1 : ∀ v, C v → v.cell? ⟨w.heap.size, 1, none⟩ = some (.slice b1 n1 d1) := fun v h => by subst hC; exact cell_below h K11
  have cB : ∀ v, C v → Below (w3.alloc (.cells #[.slice none 0 0, .slice none 0 0] 25)).heap.size (w3.alloc (.cells #[.slice none 0 0, .slice none 0 0] 25)) v := fun v h => by subst hC; exact h
  have cT : ∀ u v, C u → Below u.heap.size u v → C v := fun u v h k => by subst hC; exact bl_trans h k
  have cD : ∀ v, C v → C v.drew := fun v h => by subst hC; exact h.drew
  have cI : C (w3.alloc (.cells #[.slice none 0 0, .slice none 0 0] 25)) := by subst hC; exact Below.refl _ _
  clear hC
  refine region_calm C (by kernel_rfl) (by kernel_rfl) (cD _ cI) ?_
  clear cI
  refine wpQuiet_step (fun K hK => ?_)
  go_simp
  refine ⟨.agg #[.slice a1 m1 c1, .slice b1 n1 d1], fun v hv => ?_, hK _ ?_⟩
  · simp [q0 v hv, q1 v hv]
  clear hK K
  refine wpQuiet_step (fun K hK => ?_)
  go_simp
  refine ⟨.bool t, fun v hv => ?_, hK _ ?_⟩
  · exact calm_call cT hv (hR1 v (bl_trans HB.out (cB v hv)))
  clear hK K
  refine wpQuiet_step (fun K hK => ?_)
  go_simp
  refine ⟨.agg #[.slice a1 m1 c1, .slice b1 n1 d1], fun v hv => ?_, hK _ ?_⟩
  · simp [q0 v hv, q1 v hv]
  clear hK K
  refine wpQuiet_step (fun K hK => ?_)
  go_simp
  refine ⟨.bool t, fun v hv => ?_, hK _ ?_⟩
  · exact calm_call cT hv (hQ1 v (bl_trans HB.out (cB v hv)))
  clear hK K
  refine wpQuiet_step (fun K hK => ?_)
  go_simp
  refine ⟨_, fun v hv => rfl, hK _ ?_⟩
  clear hK K
  refine wpQuiet_nil ?_
  intro w4 C1
  have hb := cB _ C1
  clear C1 q0 q1 cB cT cD C
  have hu := hb
  replace HB : Hid _ := bl_trans HB.out hu
  replace K10 := cell_below hu K10
  replace K11 := cell_below hu K11
  replace K20 := cell_below hu K20
  replace K21 := cell_below hu K21
  replace Kt0 := cell_below hu Kt0
  replace Kt1 := cell_below hu Kt1
  clear hu
  clear hb
  go_wp2_with fail
  refine (awake_any aF aZ _ (HE.out.below HB.out)).mono ?_
  rintro e w5 ⟨rfl, hb⟩
  have hu := hb
  replace HB : Hid _ := bl_trans HB.out hu
  replace K10 := cell_below hu K10
  replace K11 := cell_below hu K11
  replace K20 := cell_below hu K20
  replace K21 := cell_below hu K21
  replace Kt0 := cell_below hu Kt0
  replace Kt1 := cell_below hu Kt1
  clear hu
  clear hb
  go_wp2
  go_ret
  exact ⟨rfl, HB.out⟩

set_option maxHeartbeats 4000000 in
theorem zips_a_sAdd (a1 b1 a2 b2 : Option Addr) (c1 d1 m1 n1 c2 d2 m2 n2 : Nat) (aF aZ : Addr) (w : World) (hE : Er w aF aZ)
    (hS1 : ∀ v, Below w.heap.size w v → Calls Tryz.prog 12 #[.agg #[.slice a1 m1 c1, .slice b1 n1 d1]] v fun e w' => e = .returned (.bool true) ∧ Below v.heap.size v w')
    (hS2 : ∀ v, Below w.heap.size w v → Calls Tryz.prog 12 #[.agg #[.slice a2 m2 c2, .slice b2 n2 d2]] v fun e w' => e = .returned (.bool true) ∧ Below v.heap.size v w')
    (hZ : ∀ v, Below w.heap.size w v → Calls Tryz.prog 14 #[.string sAdd, .agg #[.slice a1 m1 c1, .slice b1 n1 d1], .agg #[.slice a2 m2 c2, .slice b2 n2 d2]] v fun e w' => e = .returned (noTensor 1) ∧ Below v.heap.size v w')
    (hR1 : ∀ v, Below w.heap.size w v → Calls Tryz.prog 15 #[.agg #[.slice a1 m1 c1, .slice b1 n1 d1]] v fun e w' => e = .returned (.bool false) ∧ Below v.heap.size v w')
    (hQ1 : ∀ v, Below w.heap.size w v → Calls Tryz.prog 16 #[.agg #[.slice a1 m1 c1, .slice b1 n1 d1]] v fun e w' => e = .returned (.bool false) ∧ Below v.heap.size v w') :
    Calls Tryz.prog 3 #[.string sAdd, .agg #[.slice a1 m1 c1, .slice b1 n1 d1], .agg #[.slice a2 m2 c2, .slice b2 n2 d2]] w fun e w' => e = .returned (.bool true) ∧ Below w.heap.size w w' := by
  have HE : Hid _ := hE
  clear hE
  have HB : Hid (Below w.heap.size w w) := Below.refl _ _
  have hu := bl_alloc (Below.refl w.heap.size w) (.cells #[.slice a1 m1 c1, .slice b1 n1 d1] 25)
  replace HB : Hid _ := bl_trans HB.out hu
  clear hu
  have K10 : (w.alloc (.cells #[.slice a1 m1 c1, .slice b1 n1 d1] 25)).cell? ⟨w.heap.size, 0, none⟩ = some (.slice a1 m1 c1) := by first | rw [World.cell?_alloc_at _ _ _ _ (by simp)]; rfl | simp
  have K11 : (w.alloc (.cells #[.slice a1 m1 c1, .slice b1 n1 d1] 25)).cell? ⟨w.heap.size, 1, none⟩ = some (.slice b1 n1 d1) := by first | rw [World.cell?_alloc_at _ _ _ _ (by simp)]; rfl | simp
  have hu := bl_alloc (Below.refl (w.alloc (.cells #[.slice a1 m1 c1, .slice b1 n1 d1] 25)).heap.size (w.alloc (.cells #[.slice a1 m1 c1, .slice b1 n1 d1] 25))) (.cells #[.slice a2 m2 c2, .slice b2 n2 d2] 25)
  replace HB : Hid _ := bl_trans HB.out hu
  replace K10 := cell_below hu K10
  replace K11 := cell_below hu K11
  clear hu
  have K20 : ((w.alloc (.cells #[.slice a1 m1 c1, .slice b1 n1 d1] 25)).alloc (.cells #[.slice a2 m2 c2, .slice b2 n2 d2] 25)).cell? ⟨w.heap.size + 1, 0, none⟩ = some (.slice a2 m2 c2) := by first | rw [World.cell?_alloc_at _ _ _ _ (by simp)]; rfl | simp
  have K21 : ((w.alloc (.cells #[.slice a1 m1 c1, .slice b1 n1 d1] 25)).alloc (.cells #[.slice a2 m2 c2, .slice b2 n2 d2] 25)).cell? ⟨w.heap.size + 1, 1, none⟩ = some (.slice b2 n2 d2) := by first | rw [World.cell?_alloc_at _ _ _ _ (by simp)]; rfl | simp
  go_enter Tryz.func3, Tryz.ntmps3
  go_wp2_with fail
  refine (hS1 _ HB.out).mono ?_
  rintro e w1 ⟨rfl, hb⟩
  have hu := hb
  replace HB : Hid _ := bl_trans HB.out hu
  replace K10 := cell_below hu K10
  replace K11 := cell_below hu K11
  replace K20 := cell_below hu K20
  replace K21 := cell_below hu K21
  clear hu
  clear hb
  go_wp2_with fail
  refine (hS2 _ HB.out).mono ?_
  rintro e w2 ⟨rfl, hb⟩
  have hu := hb
  replace HB : Hid _ := bl_trans HB.out hu
  replace K10 := cell_below hu K10
  replace K11 := cell_below hu K11
  replace K20 := cell_below hu K20
  replace K21 := cell_below hu K21
  clear hu
  clear hb
  go_wp2_with fail
  refine (hZ _ HB.out).mono ?_
  rintro e w3 ⟨rfl, hb⟩
  have hu := bl_alloc hb (.cells #[.slice none 0 0, .slice none 0 0] 25)
  replace HB : Hid _ := bl_trans HB.out hu
  replace K10 := cell_below hu K10
  replace K11 := cell_below hu K11
  replace K20 := cell_below hu K20
  replace K21 := cell_below hu K21
  clear hu
  have Kt0 : (w3.alloc (.cells #[.slice none 0 0, .slice none 0 0] 25)).cell? ⟨w3.heap.size, 0, none⟩ = some (.slice none 0 0) := by simp
  have Kt1 : (w3.alloc (.cells #[.slice none 0 0, .slice none 0 0] 25)).cell? ⟨w3.heap.size, 1, none⟩ = some (.slice none 0 0) := by simp
  clear hb
  go_wp2_with fail
  obtain ⟨C, hC⟩ : ∃ C : World → Prop, C = fun v => Below (w3.alloc (.cells #[.slice none 0 0, .slice none 0 0] 25)).heap.size (w3.alloc (.cells #[.slice none 0 0, .slice none 0 0] 25)) v := ⟨_, rfl⟩
  have q0 : ∀ v, C v → v.cell? ⟨w.heap.size, 0, none⟩ = some (.slice a1 m1 c1) := fun v h => by subst hC; exact cell_below h K10
  have q1 : ∀ v, C v → v.cell? ⟨w.heap.size, 1, none⟩ = some (.slice b1 n1 d1) := fun v h => by subst hC; exact cell_below h K11
  have cB : ∀ v, C v → Below (w3.alloc (.cells #[.slice none 0 0, .slice none 0 0] 25)).heap.size (w3.alloc (.cells #[.slice none 0 0, .slice none 0 0] 25)) v := fun v h => by subst hC; exact h
  have cT : ∀ u v, C u → Below u.heap.size u v → C v := fun u v h k => by subst hC; exact bl_trans h k
  have cD : ∀ v, C v → C v.drew := fun v h => by subst hC; exact h.drew
  have cI : C (w3.alloc (.cells #[.slice none 0 0, .slice none 0 0] 25)) := by subst hC; exact Below.refl _ _
  clear hC
  refine region_calm C (by kernel_rfl) (by kernel_rfl) (cD _ cI) ?_
  clear cI
  refine wpQuiet_step (fun K hK => ?_)
  go_simp
  refine ⟨.agg #[.slice a1 m1 c1, .slice b1 n1 d1], fun v hv => ?_, hK _ ?_⟩
  · simp [q0 v hv, q1 v hv]
  clear hK K
  refine wpQuiet_step (fun K hK => ?_)
  go_simp
  refine ⟨.bool false, fun v hv => ?_, hK _ ?_⟩
  · exact calm_call cT hv (hR1 v (bl_trans HB.out (cB v hv)))
  clear hK K
  refine wpQuiet_step (fun K hK => ?_)
  go_simp
  refine ⟨.agg #[.slice a1 m1 c1, .slice b1 n1 d1], fun v hv => ?_, hK _ ?_⟩
  · simp [q0 v hv, q1 v hv]
  clear hK K
  refine wpQuiet_step (fun K hK => ?_)
  go_simp
  refine ⟨.bool false, fun v hv => ?_, hK _ ?_⟩
  · exact calm_call cT hv (hQ1 v (bl_trans HB.out (cB v hv)))
  clear hK K
  refine wpQuiet_step (fun K hK => ?_)
  go_simp
  refine ⟨_, fun v hv => rfl, hK _ ?_⟩
  clear hK K
  refine wpQuiet_nil ?_
  intro w4 C1
  have hb := cB _ C1
  clear C1 q0 q1 cB cT cD C
  have hu := hb
  replace HB : Hid _ := bl_trans HB.out hu
  replace K10 := cell_below hu K10
  replace K11 := cell_below hu K11
  replace K20 := cell_below hu K20
  replace K21 := cell_below hu K21
  replace Kt0 := cell_below hu Kt0
  replace Kt1 := cell_below hu Kt1
  clear hu
  clear hb
  go_wp2_with fail
  refine (hQ1 _ HB.out).mono ?_
  rintro e w5 ⟨rfl, hb⟩
  have hu := hb
  replace HB : Hid _ := bl_trans HB.out hu
  replace K10 := cell_below hu K10
  replace K11 := cell_below hu K11
  replace K20 := cell_below hu K20
  replace K21 := cell_below hu K21
  replace Kt0 := cell_below hu Kt0
  replace Kt1 := cell_below hu Kt1
  clear hu
  clear hb
  go_wp2_with fail
  refine (awake_any aF aZ _ (HE.out.below HB.out)).mono ?_
  rintro e w6 ⟨rfl, hb⟩
  have hu := hb
  replace HB : Hid _ := bl_trans HB.out hu
  replace K10 := cell_below hu K10
  replace K11 := cell_below hu K11
  replace K20 := cell_below hu K20
  replace K21 := cell_below hu K21
  replace Kt0 := cell_below hu Kt0
  replace Kt1 := cell_below hu Kt1
  clear hu
  clear hb
  go_wp2
  go_ret
  exact ⟨rfl, HB.out⟩

set_option maxHeartbeats 4000000 in
theorem zips_b_sAdd (a1 b1 a2 b2 : Option Addr) (c1 d1 m1 n1 c2 d2 m2 n2 : Nat) (aF aZ : Addr) (w : World) (hE : Er w aF aZ)
    (hS1 : ∀ v, Below w.heap.size w v → Calls Tryz.prog 12 #[.agg #[.slice a1 m1 c1, .slice b1 n1 d1]] v fun e w' => e = .returned (.bool true) ∧ Below v.heap.size v w')
    (hS2 : ∀ v, Below w.heap.size w v → Calls Tryz.prog 12 #[.agg #[.slice a2 m2 c2, .slice b2 n2 d2]] v fun e w' => e = .returned (.bool true) ∧ Below v.heap.size v w')
    (hZ : ∀ v, Below w.heap.size w v → Calls Tryz.prog 14 #[.string sAdd, .agg #[.slice a1 m1 c1, .slice b1 n1 d1], .agg #[.slice a2 m2 c2, .slice b2 n2 d2]] v fun e w' => e = .returned (noTensor 1) ∧ Below v.heap.size v w')
    (hR1 : ∀ v, Below w.heap.size w v → Calls Tryz.prog 15 #[.agg #[.slice a1 m1 c1, .slice b1 n1 d1]] v fun e w' => e = .returned (.bool true) ∧ Below v.heap.size v w')
    (hQ1 : ∀ v, Below w.heap.size w v → Calls Tryz.prog 16 #[.agg #[.slice a1 m1 c1, .slice b1 n1 d1]] v fun e w' => e = .returned (.bool true) ∧ Below v.heap.size v w')
    (hQ2 : ∀ v, Below w.heap.size w v → Calls Tryz.prog 16 #[.agg #[.slice a2 m2 c2, .slice b2 n2 d2]] v fun e w' => e = .returned (.bool false) ∧ Below v.heap.size v w') :
    Calls Tryz.prog 3 #[.string sAdd, .agg #[.slice a1 m1 c1, .slice b1 n1 d1], .agg #[.slice a2 m2 c2, .slice b2 n2 d2]] w fun e w' => e = .returned (.bool true) ∧ Below w.heap.size w w' := by
  have HE : Hid _ := hE
  clear hE
  have HB : Hid (Below w.heap.size w w) := Below.refl _ _
  have hu := bl_alloc (Below.refl w.heap.size w) (.cells #[.slice a1 m1 c1, .slice b1 n1 d1] 25)
  replace HB : Hid _ := bl_trans HB.out hu
  clear hu
  have K10 : (w.alloc (.cells #[.slice a1 m1 c1, .slice b1 n1 d1] 25)).cell? ⟨w.heap.size, 0, none⟩ = some (.slice a1 m1 c1) := by first | rw [World.cell?_alloc_at _ _ _ _ (by simp)]; rfl | simp
  have K11 : (w.alloc (.cells #[.slice a1 m1 c1, .slice b1 n1 d1] 25)).cell? ⟨w.heap.size, 1, none⟩ = some (.slice b1 n1 d1) := by first | rw [World.cell?_alloc_at _ _ _ _ (by simp)]; rfl | simp
  have hu := bl_alloc (Below.refl (w.alloc (.cells #[.slice a1 m1 c1, .slice b1 n1 d1] 25)).heap.size (w.alloc (.cells #[.slice a1 m1 c1, .slice b1 n1 d1] 25))) (.cells #[.slice a2 m2 c2, .slice b2 n2 d2] 25)
  replace HB : Hid _ := bl_trans HB.out hu
  replace K10 := cell_below hu K10
  replace K11 := cell_below hu K11
  clear hu
  have K20 : ((w.alloc (.cells #[.slice a1 m1 c1, .slice b1 n1 d1] 25)).alloc (.cells #[.slice a2 m2 c2, .slice b2 n2 d2] 25)).cell? ⟨w.heap.size + 1, 0, none⟩ = some (.slice a2 m2 c2) := by first | rw [World.cell?_alloc_at _ _ _ _ (by simp)]; rfl | simp
  have K21 : ((w.alloc (.cells #[.slice a1 m1 c1, .slice b1 n1 d1] 25)).alloc (.cells #[.slice a2 m2 c2, .slice b2 n2 d2] 25)).cell? ⟨w.heap.size + 1, 1, none⟩ = some (.slice b2 n2 d2) := by first | rw [World.cell?_alloc_at _ _ _ _ (by simp)]; rfl | simp
  go_enter Tryz.func3, Tryz.ntmps3
  go_wp2_with fail
  refine (hS1 _ HB.out).mono ?_
  rintro e w1 ⟨rfl, hb⟩
  have hu := hb
  replace HB : Hid _ := bl_trans HB.out hu
  replace K10 := cell_below hu K10
  replace K11 := cell_below hu K11
  replace K20 := cell_below hu K20
  replace K21 := cell_below hu K21
  clear hu
  clear hb
  go_wp2_with fail
  refine (hS2 _ HB.out).mono ?_
  rintro e w2 ⟨rfl, hb⟩
  have hu := hb
  replace HB : Hid _ := bl_trans HB.out hu
  replace K10 := cell_below hu K10
  replace K11 := cell_below hu K11
  replace K20 := cell_below hu K20
  replace K21 := cell_below hu K21
  clear hu
  clear hb
  go_wp2_with fail
  refine (hZ _ HB.out).mono ?_
  rintro e w3 ⟨rfl, hb⟩
  have hu := bl_alloc hb (.cells #[.slice none 0 0, .slice none 0 0] 25)
  replace HB : Hid _ := bl_trans HB.out hu
  replace K10 := cell_below hu K10
  replace K11 := cell_below hu K11
  replace K20 := cell_below hu K20
  replace K21 := cell_below hu K21
  clear hu
  have Kt0 : (w3.alloc (.cells #[.slice none 0 0, .slice none 0 0] 25)).cell? ⟨w3.heap.size, 0, none⟩ = some (.slice none 0 0) := by simp
  have Kt1 : (w3.alloc (.cells #[.slice none 0 0, .slice none 0 0] 25)).cell? ⟨w3.heap.size, 1, none⟩ = some (.slice none 0 0) := by simp
  clear hb
  go_wp2_with fail
  obtain ⟨C, hC⟩ : ∃ C : World → Prop, C = fun v => Below (w3.alloc (.cells #[.slice none 0 0, .slice none 0 0] 25)).heap.size (w3.alloc (.cells #[.slice none 0 0, .slice none 0 0] 25)) v := ⟨_, rfl⟩
  have q0 : ∀ v, C v → v.cell? ⟨w.heap.size, 0, none⟩ = some (.slice a1 m1 c1) := fun v h => by subst hC; exact cell_below h K10
  have q1 : ∀ v, C v → v.cell? ⟨w.heap.size, 1, none⟩ = some (.slice b1 n1 d1) := fun v h => by subst hC; exact cell_below h K11
  have cB : ∀ v, C v → Below (w3.alloc (.cells #[.slice none 0 0, .slice none 0 0] 25)).heap.size (w3.alloc (.cells #[.slice none 0 0, .slice none 0 0] 25)) v := fun v h => by subst hC; exact h
  have cT : ∀ u v, C u → Below u.heap.size u v → C v := fun u v h k => by subst hC; exact bl_trans h k
  have cD : ∀ v, C v → C v.drew := fun v h => by subst hC; exact h.drew
  have cI : C (w3.alloc (.cells #[.slice none 0 0, .slice none 0 0] 25)) := by subst hC; exact Below.refl _ _
  clear hC
  refine region_calm C (by kernel_rfl) (by kernel_rfl) (cD _ cI) ?_
  clear cI
  refine wpQuiet_step (fun K hK => ?_)
  go_simp
  refine ⟨.agg #[.slice a1 m1 c1, .slice b1 n1 d1], fun v hv => ?_, hK _ ?_⟩
  · simp [q0 v hv, q1 v hv]
  clear hK K
  refine wpQuiet_step (fun K hK => ?_)
  go_simp
  refine ⟨.bool true, fun v hv => ?_, hK _ ?_⟩
  · exact calm_call cT hv (hR1 v (bl_trans HB.out (cB v hv)))
  clear hK K
  refine wpQuiet_step (fun K hK => ?_)
  go_simp
  refine ⟨.agg #[.slice a1 m1 c1, .slice b1 n1 d1], fun v hv => ?_, hK _ ?_⟩
  · simp [q0 v hv, q1 v hv]
  clear hK K
  refine wpQuiet_step (fun K hK => ?_)
  go_simp
  refine ⟨.bool true, fun v hv => ?_, hK _ ?_⟩
  · exact calm_call cT hv (hQ1 v (bl_trans HB.out (cB v hv)))
  clear hK K
  refine wpQuiet_step (fun K hK => ?_)
  go_simp
  refine ⟨_, fun v hv => rfl, hK _ ?_⟩
  clear hK K
  refine wpQuiet_nil ?_
  intro w4 C1
  have hb := cB _ C1
  clear C1 q0 q1 cB cT cD C
  have hu := hb
  replace HB : Hid _ := bl_trans HB.out hu
  replace K10 := cell_below hu K10
  replace K11 := cell_below hu K11
  replace K20 := cell_below hu K20
  replace K21 := cell_below hu K21
  replace Kt0 := cell_below hu Kt0
  replace Kt1 := cell_below hu Kt1
  clear hu
  clear hb
  go_wp2_with fail
  refine (hQ1 _ HB.out).mono ?_
  rintro e w5 ⟨rfl, hb⟩
  have hu := hb
  replace HB : Hid _ := bl_trans HB.out hu
  replace K10 := cell_below hu K10
  replace K11 := cell_below hu K11
  replace K20 := cell_below hu K20
  replace K21 := cell_below hu K21
  replace Kt0 := cell_below hu Kt0
  replace Kt1 := cell_below hu Kt1
  clear hu
  clear hb
  go_wp2_with fail
  refine (hQ2 _ HB.out).mono ?_
  rintro e w6 ⟨rfl, hb⟩
  have hu := hb
  replace HB : Hid _ := bl_trans HB.out hu
  replace K10 := cell_below hu K10
  replace K11 := cell_below hu K11
  replace K20 := cell_below hu K20
  replace K21 := cell_below hu K21
  replace Kt0 := cell_below hu Kt0
  replace Kt1 := cell_below hu Kt1
  clear hu
  clear hb
  go_wp2_with fail
  refine (awake_any aF aZ _ (HE.out.below HB.out)).mono ?_
  rintro e w7 ⟨rfl, hb⟩
  have hu := hb
  replace HB : Hid _ := bl_trans HB.out hu
  replace K10 := cell_below hu K10
  replace K11 := cell_below hu K11
  replace K20 := cell_below hu K20
  replace K21 := cell_below hu K21
  replace Kt0 := cell_below hu Kt0
  replace Kt1 := cell_below hu Kt1
  clear hu
  clear hb
  go_wp2
  go_ret
  exact ⟨rfl, HB.out⟩

set_option maxHeartbeats 4000000 in
theorem zips_s_sAdd (a1 b1 a2 b2 : Option Addr) (c1 d1 m1 n1 c2 d2 m2 n2 : Nat) (aF aZ : Addr) (w : World) (hE : Er w aF aZ)
    (hS1 : ∀ v, Below w.heap.size w v → Calls Tryz.prog 12 #[.agg #[.slice a1 m1 c1, .slice b1 n1 d1]] v fun e w' => e = .returned (.bool true) ∧ Below v.heap.size v w')
    (hS2 : ∀ v, Below w.heap.size w v → Calls Tryz.prog 12 #[.agg #[.slice a2 m2 c2, .slice b2 n2 d2]] v fun e w' => e = .returned (.bool true) ∧ Below v.heap.size v w')
    (hZ : ∀ v, Below w.heap.size w v → Calls Tryz.prog 14 #[.string sAdd, .agg #[.slice a1 m1 c1, .slice b1 n1 d1], .agg #[.slice a2 m2 c2, .slice b2 n2 d2]] v fun e w' => e = .returned (noTensor 4) ∧ Below v.heap.size v w')
    (hR1 : ∀ v, Below w.heap.size w v → Calls Tryz.prog 15 #[.agg #[.slice a1 m1 c1, .slice b1 n1 d1]] v fun e w' => e = .returned (.bool true) ∧ Below v.heap.size v w')
    (hQ1 : ∀ v, Below w.heap.size w v → Calls Tryz.prog 16 #[.agg #[.slice a1 m1 c1, .slice b1 n1 d1]] v fun e w' => e = .returned (.bool true) ∧ Below v.heap.size v w')
    (hQ2 : ∀ v, Below w.heap.size w v → Calls Tryz.prog 16 #[.agg #[.slice a2 m2 c2, .slice b2 n2 d2]] v fun e w' => e = .returned (.bool true) ∧ Below v.heap.size v w')
    (hV : ∀ v, Below w.heap.size w v → Calls Tryz.prog 17 #[.slice a1 m1 c1, .slice a2 m2 c2] v fun e w' => e = .returned (.bool false) ∧ Below v.heap.size v w') :
    Calls Tryz.prog 3 #[.string sAdd, .agg #[.slice a1 m1 c1, .slice b1 n1 d1], .agg #[.slice a2 m2 c2, .slice b2 n2 d2]] w fun e w' => e = .returned (.bool true) ∧ Below w.heap.size w w' := by
  have HE : Hid _ := hE
  clear hE
  have HB : Hid (Below w.heap.size w w) := Below.refl _ _
  have hu := bl_alloc (Below.refl w.heap.size w) (.cells #[.slice a1 m1 c1, .slice b1 n1 d1] 25)
  replace HB : Hid _ := bl_trans HB.out hu
  clear hu
  have K10 : (w.alloc (.cells #[.slice a1 m1 c1, .slice b1 n1 d1] 25)).cell? ⟨w.heap.size, 0, none⟩ = some (.slice a1 m1 c1) := by first | rw [World.cell?_alloc_at _ _ _ _ (by simp)]; rfl | simp
  have K11 : (w.alloc (.cells #[.slice a1 m1 c1, .slice b1 n1 d1] 25)).cell? ⟨w.heap.size, 1, none⟩ = some (.slice b1 n1 d1) := by first | rw [World.cell?_alloc_at _ _ _ _ (by simp)]; rfl | simp
  have hu := bl_alloc (Below.refl (w.alloc (.cells #[.slice a1 m1 c1, .slice b1 n1 d1] 25)).heap.size (w.alloc (.cells #[.slice a1 m1 c1, .slice b1 n1 d1] 25))) (.cells #[.slice a2 m2 c2, .slice b2 n2 d2] 25)
  replace HB : Hid _ := bl_trans HB.out hu
  replace K10 := cell_below hu K10
  replace K11 := cell_below hu K11
  clear hu
  have K20 : ((w.alloc (.cells #[.slice a1 m1 c1, .slice b1 n1 d1] 25)).alloc (.cells #[.slice a2 m2 c2, .slice b2 n2 d2] 25)).cell? ⟨w.heap.size + 1, 0, none⟩ = some (.slice a2 m2 c2) := by first | rw [World.cell?_alloc_at _ _ _ _ (by simp)]; rfl | simp
  have K21 : ((w.alloc (.cells #[.slice a1 m1 c1, .slice b1 n1 d1] 25)).alloc (.cells #[.slice a2 m2 c2, .slice b2 n2 d2] 25)).cell? ⟨w.heap.size + 1, 1, none⟩ = some (.slice b2 n2 d2) := by first | rw [World.cell?_alloc_at _ _ _ _ (by simp)]; rfl | simp
  go_enter Tryz.func3, Tryz.ntmps3
  go_wp2_with fail
  refine (hS1 _ HB.out).mono ?_
  rintro e w1 ⟨rfl, hb⟩
  have hu := hb
  replace HB : Hid _ := bl_trans HB.out hu
  replace K10 := cell_below hu K10
  replace K11 := cell_below hu K11
  replace K20 := cell_below hu K20
  replace K21 := cell_below hu K21
  clear hu
  clear hb
  go_wp2_with fail
  refine (hS2 _ HB.out).mono ?_
  rintro e w2 ⟨rfl, hb⟩
  have hu := hb
  replace HB : Hid _ := bl_trans HB.out hu
  replace K10 := cell_below hu K10
  replace K11 := cell_below hu K11
  replace K20 := cell_below hu K20
  replace K21 := cell_below hu K21
  clear hu
  clear hb
  go_wp2_with fail
  refine (hZ _ HB.out).mono ?_
  rintro e w3 ⟨rfl, hb⟩
  have hu := bl_alloc hb (.cells #[.slice none 0 0, .slice none 0 0] 25)
  replace HB : Hid _ := bl_trans HB.out hu
  replace K10 := cell_below hu K10
  replace K11 := cell_below hu K11
  replace K20 := cell_below hu K20
  replace K21 := cell_below hu K21
  clear hu
  have Kt0 : (w3.alloc (.cells #[.slice none 0 0, .slice none 0 0] 25)).cell? ⟨w3.heap.size, 0, none⟩ = some (.slice none 0 0) := by simp
  have Kt1 : (w3.alloc (.cells #[.slice none 0 0, .slice none 0 0] 25)).cell? ⟨w3.heap.size, 1, none⟩ = some (.slice none 0 0) := by simp
  clear hb
  go_wp2_with fail
  obtain ⟨C, hC⟩ : ∃ C : World → Prop, C = fun v => Below (w3.alloc (.cells #[.slice none 0 0, .slice none 0 0] 25)).heap.size (w3.alloc (.cells #[.slice none 0 0, .slice none 0 0] 25)) v := ⟨_, rfl⟩
  have q0 : ∀ v, C v → v.cell? ⟨w.heap.size, 0, none⟩ = some (.slice a1 m1 c1) := fun v h => by subst hC; exact cell_below h K10
  have q1 : ∀ v, C v → v.cell? ⟨w.heap.size, 1, none⟩ = some (.slice b1 n1 d1) := fun v h => by subst hC; exact cell_below h K11
  have cB : ∀ v, C v → Below (w3.alloc (.cells #[.slice none 0 0, .slice none 0 0] 25)).heap.size (w3.alloc (.cells #[.slice none 0 0, .slice none 0 0] 25)) v := fun v h => by subst hC; exact h
  have cT : ∀ u v, C u → Below u.heap.size u v → C v := fun u v h k => by subst hC; exact bl_trans h k
  have cD : ∀ v, C v → C v.drew := fun v h => by subst hC; exact h.drew
  have cI : C (w3.alloc (.cells #[.slice none 0 0, .slice none 0 0] 25)) := by subst hC; exact Below.refl _ _
  clear hC
  refine region_calm C (by kernel_rfl) (by kernel_rfl) (cD _ cI) ?_
  clear cI
  refine wpQuiet_step (fun K hK => ?_)
  go_simp
  refine ⟨.agg #[.slice a1 m1 c1, .slice b1 n1 d1], fun v hv => ?_, hK _ ?_⟩
  · simp [q0 v hv, q1 v hv]
  clear hK K
  refine wpQuiet_step (fun K hK => ?_)
  go_simp
  refine ⟨.bool true, fun v hv => ?_, hK _ ?_⟩
  · exact calm_call cT hv (hR1 v (bl_trans HB.out (cB v hv)))
  clear hK K
  refine wpQuiet_step (fun K hK => ?_)
  go_simp
  refine ⟨.agg #[.slice a1 m1 c1, .slice b1 n1 d1], fun v hv => ?_, hK _ ?_⟩
  · simp [q0 v hv, q1 v hv]
  clear hK K
  refine wpQuiet_step (fun K hK => ?_)
  go_simp
  refine ⟨.bool true, fun v hv => ?_, hK _ ?_⟩
  · exact calm_call cT hv (hQ1 v (bl_trans HB.out (cB v hv)))
  clear hK K
  refine wpQuiet_step (fun K hK => ?_)
  go_simp
  refine ⟨_, fun v hv => rfl, hK _ ?_⟩
  clear hK K
  refine wpQuiet_nil ?_
  intro w4 C1
  have hb := cB _ C1
  clear C1 q0 q1 cB cT cD C
  have hu := hb
  replace HB : Hid _ := bl_trans HB.out hu
  replace K10 := cell_below hu K10
  replace K11 := cell_below hu K11
  replace K20 := cell_below hu K20
  replace K21 := cell_below hu K21
  replace Kt0 := cell_below hu Kt0
  replace Kt1 := cell_below hu Kt1
  clear hu
  clear hb
  go_wp2_with fail
  refine (hQ1 _ HB.out).mono ?_
  rintro e w5 ⟨rfl, hb⟩
  have hu := hb
  replace HB : Hid _ := bl_trans HB.out hu
  replace K10 := cell_below hu K10
  replace K11 := cell_below hu K11
  replace K20 := cell_below hu K20
  replace K21 := cell_below hu K21
  replace Kt0 := cell_below hu Kt0
  replace Kt1 := cell_below hu Kt1
  clear hu
  clear hb
  go_wp2_with fail
  refine (hQ2 _ HB.out).mono ?_
  rintro e w6 ⟨rfl, hb⟩
  have hu := hb
  replace HB : Hid _ := bl_trans HB.out hu
  replace K10 := cell_below hu K10
  replace K11 := cell_below hu K11
  replace K20 := cell_below hu K20
  replace K21 := cell_below hu K21
  replace Kt0 := cell_below hu Kt0
  replace Kt1 := cell_below hu Kt1
  clear hu
  clear hb
  go_wp2_with fail
  refine (hV _ HB.out).mono ?_
  rintro e w7 ⟨rfl, hb⟩
  have hu := hb
  replace HB : Hid _ := bl_trans HB.out hu
  replace K10 := cell_below hu K10
  replace K11 := cell_below hu K11
  replace K20 := cell_below hu K20
  replace K21 := cell_below hu K21
  replace Kt0 := cell_below hu Kt0
  replace Kt1 := cell_below hu Kt1
  clear hu
  clear hb
  go_wp2_with fail
  refine (awake_any aF aZ _ (HE.out.below HB.out)).mono ?_
  rintro e w8 ⟨rfl, hb⟩
  have hu := hb
  replace HB : Hid _ := bl_trans HB.out hu
  replace K10 := cell_below hu K10
  replace K11 := cell_below hu K11
  replace K20 := cell_below hu K20
  replace K21 := cell_below hu K21
  replace Kt0 := cell_below hu Kt0
  replace Kt1 := cell_below hu Kt1
  clear hu
  clear hb
  go_wp2
  go_ret
  exact ⟨rfl, HB.out⟩
/-- a value that is a tensor of these numbers -/
def Nt (zs : List Int) (m n : Nat) (qs : List Rat) (bd : Nat) (v : World) (x : Value) : Prop := ∃ a9 c9 b9 d9, x = .agg #[.slice a9 m c9, .slice b9 n d9] ∧ Tt v 0 a9 b9 zs m n qs bd
/-- what stands while the last line is under way -/
structure Gv (wr : World) (TA A1 A2 O : Value) (R : World → Value → Prop) (L : Array Bool) (w : World) (s6 s78 s79 s80 s81 s82 s83 s84 s85 s86 s87 s88 s89 s90 : Value) : Prop where
  sz : L.size = 14
  bl : Below wr.heap.size wr w
  kp : ∀ v u x, Below v.heap.size v u → R v x → R u x
  h0 : on L 0 → s78 = TA
  h1 : on L 1 → s79 = O
  h2 : on L 2 → s80 = A1
  h3 : on L 3 → s81 = A2
  h4 : on L 4 → R w s82
  h5 : on L 5 → s83 = .bool true
  h6 : on L 6 → s84 = .bool true
  h7 : on L 7 → s85 = .int .i64 0
  h8 : on L 8 → s86 = .bool true
  h9 : on L 9 → s87 = .bool true
  h10 : on L 10 → s88 = .bool true
  h11 : on L 11 → s89 = .bool true
  h12 : on L 12 → s90 = .bool true
  h13 : on L 13 → s6 = .bool true
section
variable {wr : World} {TA A1 A2 O : Value} {R : World → Value → Prop} {L : Array Bool} {w w' : World} {s6 s78 s79 s80 s81 s82 s83 s84 s85 s86 s87 s88 s89 s90 : Value}
theorem Gv.t0 (h : Gv wr TA A1 A2 O R L w s6 s78 s79 s80 s81 s82 s83 s84 s85 s86 s87 s88 s89 s90) : Gv wr TA A1 A2 O R (L.setIfInBounds 0 true) w s6 (TA) s79 s80 s81 s82 s83 s84 s85 s86 s87 s88 s89 s90 :=
  ⟨by simp [h.sz], h.bl, h.kp, fun _ => rfl, fun g => h.h1 (on_set g (by decide)), fun g => h.h2 (on_set g (by decide)), fun g => h.h3 (on_set g (by decide)), fun g => h.h4 (on_set g (by decide)), fun g => h.h5 (on_set g (by decide)), fun g => h.h6 (on_set g (by decide)), fun g => h.h7 (on_set g (by decide)), fun g => h.h8 (on_set g (by decide)), fun g => h.h9 (on_set g (by decide)), fun g => h.h10 (on_set g (by decide)), fun g => h.h11 (on_set g (by decide)), fun g => h.h12 (on_set g (by decide)), fun g => h.h13 (on_set g (by decide))⟩
theorem Gv.t1 (h : Gv wr TA A1 A2 O R L w s6 s78 s79 s80 s81 s82 s83 s84 s85 s86 s87 s88 s89 s90) : Gv wr TA A1 A2 O R (L.setIfInBounds 1 true) w s6 s78 (O) s80 s81 s82 s83 s84 s85 s86 s87 s88 s89 s90 :=
  ⟨by simp [h.sz], h.bl, h.kp, fun g => h.h0 (on_set g (by decide)), fun _ => rfl, fun g => h.h2 (on_set g (by decide)), fun g => h.h3 (on_set g (by decide)), fun g => h.h4 (on_set g (by decide)), fun g => h.h5 (on_set g (by decide)), fun g => h.h6 (on_set g (by decide)), fun g => h.h7 (on_set g (by decide)), fun g => h.h8 (on_set g (by decide)), fun g => h.h9 (on_set g (by decide)), fun g => h.h10 (on_set g (by decide)), fun g => h.h11 (on_set g (by decide)), fun g => h.h12 (on_set g (by decide)), fun g => h.h13 (on_set g (by decide))⟩
theorem Gv.t2 (h : Gv wr TA A1 A2 O R L w s6 s78 s79 s80 s81 s82 s83 s84 s85 s86 s87 s88 s89 s90) : Gv wr TA A1 A2 O R (L.setIfInBounds 2 true) w s6 s78 s79 (A1) s81 s82 s83 s84 s85 s86 s87 s88 s89 s90 :=
  ⟨by simp [h.sz], h.bl, h.kp, fun g => h.h0 (on_set g (by decide)), fun g => h.h1 (on_set g (by decide)), fun _ => rfl, fun g => h.h3 (on_set g (by decide)), fun g => h.h4 (on_set g (by decide)), fun g => h.h5 (on_set g (by decide)), fun g => h.h6 (on_set g (by decide)), fun g => h.h7 (on_set g (by decide)), fun g => h.h8 (on_set g (by decide)), fun g => h.h9 (on_set g (by decide)), fun g => h.h10 (on_set g (by decide)), fun g => h.h11 (on_set g (by decide)), fun g => h.h12 (on_set g (by decide)), fun g => h.h13 (on_set g (by decide))⟩
theorem Gv.t3 (h : Gv wr TA A1 A2 O R L w s6 s78 s79 s80 s81 s82 s83 s84 s85 s86 s87 s88 s89 s90) : Gv wr TA A1 A2 O R (L.setIfInBounds 3 true) w s6 s78 s79 s80 (A2) s82 s83 s84 s85 s86 s87 s88 s89 s90 :=
  ⟨by simp [h.sz], h.bl, h.kp, fun g => h.h0 (on_set g (by decide)), fun g => h.h1 (on_set g (by decide)), fun g => h.h2 (on_set g (by decide)), fun _ => rfl, fun g => h.h4 (on_set g (by decide)), fun g => h.h5 (on_set g (by decide)), fun g => h.h6 (on_set g (by decide)), fun g => h.h7 (on_set g (by decide)), fun g => h.h8 (on_set g (by decide)), fun g => h.h9 (on_set g (by decide)), fun g => h.h10 (on_set g (by decide)), fun g => h.h11 (on_set g (by decide)), fun g => h.h12 (on_set g (by decide)), fun g => h.h13 (on_set g (by decide))⟩
theorem Gv.t4 (h : Gv wr TA A1 A2 O R L w s6 s78 s79 s80 s81 s82 s83 s84 s85 s86 s87 s88 s89 s90) {x : Value} (hb : Below w.heap.size w w') (hx : R w' x) : Gv wr TA A1 A2 O R (L.setIfInBounds 4 true) w' s6 s78 s79 s80 s81 (x) s83 s84 s85 s86 s87 s88 s89 s90 :=
  ⟨by simp [h.sz], bl_trans h.bl hb, h.kp, fun g => h.h0 (on_set g (by decide)), fun g => h.h1 (on_set g (by decide)), fun g => h.h2 (on_set g (by decide)), fun g => h.h3 (on_set g (by decide)), fun _ => hx, fun g => h.h5 (on_set g (by decide)), fun g => h.h6 (on_set g (by decide)), fun g => h.h7 (on_set g (by decide)), fun g => h.h8 (on_set g (by decide)), fun g => h.h9 (on_set g (by decide)), fun g => h.h10 (on_set g (by decide)), fun g => h.h11 (on_set g (by decide)), fun g => h.h12 (on_set g (by decide)), fun g => h.h13 (on_set g (by decide))⟩
theorem Gv.t5 (h : Gv wr TA A1 A2 O R L w s6 s78 s79 s80 s81 s82 s83 s84 s85 s86 s87 s88 s89 s90) (hb : Below w.heap.size w w') : Gv wr TA A1 A2 O R (L.setIfInBounds 5 true) w' s6 s78 s79 s80 s81 s82 (.bool true) s84 s85 s86 s87 s88 s89 s90 :=
  ⟨by simp [h.sz], bl_trans h.bl hb, h.kp, fun g => h.h0 (on_set g (by decide)), fun g => h.h1 (on_set g (by decide)), fun g => h.h2 (on_set g (by decide)), fun g => h.h3 (on_set g (by decide)), fun g => h.kp _ _ _ hb (h.h4 (on_set g (by decide))), fun _ => rfl, fun g => h.h6 (on_set g (by decide)), fun g => h.h7 (on_set g (by decide)), fun g => h.h8 (on_set g (by decide)), fun g => h.h9 (on_set g (by decide)), fun g => h.h10 (on_set g (by decide)), fun g => h.h11 (on_set g (by decide)), fun g => h.h12 (on_set g (by decide)), fun g => h.h13 (on_set g (by decide))⟩
theorem Gv.t6 (h : Gv wr TA A1 A2 O R L w s6 s78 s79 s80 s81 s82 s83 s84 s85 s86 s87 s88 s89 s90) : Gv wr TA A1 A2 O R (L.setIfInBounds 6 true) w s6 s78 s79 s80 s81 s82 s83 (.bool true) s85 s86 s87 s88 s89 s90 :=
  ⟨by simp [h.sz], h.bl, h.kp, fun g => h.h0 (on_set g (by decide)), fun g => h.h1 (on_set g (by decide)), fun g => h.h2 (on_set g (by decide)), fun g => h.h3 (on_set g (by decide)), fun g => h.h4 (on_set g (by decide)), fun g => h.h5 (on_set g (by decide)), fun _ => rfl, fun g => h.h7 (on_set g (by decide)), fun g => h.h8 (on_set g (by decide)), fun g => h.h9 (on_set g (by decide)), fun g => h.h10 (on_set g (by decide)), fun g => h.h11 (on_set g (by decide)), fun g => h.h12 (on_set g (by decide)), fun g => h.h13 (on_set g (by decide))⟩
theorem Gv.t7 (h : Gv wr TA A1 A2 O R L w s6 s78 s79 s80 s81 s82 s83 s84 s85 s86 s87 s88 s89 s90) : Gv wr TA A1 A2 O R (L.setIfInBounds 7 true) w s6 s78 s79 s80 s81 s82 s83 s84 (.int .i64 0) s86 s87 s88 s89 s90 :=
  ⟨by simp [h.sz], h.bl, h.kp, fun g => h.h0 (on_set g (by decide)), fun g => h.h1 (on_set g (by decide)), fun g => h.h2 (on_set g (by decide)), fun g => h.h3 (on_set g (by decide)), fun g => h.h4 (on_set g (by decide)), fun g => h.h5 (on_set g (by decide)), fun g => h.h6 (on_set g (by decide)), fun _ => rfl, fun g => h.h8 (on_set g (by decide)), fun g => h.h9 (on_set g (by decide)), fun g => h.h10 (on_set g (by decide)), fun g => h.h11 (on_set g (by decide)), fun g => h.h12 (on_set g (by decide)), fun g => h.h13 (on_set g (by decide))⟩
theorem Gv.t8 (h : Gv wr TA A1 A2 O R L w s6 s78 s79 s80 s81 s82 s83 s84 s85 s86 s87 s88 s89 s90) : Gv wr TA A1 A2 O R (L.setIfInBounds 8 true) w s6 s78 s79 s80 s81 s82 s83 s84 s85 (.bool true) s87 s88 s89 s90 :=
  ⟨by simp [h.sz], h.bl, h.kp, fun g => h.h0 (on_set g (by decide)), fun g => h.h1 (on_set g (by decide)), fun g => h.h2 (on_set g (by decide)), fun g => h.h3 (on_set g (by decide)), fun g => h.h4 (on_set g (by decide)), fun g => h.h5 (on_set g (by decide)), fun g => h.h6 (on_set g (by decide)), fun g => h.h7 (on_set g (by decide)), fun _ => rfl, fun g => h.h9 (on_set g (by decide)), fun g => h.h10 (on_set g (by decide)), fun g => h.h11 (on_set g (by decide)), fun g => h.h12 (on_set g (by decide)), fun g => h.h13 (on_set g (by decide))⟩
theorem Gv.t9 (h : Gv wr TA A1 A2 O R L w s6 s78 s79 s80 s81 s82 s83 s84 s85 s86 s87 s88 s89 s90) : Gv wr TA A1 A2 O R (L.setIfInBounds 9 true) w s6 s78 s79 s80 s81 s82 s83 s84 s85 s86 (.bool true) s88 s89 s90 :=
  ⟨by simp [h.sz], h.bl, h.kp, fun g => h.h0 (on_set g (by decide)), fun g => h.h1 (on_set g (by decide)), fun g => h.h2 (on_set g (by decide)), fun g => h.h3 (on_set g (by decide)), fun g => h.h4 (on_set g (by decide)), fun g => h.h5 (on_set g (by decide)), fun g => h.h6 (on_set g (by decide)), fun g => h.h7 (on_set g (by decide)), fun g => h.h8 (on_set g (by decide)), fun _ => rfl, fun g => h.h10 (on_set g (by decide)), fun g => h.h11 (on_set g (by decide)), fun g => h.h12 (on_set g (by decide)), fun g => h.h13 (on_set g (by decide))⟩
theorem Gv.t10 (h : Gv wr TA A1 A2 O R L w s6 s78 s79 s80 s81 s82 s83 s84 s85 s86 s87 s88 s89 s90) : Gv wr TA A1 A2 O R (L.setIfInBounds 10 true) w s6 s78 s79 s80 s81 s82 s83 s84 s85 s86 s87 (.bool true) s89 s90 :=
  ⟨by simp [h.sz], h.bl, h.kp, fun g => h.h0 (on_set g (by decide)), fun g => h.h1 (on_set g (by decide)), fun g => h.h2 (on_set g (by decide)), fun g => h.h3 (on_set g (by decide)), fun g => h.h4 (on_set g (by decide)), fun g => h.h5 (on_set g (by decide)), fun g => h.h6 (on_set g (by decide)), fun g => h.h7 (on_set g (by decide)), fun g => h.h8 (on_set g (by decide)), fun g => h.h9 (on_set g (by decide)), fun _ => rfl, fun g => h.h11 (on_set g (by decide)), fun g => h.h12 (on_set g (by decide)), fun g => h.h13 (on_set g (by decide))⟩
theorem Gv.t11 (h : Gv wr TA A1 A2 O R L w s6 s78 s79 s80 s81 s82 s83 s84 s85 s86 s87 s88 s89 s90) (hb : Below w.heap.size w w') : Gv wr TA A1 A2 O R (L.setIfInBounds 11 true) w' s6 s78 s79 s80 s81 s82 s83 s84 s85 s86 s87 s88 (.bool true) s90 :=
  ⟨by simp [h.sz], bl_trans h.bl hb, h.kp, fun g => h.h0 (on_set g (by decide)), fun g => h.h1 (on_set g (by decide)), fun g => h.h2 (on_set g (by decide)), fun g => h.h3 (on_set g (by decide)), fun g => h.kp _ _ _ hb (h.h4 (on_set g (by decide))), fun g => h.h5 (on_set g (by decide)), fun g => h.h6 (on_set g (by decide)), fun g => h.h7 (on_set g (by decide)), fun g => h.h8 (on_set g (by decide)), fun g => h.h9 (on_set g (by decide)), fun g => h.h10 (on_set g (by decide)), fun _ => rfl, fun g => h.h12 (on_set g (by decide)), fun g => h.h13 (on_set g (by decide))⟩
theorem Gv.t12 (h : Gv wr TA A1 A2 O R L w s6 s78 s79 s80 s81 s82 s83 s84 s85 s86 s87 s88 s89 s90) : Gv wr TA A1 A2 O R (L.setIfInBounds 12 true) w s6 s78 s79 s80 s81 s82 s83 s84 s85 s86 s87 s88 s89 (.bool true) :=
  ⟨by simp [h.sz], h.bl, h.kp, fun g => h.h0 (on_set g (by decide)), fun g => h.h1 (on_set g (by decide)), fun g => h.h2 (on_set g (by decide)), fun g => h.h3 (on_set g (by decide)), fun g => h.h4 (on_set g (by decide)), fun g => h.h5 (on_set g (by decide)), fun g => h.h6 (on_set g (by decide)), fun g => h.h7 (on_set g (by decide)), fun g => h.h8 (on_set g (by decide)), fun g => h.h9 (on_set g (by decide)), fun g => h.h10 (on_set g (by decide)), fun g => h.h11 (on_set g (by decide)), fun _ => rfl, fun g => h.h13 (on_set g (by decide))⟩
theorem Gv.t13 (h : Gv wr TA A1 A2 O R L w s6 s78 s79 s80 s81 s82 s83 s84 s85 s86 s87 s88 s89 s90) : Gv wr TA A1 A2 O R (L.setIfInBounds 13 true) w (.bool true) s78 s79 s80 s81 s82 s83 s84 s85 s86 s87 s88 s89 s90 :=
  ⟨by simp [h.sz], h.bl, h.kp, fun g => h.h0 (on_set g (by decide)), fun g => h.h1 (on_set g (by decide)), fun g => h.h2 (on_set g (by decide)), fun g => h.h3 (on_set g (by decide)), fun g => h.h4 (on_set g (by decide)), fun g => h.h5 (on_set g (by decide)), fun g => h.h6 (on_set g (by decide)), fun g => h.h7 (on_set g (by decide)), fun g => h.h8 (on_set g (by decide)), fun g => h.h9 (on_set g (by decide)), fun g => h.h10 (on_set g (by decide)), fun g => h.h11 (on_set g (by decide)), fun g => h.h12 (on_set g (by decide)), fun _ => rfl⟩
end
theorem step_runw {P : Program} {ops : Array Oper} {Q : Exit → Act → World → Prop} {i : Nat} {o : Oper} {K : Act → World → Prop} {a : Act} {w : World} (ho : ops[i]? = some o) (hw : Region.wanted o (yielded ops a.tmps) = true) (h : o.wp P a w K Q) : wpOp P ops Q i K a w := by
  unfold wpOp
  rw [ho]
  simp only [hw, if_true]
  exact Or.inl h

set_option maxHeartbeats 4000000 in
theorem zips_g_sAdd (a1 b1 a2 b2 : Option Addr) (c1 d1 m1 n1 c2 d2 m2 n2 : Nat) (zs : List Int) (qs rs : List Rat) (aF aZ : Addr) (w : World) (hE : Er w aF aZ)
    (hS1 : ∀ v, Below w.heap.size w v → Calls Tryz.prog 12 #[.agg #[.slice a1 m1 c1, .slice b1 n1 d1]] v fun e w' => e = .returned (.bool true) ∧ Below v.heap.size v w')
    (hS2 : ∀ v, Below w.heap.size w v → Calls Tryz.prog 12 #[.agg #[.slice a2 m2 c2, .slice b2 n2 d2]] v fun e w' => e = .returned (.bool true) ∧ Below v.heap.size v w')
    (hR1 : ∀ v, Below w.heap.size w v → Calls Tryz.prog 15 #[.agg #[.slice a1 m1 c1, .slice b1 n1 d1]] v fun e w' => e = .returned (.bool true) ∧ Below v.heap.size v w')
    (hQ1 : ∀ v, Below w.heap.size w v → Calls Tryz.prog 16 #[.agg #[.slice a1 m1 c1, .slice b1 n1 d1]] v fun e w' => e = .returned (.bool true) ∧ Below v.heap.size v w')
    (hQ2 : ∀ v, Below w.heap.size w v → Calls Tryz.prog 16 #[.agg #[.slice a2 m2 c2, .slice b2 n2 d2]] v fun e w' => e = .returned (.bool true) ∧ Below v.heap.size v w') (hT1 : Tt w 0 a1 b1 zs m1 n1 qs 40) (hT2 : Tt w 0 a2 b2 zs m1 n1 rs 40) (e1 : m2 = m1) (e2 : n2 = n1) :
    Calls Tryz.prog 3 #[.string sAdd, .agg #[.slice a1 m1 c1, .slice b1 n1 d1], .agg #[.slice a2 m2 c2, .slice b2 n2 d2]] w fun e w' => e = .returned (.bool true) ∧ Below w.heap.size w w' := by
  have HE : Hid _ := hE
  clear hE
  have HB : Hid (Below w.heap.size w w) := Below.refl _ _
  subst e1 e2
  have hle := hT1.le
  have HTa : Hid _ := hT1
  clear hT1
  have HTb : Hid _ := hT2
  clear hT2
  have hu := bl_alloc (Below.refl w.heap.size w) (.cells #[.slice a1 m2 c1, .slice b1 n2 d1] 25)
  replace HB : Hid _ := bl_trans HB.out hu
  replace HTa : Hid _ := HTa.out.below hu
  replace HTb : Hid _ := HTb.out.below hu
  clear hu
  have K10 : (w.alloc (.cells #[.slice a1 m2 c1, .slice b1 n2 d1] 25)).cell? ⟨w.heap.size, 0, none⟩ = some (.slice a1 m2 c1) := by first | rw [World.cell?_alloc_at _ _ _ _ (by simp)]; rfl | simp
  have K11 : (w.alloc (.cells #[.slice a1 m2 c1, .slice b1 n2 d1] 25)).cell? ⟨w.heap.size, 1, none⟩ = some (.slice b1 n2 d1) := by first | rw [World.cell?_alloc_at _ _ _ _ (by simp)]; rfl | simp
  have hu := bl_alloc (Below.refl (w.alloc (.cells #[.slice a1 m2 c1, .slice b1 n2 d1] 25)).heap.size (w.alloc (.cells #[.slice a1 m2 c1, .slice b1 n2 d1] 25))) (.cells #[.slice a2 m2 c2, .slice b2 n2 d2] 25)
  replace HB : Hid _ := bl_trans HB.out hu
  replace HTa : Hid _ := HTa.out.below hu
  replace HTb : Hid _ := HTb.out.below hu
  replace K10 := cell_below hu K10
  replace K11 := cell_below hu K11
  clear hu
  have K20 : ((w.alloc (.cells #[.slice a1 m2 c1, .slice b1 n2 d1] 25)).alloc (.cells #[.slice a2 m2 c2, .slice b2 n2 d2] 25)).cell? ⟨w.heap.size + 1, 0, none⟩ = some (.slice a2 m2 c2) := by first | rw [World.cell?_alloc_at _ _ _ _ (by simp)]; rfl | simp
  have K21 : ((w.alloc (.cells #[.slice a1 m2 c1, .slice b1 n2 d1] 25)).alloc (.cells #[.slice a2 m2 c2, .slice b2 n2 d2] 25)).cell? ⟨w.heap.size + 1, 1, none⟩ = some (.slice b2 n2 d2) := by first | rw [World.cell?_alloc_at _ _ _ _ (by simp)]; rfl | simp
  go_enter Tryz.func3, Tryz.ntmps3
  go_wp2_with fail
  refine (hS1 _ HB.out).mono ?_
  rintro e w1 ⟨rfl, hb⟩
  have hu := hb
  replace HB : Hid _ := bl_trans HB.out hu
  replace HTa : Hid _ := HTa.out.below hu
  replace HTb : Hid _ := HTb.out.below hu
  replace K10 := cell_below hu K10
  replace K11 := cell_below hu K11
  replace K20 := cell_below hu K20
  replace K21 := cell_below hu K21
  clear hu
  clear hb
  go_wp2_with fail
  refine (hS2 _ HB.out).mono ?_
  rintro e w2 ⟨rfl, hb⟩
  have hu := hb
  replace HB : Hid _ := bl_trans HB.out hu
  replace HTa : Hid _ := HTa.out.below hu
  replace HTb : Hid _ := HTb.out.below hu
  replace K10 := cell_below hu K10
  replace K11 := cell_below hu K11
  replace K20 := cell_below hu K20
  replace K21 := cell_below hu K21
  clear hu
  clear hb
  go_wp2_with fail
  refine (zadd c1 d1 c2 d2 (HE.out.below HB.out) HTa.out HTb.out (by omega)).mono ?_
  rintro e w3 ⟨a3', c3', b3', d3', rfl, hT, hb⟩
  have hu := bl_alloc hb (.cells #[.slice a3' m2 c3', .slice b3' n2 d3'] 25)
  replace HB : Hid _ := bl_trans HB.out hu
  replace HTa : Hid _ := HTa.out.below hu
  replace HTb : Hid _ := HTb.out.below hu
  replace K10 := cell_below hu K10
  replace K11 := cell_below hu K11
  replace K20 := cell_below hu K20
  replace K21 := cell_below hu K21
  clear hu
  have HTt : Hid _ := hT.below (bl_alloc (Below.refl w3.heap.size w3) (.cells #[.slice a3' m2 c3', .slice b3' n2 d3'] 25))
  have Kt0 : (w3.alloc (.cells #[.slice a3' m2 c3', .slice b3' n2 d3'] 25)).cell? ⟨w3.heap.size, 0, none⟩ = some (.slice a3' m2 c3') := by simp
  have Kt1 : (w3.alloc (.cells #[.slice a3' m2 c3', .slice b3' n2 d3'] 25)).cell? ⟨w3.heap.size, 1, none⟩ = some (.slice b3' n2 d3') := by simp
  clear hb hT
  go_wp2_with fail
  obtain ⟨C, hC⟩ : ∃ C : World → Prop, C = fun v => Below (w3.alloc (.cells #[.slice a3' m2 c3', .slice b3' n2 d3'] 25)).heap.size (w3.alloc (.cells #[.slice a3' m2 c3', .slice b3' n2 d3'] 25)) v := ⟨_, rfl⟩
  have q0 : ∀ v, C v → v.cell? ⟨w.heap.size, 0, none⟩ = some (.slice a1 m2 c1) := fun v h => by subst hC; exact cell_below h K10
  have q1 : ∀ v, C v → v.cell? ⟨w.heap.size, 1, none⟩ = some (.slice b1 n2 d1) := fun v h => by subst hC; exact cell_below h K11
  have cB : ∀ v, C v → Below (w3.alloc (.cells #[.slice a3' m2 c3', .slice b3' n2 d3'] 25)).heap.size (w3.alloc (.cells #[.slice a3' m2 c3', .slice b3' n2 d3'] 25)) v := fun v h => by subst hC; exact h
  have cT : ∀ u v, C u → Below u.heap.size u v → C v := fun u v h k => by subst hC; exact bl_trans h k
  have cD : ∀ v, C v → C v.drew := fun v h => by subst hC; exact h.drew
  have cI : C (w3.alloc (.cells #[.slice a3' m2 c3', .slice b3' n2 d3'] 25)) := by subst hC; exact Below.refl _ _
  clear hC
  refine region_calm C (by kernel_rfl) (by kernel_rfl) (cD _ cI) ?_
  clear cI
  refine wpQuiet_step (fun K hK => ?_)
  go_simp
  refine ⟨.agg #[.slice a1 m2 c1, .slice b1 n2 d1], fun v hv => ?_, hK _ ?_⟩
  · simp [q0 v hv, q1 v hv]
  clear hK K
  refine wpQuiet_step (fun K hK => ?_)
  go_simp
  refine ⟨.bool true, fun v hv => ?_, hK _ ?_⟩
  · exact calm_call cT hv (hR1 v (bl_trans HB.out (cB v hv)))
  clear hK K
  refine wpQuiet_step (fun K hK => ?_)
  go_simp
  refine ⟨.agg #[.slice a1 m2 c1, .slice b1 n2 d1], fun v hv => ?_, hK _ ?_⟩
  · simp [q0 v hv, q1 v hv]
  clear hK K
  refine wpQuiet_step (fun K hK => ?_)
  go_simp
  refine ⟨.bool true, fun v hv => ?_, hK _ ?_⟩
  · exact calm_call cT hv (hQ1 v (bl_trans HB.out (cB v hv)))
  clear hK K
  refine wpQuiet_step (fun K hK => ?_)
  go_simp
  refine ⟨_, fun v hv => rfl, hK _ ?_⟩
  clear hK K
  refine wpQuiet_nil ?_
  intro w4 C1
  have hb := cB _ C1
  clear C1 q0 q1 cB cT cD C
  have hu := hb
  replace HB : Hid _ := bl_trans HB.out hu
  replace HTa : Hid _ := HTa.out.below hu
  replace HTb : Hid _ := HTb.out.below hu
  replace HTt : Hid _ := HTt.out.below hu
  replace K10 := cell_below hu K10
  replace K11 := cell_below hu K11
  replace K20 := cell_below hu K20
  replace K21 := cell_below hu K21
  replace Kt0 := cell_below hu Kt0
  replace Kt1 := cell_below hu Kt1
  clear hu
  clear hb
  go_wp2_with fail
  refine (hQ1 _ HB.out).mono ?_
  rintro e w5 ⟨rfl, hb⟩
  have hu := hb
  replace HB : Hid _ := bl_trans HB.out hu
  replace HTa : Hid _ := HTa.out.below hu
  replace HTb : Hid _ := HTb.out.below hu
  replace HTt : Hid _ := HTt.out.below hu
  replace K10 := cell_below hu K10
  replace K11 := cell_below hu K11
  replace K20 := cell_below hu K20
  replace K21 := cell_below hu K21
  replace Kt0 := cell_below hu Kt0
  replace Kt1 := cell_below hu Kt1
  clear hu
  clear hb
  go_wp2_with fail
  refine (hQ2 _ HB.out).mono ?_
  rintro e w6 ⟨rfl, hb⟩
  have hu := hb
  replace HB : Hid _ := bl_trans HB.out hu
  replace HTa : Hid _ := HTa.out.below hu
  replace HTb : Hid _ := HTb.out.below hu
  replace HTt : Hid _ := HTt.out.below hu
  replace K10 := cell_below hu K10
  replace K11 := cell_below hu K11
  replace K20 := cell_below hu K20
  replace K21 := cell_below hu K21
  replace Kt0 := cell_below hu Kt0
  replace Kt1 := cell_below hu Kt1
  clear hu
  clear hb
  go_wp2_with fail
  refine (zsame c1 c2 HTa.out.tm.s HTb.out.tm.s HTa.out.hm (by omega)).mono ?_
  rintro e w7 ⟨rfl, hb⟩
  have hu := hb
  replace HB : Hid _ := bl_trans HB.out hu
  replace HTa : Hid _ := HTa.out.below hu
  replace HTb : Hid _ := HTb.out.below hu
  replace HTt : Hid _ := HTt.out.below hu
  replace K10 := cell_below hu K10
  replace K11 := cell_below hu K11
  replace K20 := cell_below hu K20
  replace K21 := cell_below hu K21
  replace Kt0 := cell_below hu Kt0
  replace Kt1 := cell_below hu Kt1
  clear hu
  clear hb
  go_wp2_with fail
  refine wp_region_any (by kernel_rfl) ?_
  refine wpAny_inv (fun L a v => ∃ s6 s78 s79 s80 s81 s82 s83 s84 s85 s86 s87 s88 s89 s90, a = ⟨#[Value.string sAdd, Value.agg #[Value.slice a1 m2 c1, Value.slice b1 n2 d1], Value.agg #[Value.slice a2 m2 c2, Value.slice b2 n2 d2], undef, Value.pointer (some { block := w.heap.size, off := 0 }), Value.pointer (some { block := w.heap.size + 1, off := 0 }), s6, Value.pointer (some { block := w3.heap.size, off := 0 }), Value.int IntKind.i64 0, Value.agg #[Value.slice a1 m2 c1, Value.slice b1 n2 d1], Value.bool true, Value.bool false, Value.bool false, Value.agg #[Value.slice a2 m2 c2, Value.slice b2 n2 d2], Value.bool true, Value.bool false, Value.bool false, undef, Value.tuple #[Value.agg #[Value.slice a3' m2 c3', Value.slice b3' n2 d3'], Value.int IntKind.i64 0], Value.string sAdd, Value.agg #[Value.slice a1 m2 c1, Value.slice b1 n2 d1], Value.agg #[Value.slice a2 m2 c2, Value.slice b2 n2 d2], Value.tuple #[Value.agg #[Value.slice a3' m2 c3', Value.slice b3' n2 d3'], Value.int IntKind.i64 0], Value.agg #[Value.slice a3' m2 c3', Value.slice b3' n2 d3'], Value.int IntKind.i64 0, Value.agg #[Value.slice a1 m2 c1, Value.slice b1 n2 d1], Value.bool true, Value.agg #[Value.slice a1 m2 c1, Value.slice b1 n2 d1], Value.bool true, Value.bool false, Value.string sAdd, Value.bool false, Value.bool false, undef, undef, Value.bool false, Value.bool false, undef, undef, Value.bool false, Value.bool false, Value.agg #[Value.slice a1 m2 c1, Value.slice b1 n2 d1], Value.bool true, Value.bool false, Value.bool false, Value.bool false, Value.agg #[Value.slice a2 m2 c2, Value.slice b2 n2 d2], Value.bool true, Value.bool false, Value.bool false, undef, undef, undef, undef, undef, undef, undef, undef, undef, undef, undef, Value.pointer (some { block := w.heap.size, off := 0 }), Value.slice a1 m2 c1, Value.pointer (some { block := w.heap.size + 1, off := 0 }), Value.slice a2 m2 c2, Value.bool true, Value.bool false, undef, undef, undef, undef, undef, undef, undef, undef, undef, undef, undef, s78, s79, s80, s81, s82, s83, s84, s85, s86, s87, s88, s89, s90], []⟩ ∧ Gv w7 (.agg #[.slice a3' m2 c3', .slice b3' n2 d3']) (.agg #[.slice a1 m2 c1, .slice b1 n2 d1]) (.agg #[.slice a2 m2 c2, .slice b2 n2 d2]) (.string sAdd) (Nt zs m2 n2 (List.zipWith (· + ·) qs rs) 81) L v s6 s78 s79 s80 s81 s82 s83 s84 s85 s86 s87 s88 s89 s90) ?_ ?_ _ _ _ _ (by decide) ?_
  · intro L a v i hI hi
    obtain ⟨s6, s78, s79, s80, s81, s82, s83, s84, s85, s86, s87, s88, s89, s90, rfl, hP⟩ := hI
    obtain ⟨hu, o, ho, haf⟩ := mem_ready.1 hi
    have hlt : i < 14 := (Array.getElem?_eq_some_iff.1 ho).1
    have k0 := cell_below hP.bl K10
    have k1 := cell_below hP.bl K11
    have k2 := cell_below hP.bl K20
    have k3 := cell_below hP.bl K21
    have k4 := cell_below hP.bl Kt0
    have k5 := cell_below hP.bl Kt1
    rcases (by omega : i = 0 ∨ i = 1 ∨ i = 2 ∨ i = 3 ∨ i = 4 ∨ i = 5 ∨ i = 6 ∨ i = 7 ∨ i = 8 ∨ i = 9 ∨ i = 10 ∨ i = 11 ∨ i = 12 ∨ i = 13) with rfl | rfl | rfl | rfl | rfl | rfl | rfl | rfl | rfl | rfl | rfl | rfl | rfl | rfl
    all_goals (simp only [List.getElem?_toArray, List.getElem?_cons_zero, List.getElem?_cons_succ, Option.some.injEq] at ho; subst ho)
    · refine step_run rfl rfl ?_
      have hP2 := hP.t0
      go_simp
      exact ⟨_, _, _, _, _, _, _, _, _, _, _, _, _, _, ⟨rfl, rfl, rfl, rfl, rfl, rfl, rfl, rfl, rfl, rfl, rfl, rfl, rfl, rfl⟩, hP2⟩
    · refine step_run rfl rfl ?_
      have hP2 := hP.t1
      go_simp
      exact ⟨_, _, _, _, _, _, _, _, _, _, _, _, _, _, ⟨rfl, rfl, rfl, rfl, rfl, rfl, rfl, rfl, rfl, rfl, rfl, rfl, rfl, rfl⟩, hP2⟩
    · refine step_run rfl rfl ?_
      have hP2 := hP.t2
      go_simp
      exact ⟨_, _, _, _, _, _, _, _, _, _, _, _, _, _, ⟨rfl, rfl, rfl, rfl, rfl, rfl, rfl, rfl, rfl, rfl, rfl, rfl, rfl, rfl⟩, hP2⟩
    · refine step_run rfl rfl ?_
      have hP2 := hP.t3
      go_simp
      exact ⟨_, _, _, _, _, _, _, _, _, _, _, _, _, _, ⟨rfl, rfl, rfl, rfl, rfl, rfl, rfl, rfl, rfl, rfl, rfl, rfl, rfl, rfl⟩, hP2⟩
    · have g1 := hP.h1 (haf { on := 1, ground := .data } (by simp) rfl)
      have g2 := hP.h2 (haf { on := 2, ground := .data } (by simp) rfl)
      have g3 := hP.h3 (haf { on := 3, ground := .data } (by simp) rfl)
      subst g1 g2 g3
      refine step_run rfl rfl ?_
      unfold Oper.wp
      rw [run_three cf19 (.tmp 79) (.tmp 80) (.tmp 81) 9 25 25 rfl _ _ _ rfl rfl rfl]
      refine (rzip_add a1 b1 a2 b2 c1 d1 c2 d2 m2 n2 0 0 zs qs rs v (HTa.out.below hP.bl) (HTb.out.below hP.bl)).mono ?_
      rintro e v2 ⟨a9, c9, b9, d9, rfl, hT9, hb⟩
      have hP2 := hP.t4 hb ⟨a9, c9, b9, d9, rfl, hT9⟩
      go_simp
      exact ⟨_, _, _, _, _, _, _, _, _, _, _, _, _, _, ⟨rfl, rfl, rfl, rfl, rfl, rfl, rfl, rfl, rfl, rfl, rfl, rfl, rfl, rfl⟩, hP2⟩
    · have g0 := hP.h0 (haf { on := 0, ground := .data } (by simp) rfl)
      have g4 := hP.h4 (haf { on := 4, ground := .data } (by simp) rfl)
      obtain ⟨a9, c9, b9, d9, g4, hT9⟩ := g4
      subst g0 g4
      refine step_run rfl rfl ?_
      unfold Oper.wp
      rw [run_two cf18 (.tmp 78) (.tmp 82) 25 25 rfl _ _ rfl rfl]
      refine (zeq c3' d3' c9 d9 (HTt.out.below hP.bl) hT9 rfl).mono ?_
      rintro e v2 ⟨rfl, hb⟩
      have hP2 := hP.t5 hb
      go_simp
      exact ⟨_, _, _, _, _, _, _, _, _, _, _, _, _, _, ⟨rfl, rfl, rfl, rfl, rfl, rfl, rfl, rfl, rfl, rfl, rfl, rfl, rfl, rfl⟩, hP2⟩
    · have g5 := hP.h5 (haf { on := 5, ground := .data } (by simp) rfl)
      subst g5
      refine step_run rfl rfl ?_
      have hP2 := hP.t6
      go_simp
      exact ⟨_, _, _, _, _, _, _, _, _, _, _, _, _, _, ⟨rfl, rfl, rfl, rfl, rfl, rfl, rfl, rfl, rfl, rfl, rfl, rfl, rfl, rfl⟩, hP2⟩
    · have g6 := hP.h6 (haf { on := 6, ground := .guard } (by simp) rfl)
      subst g6
      refine step_runw rfl (by first | rfl | go_simp) ?_
      have hP2 := hP.t7
      go_simp
      exact ⟨_, _, _, _, _, _, _, _, _, _, _, _, _, _, ⟨rfl, rfl, rfl, rfl, rfl, rfl, rfl, rfl, rfl, rfl, rfl, rfl, rfl, rfl⟩, hP2⟩
    · have g7 := hP.h7 (haf { on := 7, ground := .data } (by simp) rfl)
      have g6 := hP.h6 (haf { on := 6, ground := .guard } (by simp) rfl)
      subst g7 g6
      refine step_runw rfl (by first | rfl | go_simp) ?_
      have hP2 := hP.t8
      go_simp
      exact ⟨_, _, _, _, _, _, _, _, _, _, _, _, _, _, ⟨rfl, rfl, rfl, rfl, rfl, rfl, rfl, rfl, rfl, rfl, rfl, rfl, rfl, rfl⟩, hP2⟩
    · have g6 := hP.h6 (haf { on := 6, ground := .data } (by simp) rfl)
      have g8 := hP.h8 (haf { on := 8, ground := .data } (by simp) rfl)
      subst g6 g8
      refine step_run rfl rfl ?_
      have hP2 := hP.t9
      go_simp
      exact ⟨_, _, _, _, _, _, _, _, _, _, _, _, _, _, ⟨rfl, rfl, rfl, rfl, rfl, rfl, rfl, rfl, rfl, rfl, rfl, rfl, rfl, rfl⟩, hP2⟩
    · have g9 := hP.h9 (haf { on := 9, ground := .data } (by simp) rfl)
      subst g9
      refine step_run rfl rfl ?_
      have hP2 := hP.t10
      go_simp
      exact ⟨_, _, _, _, _, _, _, _, _, _, _, _, _, _, ⟨rfl, rfl, rfl, rfl, rfl, rfl, rfl, rfl, rfl, rfl, rfl, rfl, rfl, rfl⟩, hP2⟩
    · have g10 := hP.h10 (haf { on := 10, ground := .guard } (by simp) rfl)
      subst g10
      refine step_runw rfl (by first | rfl | go_simp) ?_
      unfold Oper.wp
      rw [run_none cf13 rfl]
      refine (awake_any aF aZ _ (HE.out.below (bl_trans HB.out hP.bl))).mono ?_
      rintro e v2 ⟨rfl, hb⟩
      have hP2 := hP.t11 hb
      go_simp
      exact ⟨_, _, _, _, _, _, _, _, _, _, _, _, _, _, ⟨rfl, rfl, rfl, rfl, rfl, rfl, rfl, rfl, rfl, rfl, rfl, rfl, rfl, rfl⟩, hP2⟩
    · have g10 := hP.h10 (haf { on := 10, ground := .data } (by simp) rfl)
      have g11 := hP.h11 (haf { on := 11, ground := .data } (by simp) rfl)
      subst g10 g11
      refine step_run rfl rfl ?_
      have hP2 := hP.t12
      go_simp
      exact ⟨_, _, _, _, _, _, _, _, _, _, _, _, _, _, ⟨rfl, rfl, rfl, rfl, rfl, rfl, rfl, rfl, rfl, rfl, rfl, rfl, rfl, rfl⟩, hP2⟩
    · have g12 := hP.h12 (haf { on := 12, ground := .data } (by simp) rfl)
      subst g12
      refine step_run rfl rfl ?_
      have hP2 := hP.t13
      go_simp
      exact ⟨_, _, _, _, _, _, _, _, _, _, _, _, _, _, ⟨rfl, rfl, rfl, rfl, rfl, rfl, rfl, rfl, rfl, rfl, rfl, rfl, rfl, rfl⟩, hP2⟩
  · intro L a v hI hr
    obtain ⟨s6, s78, s79, s80, s81, s82, s83, s84, s85, s86, s87, s88, s89, s90, rfl, hP⟩ := hI
    have hno := List.eq_nil_iff_forall_not_mem.1 hr
    have g0 : on L 0 := Decidable.byContradiction fun hc => hno 0 (mem_ready.2 ⟨off (by rw [hP.sz]; decide) hc, _, rfl, fun e he => by simp at he⟩)
    have g1 : on L 1 := Decidable.byContradiction fun hc => hno 1 (mem_ready.2 ⟨off (by rw [hP.sz]; decide) hc, _, rfl, fun e he => by simp at he⟩)
    have g2 : on L 2 := Decidable.byContradiction fun hc => hno 2 (mem_ready.2 ⟨off (by rw [hP.sz]; decide) hc, _, rfl, fun e he => by simp at he⟩)
    have g3 : on L 3 := Decidable.byContradiction fun hc => hno 3 (mem_ready.2 ⟨off (by rw [hP.sz]; decide) hc, _, rfl, fun e he => by simp at he⟩)
    have g4 : on L 4 := by
      refine Decidable.byContradiction fun hc => hno 4 (mem_ready.2 ⟨off (by rw [hP.sz]; decide) hc, _, rfl, ?_⟩)
      intro e he hb
      simp at he
      rcases he with rfl | rfl | rfl
      all_goals first | assumption | exact absurd hb (by decide)
    have g5 : on L 5 := by
      refine Decidable.byContradiction fun hc => hno 5 (mem_ready.2 ⟨off (by rw [hP.sz]; decide) hc, _, rfl, ?_⟩)
      intro e he hb
      simp at he
      rcases he with rfl | rfl | rfl
      all_goals first | assumption | exact absurd hb (by decide)
    have g6 : on L 6 := by
      refine Decidable.byContradiction fun hc => hno 6 (mem_ready.2 ⟨off (by rw [hP.sz]; decide) hc, _, rfl, ?_⟩)
      intro e he hb
      simp at he
      rcases he with rfl | rfl
      all_goals first | assumption | exact absurd hb (by decide)
    have g7 : on L 7 := by
      refine Decidable.byContradiction fun hc => hno 7 (mem_ready.2 ⟨off (by rw [hP.sz]; decide) hc, _, rfl, ?_⟩)
      intro e he hb
      simp at he
      subst he
      all_goals first | assumption | exact absurd hb (by decide)
    have g8 : on L 8 := by
      refine Decidable.byContradiction fun hc => hno 8 (mem_ready.2 ⟨off (by rw [hP.sz]; decide) hc, _, rfl, ?_⟩)
      intro e he hb
      simp at he
      rcases he with rfl | rfl
      all_goals first | assumption | exact absurd hb (by decide)
    have g9 : on L 9 := by
      refine Decidable.byContradiction fun hc => hno 9 (mem_ready.2 ⟨off (by rw [hP.sz]; decide) hc, _, rfl, ?_⟩)
      intro e he hb
      simp at he
      rcases he with rfl | rfl
      all_goals first | assumption | exact absurd hb (by decide)
    have g10 : on L 10 := by
      refine Decidable.byContradiction fun hc => hno 10 (mem_ready.2 ⟨off (by rw [hP.sz]; decide) hc, _, rfl, ?_⟩)
      intro e he hb
      simp at he
      rcases he with rfl | rfl
      all_goals first | assumption | exact absurd hb (by decide)
    have g11 : on L 11 := by
      refine Decidable.byContradiction fun hc => hno 11 (mem_ready.2 ⟨off (by rw [hP.sz]; decide) hc, _, rfl, ?_⟩)
      intro e he hb
      simp at he
      rcases he with rfl | rfl
      all_goals first | assumption | exact absurd hb (by decide)
    have g12 : on L 12 := by
      refine Decidable.byContradiction fun hc => hno 12 (mem_ready.2 ⟨off (by rw [hP.sz]; decide) hc, _, rfl, ?_⟩)
      intro e he hb
      simp at he
      rcases he with rfl | rfl
      all_goals first | assumption | exact absurd hb (by decide)
    have g13 : on L 13 := by
      refine Decidable.byContradiction fun hc => hno 13 (mem_ready.2 ⟨off (by rw [hP.sz]; decide) hc, _, rfl, ?_⟩)
      intro e he hb
      simp at he
      rcases he with rfl | rfl | rfl | rfl | rfl | rfl | rfl | rfl | rfl | rfl | rfl | rfl | rfl | rfl | rfl
      all_goals first | assumption | exact absurd hb (by decide)
    have e0 := hP.h0 g0
    have e1 := hP.h1 g1
    have e2 := hP.h2 g2
    have e3 := hP.h3 g3
    have e5 := hP.h5 g5
    have e6 := hP.h6 g6
    have e7 := hP.h7 g7
    have e8 := hP.h8 g8
    have e9 := hP.h9 g9
    have e10 := hP.h10 g10
    have e11 := hP.h11 g11
    have e12 := hP.h12 g12
    have e13 := hP.h13 g13
    have HBL : Hid (Below w.heap.size w v) := bl_trans HB.out hP.bl
    clear hP g0 g1 g2 g3 g4 g5 g6 g7 g8 g9 g10 g11 g12 g13 hr hno
    subst e0 e1 e2 e3 e5 e6 e7 e8 e9 e10 e11 e12 e13
    clear K10 K11 K20 K21 Kt0 Kt1
    go_wp2
    go_ret
    exact ⟨rfl, HBL.out⟩
  · exact ⟨_, _, _, _, _, _, _, _, _, _, _, _, _, _, rfl, ⟨by simp, bl_drew (Below.refl _ _), fun v u x hb ⟨a9, c9, b9, d9, e, hT⟩ => ⟨a9, c9, b9, d9, e, hT.below hb⟩, fun g => absurd g (by simp [on]), fun g => absurd g (by simp [on]), fun g => absurd g (by simp [on]), fun g => absurd g (by simp [on]), fun g => absurd g (by simp [on]), fun g => absurd g (by simp [on]), fun g => absurd g (by simp [on]), fun g => absurd g (by simp [on]), fun g => absurd g (by simp [on]), fun g => absurd g (by simp [on]), fun g => absurd g (by simp [on]), fun g => absurd g (by simp [on]), fun g => absurd g (by simp [on]), fun g => absurd g (by simp [on])⟩⟩

set_option maxHeartbeats 4000000 in
theorem zips_a_sSub (a1 b1 a2 b2 : Option Addr) (c1 d1 m1 n1 c2 d2 m2 n2 : Nat) (aF aZ : Addr) (w : World) (hE : Er w aF aZ)
    (hS1 : ∀ v, Below w.heap.size w v → Calls Tryz.prog 12 #[.agg #[.slice a1 m1 c1, .slice b1 n1 d1]] v fun e w' => e = .returned (.bool true) ∧ Below v.heap.size v w')
    (hS2 : ∀ v, Below w.heap.size w v → Calls Tryz.prog 12 #[.agg #[.slice a2 m2 c2, .slice b2 n2 d2]] v fun e w' => e = .returned (.bool true) ∧ Below v.heap.size v w')
    (hZ : ∀ v, Below w.heap.size w v → Calls Tryz.prog 14 #[.string sSub, .agg #[.slice a1 m1 c1, .slice b1 n1 d1], .agg #[.slice a2 m2 c2, .slice b2 n2 d2]] v fun e w' => e = .returned (noTensor 1) ∧ Below v.heap.size v w')
    (hR1 : ∀ v, Below w.heap.size w v → Calls Tryz.prog 15 #[.agg #[.slice a1 m1 c1, .slice b1 n1 d1]] v fun e w' => e = .returned (.bool false) ∧ Below v.heap.size v w')
    (hQ1 : ∀ v, Below w.heap.size w v → Calls Tryz.prog 16 #[.agg #[.slice a1 m1 c1, .slice b1 n1 d1]] v fun e w' => e = .returned (.bool false) ∧ Below v.heap.size v w') :
    Calls Tryz.prog 3 #[.string sSub, .agg #[.slice a1 m1 c1, .slice b1 n1 d1], .agg #[.slice a2 m2 c2, .slice b2 n2 d2]] w fun e w' => e = .returned (.bool true) ∧ Below w.heap.size w w' := by
  have HE : Hid _ := hE
  clear hE
  have HB : Hid (Below w.heap.size w w) := Below.refl _ _
  have hu := bl_alloc (Below.refl w.heap.size w) (.cells #[.slice a1 m1 c1, .slice b1 n1 d1] 25)
  replace HB : Hid _ := bl_trans HB.out hu
  clear hu
  have K10 : (w.alloc (.cells #[.slice a1 m1 c1, .slice b1 n1 d1] 25)).cell? ⟨w.heap.size, 0, none⟩ = some (.slice a1 m1 c1) := by first | rw [World.cell?_alloc_at _ _ _ _ (by simp)]; rfl | simp
  have K11 : (w.alloc (.cells #[.slice a1 m1 c1, .slice b1 n1 d1] 25)).cell? ⟨w.heap.size, 1, none⟩ = some (.slice b1 n1 d1) := by first | rw [World.cell?_alloc_at _ _ _ _ (by simp)]; rfl | simp
  have hu := bl_alloc (Below.refl (w.alloc (.cells #[.slice a1 m1 c1, .slice b1 n1 d1] 25)).heap.size (w.alloc (.cells #[.slice a1 m1 c1, .slice b1 n1 d1] 25))) (.cells #[.slice a2 m2 c2, .slice b2 n2 d2] 25)
  replace HB : Hid _ := bl_trans HB.out hu
  replace K10 := cell_below hu K10
  replace K11 := cell_below hu K11
  clear hu
  have K20 : ((w.alloc (.cells #[.slice a1 m1 c1, .slice b1 n1 d1] 25)).alloc (.cells #[.slice a2 m2 c2, .slice b2 n2 d2] 25)).cell? ⟨w.heap.size + 1, 0, none⟩ = some (.slice a2 m2 c2) := by first | rw [World.cell?_alloc_at _ _ _ _ (by simp)]; rfl | simp
  have K21 : ((w.alloc (.cells #[.slice a1 m1 c1, .slice b1 n1 d1] 25)).alloc (.cells #[.slice a2 m2 c2, .slice b2 n2 d2] 25)).cell? ⟨w.heap.size + 1, 1, none⟩ = some (.slice b2 n2 d2) := by first | rw [World.cell?_alloc_at _ _ _ _ (by simp)]; rfl | simp
  go_enter Tryz.func3, Tryz.ntmps3
  go_wp2_with fail
  refine (hS1 _ HB.out).mono ?_
  rintro e w1 ⟨rfl, hb⟩
  have hu := hb
  replace HB : Hid _ := bl_trans HB.out hu
  replace K10 := cell_below hu K10
  replace K11 := cell_below hu K11
  replace K20 := cell_below hu K20
  replace K21 := cell_below hu K21
  clear hu
  clear hb
  go_wp2_with fail
  refine (hS2 _ HB.out).mono ?_
  rintro e w2 ⟨rfl, hb⟩
  have hu := hb
  replace HB : Hid _ := bl_trans HB.out hu
  replace K10 := cell_below hu K10
  replace K11 := cell_below hu K11
  replace K20 := cell_below hu K20
  replace K21 := cell_below hu K21
  clear hu
  clear hb
  go_wp2_with fail
  refine (hZ _ HB.out).mono ?_
  rintro e w3 ⟨rfl, hb⟩
  have hu := bl_alloc hb (.cells #[.slice none 0 0, .slice none 0 0] 25)
  replace HB : Hid _ := bl_trans HB.out hu
  replace K10 := cell_below hu K10
  replace K11 := cell_below hu K11
  replace K20 := cell_below hu K20
  replace K21 := cell_below hu K21
  clear hu
  have Kt0 : (w3.alloc (.cells #[.slice none 0 0, .slice none 0 0] 25)).cell? ⟨w3.heap.size, 0, none⟩ = some (.slice none 0 0) := by simp
  have Kt1 : (w3.alloc (.cells #[.slice none 0 0, .slice none 0 0] 25)).cell? ⟨w3.heap.size, 1, none⟩ = some (.slice none 0 0) := by simp
  clear hb
  go_wp2_with fail
  obtain ⟨C, hC⟩ : ∃ C : World → Prop, C = fun v => Below (w3.alloc (.cells #[.slice none 0 0, .slice none 0 0] 25)).heap.size (w3.alloc (.cells #[.slice none 0 0, .slice none 0 0] 25)) v := ⟨_, rfl⟩
  have q0 : ∀ v, C v → v.cell? ⟨w.heap.size, 0, none⟩ = some (.slice a1 m1 c1) := fun v h => by subst hC; exact cell_below h K10
  have q1 : ∀ v, C v → v.cell? ⟨w.heap.size, 1, none⟩ = some (.slice b1 n1 d1) := fun v h => by subst hC; exact cell_below h K11
  have cB : ∀ v, C v → Below (w3.alloc (.cells #[.slice none 0 0, .slice none 0 0] 25)).heap.size (w3.alloc (.cells #[.slice none 0 0, .slice none 0 0] 25)) v := fun v h => by subst hC; exact h
  have cT : ∀ u v, C u → Below u.heap.size u v → C v := fun u v h k => by subst hC; exact bl_trans h k
  have cD : ∀ v, C v → C v.drew := fun v h => by subst hC; exact h.drew
  have cI : C (w3.alloc (.cells #[.slice none 0 0, .slice none 0 0] 25)) := by subst hC; exact Below.refl _ _
  clear hC
  refine region_calm C (by kernel_rfl) (by kernel_rfl) (cD _ cI) ?_
  clear cI
  refine wpQuiet_step (fun K hK => ?_)
  go_simp
  refine ⟨.agg #[.slice a1 m1 c1, .slice b1 n1 d1], fun v hv => ?_, hK _ ?_⟩
  · simp [q0 v hv, q1 v hv]
  clear hK K
  refine wpQuiet_step (fun K hK => ?_)
  go_simp
  refine ⟨.bool false, fun v hv => ?_, hK _ ?_⟩
  · exact calm_call cT hv (hR1 v (bl_trans HB.out (cB v hv)))
  clear hK K
  refine wpQuiet_step (fun K hK => ?_)
  go_simp
  refine ⟨.agg #[.slice a1 m1 c1, .slice b1 n1 d1], fun v hv => ?_, hK _ ?_⟩
  · simp [q0 v hv, q1 v hv]
  clear hK K
  refine wpQuiet_step (fun K hK => ?_)
  go_simp
  refine ⟨.bool false, fun v hv => ?_, hK _ ?_⟩
  · exact calm_call cT hv (hQ1 v (bl_trans HB.out (cB v hv)))
  clear hK K
  refine wpQuiet_step (fun K hK => ?_)
  go_simp
  refine ⟨_, fun v hv => rfl, hK _ ?_⟩
  clear hK K
  refine wpQuiet_nil ?_
  intro w4 C1
  have hb := cB _ C1
  clear C1 q0 q1 cB cT cD C
  have hu := hb
  replace HB : Hid _ := bl_trans HB.out hu
  replace K10 := cell_below hu K10
  replace K11 := cell_below hu K11
  replace K20 := cell_below hu K20
  replace K21 := cell_below hu K21
  replace Kt0 := cell_below hu Kt0
  replace Kt1 := cell_below hu Kt1
  clear hu
  clear hb
  go_wp2_with fail
  refine (hQ1 _ HB.out).mono ?_
  rintro e w5 ⟨rfl, hb⟩
  have hu := hb
  replace HB : Hid _ := bl_trans HB.out hu
  replace K10 := cell_below hu K10
  replace K11 := cell_below hu K11
  replace K20 := cell_below hu K20
  replace K21 := cell_below hu K21
  replace Kt0 := cell_below hu Kt0
  replace Kt1 := cell_below hu Kt1
  clear hu
  clear hb
  go_wp2_with fail
  refine (awake_any aF aZ _ (HE.out.below HB.out)).mono ?_
  rintro e w6 ⟨rfl, hb⟩
  have hu := hb
  replace HB : Hid _ := bl_trans HB.out hu
  replace K10 := cell_below hu K10
  replace K11 := cell_below hu K11
  replace K20 := cell_below hu K20
  replace K21 := cell_below hu K21
  replace Kt0 := cell_below hu Kt0
  replace Kt1 := cell_below hu Kt1
  clear hu
  clear hb
  go_wp2
  go_ret
  exact ⟨rfl, HB.out⟩

set_option maxHeartbeats 4000000 in
theorem zips_b_sSub (a1 b1 a2 b2 : Option Addr) (c1 d1 m1 n1 c2 d2 m2 n2 : Nat) (aF aZ : Addr) (w : World) (hE : Er w aF aZ)
    (hS1 : ∀ v, Below w.heap.size w v → Calls Tryz.prog 12 #[.agg #[.slice a1 m1 c1, .slice b1 n1 d1]] v fun e w' => e = .returned (.bool true) ∧ Below v.heap.size v w')
    (hS2 : ∀ v, Below w.heap.size w v → Calls Tryz.prog 12 #[.agg #[.slice a2 m2 c2, .slice b2 n2 d2]] v fun e w' => e = .returned (.bool true) ∧ Below v.heap.size v w')
    (hZ : ∀ v, Below w.heap.size w v → Calls Tryz.prog 14 #[.string sSub, .agg #[.slice a1 m1 c1, .slice b1 n1 d1], .agg #[.slice a2 m2 c2, .slice b2 n2 d2]] v fun e w' => e = .returned (noTensor 1) ∧ Below v.heap.size v w')
    (hR1 : ∀ v, Below w.heap.size w v → Calls Tryz.prog 15 #[.agg #[.slice a1 m1 c1, .slice b1 n1 d1]] v fun e w' => e = .returned (.bool true) ∧ Below v.heap.size v w')
    (hQ1 : ∀ v, Below w.heap.size w v → Calls Tryz.prog 16 #[.agg #[.slice a1 m1 c1, .slice b1 n1 d1]] v fun e w' => e = .returned (.bool true) ∧ Below v.heap.size v w')
    (hQ2 : ∀ v, Below w.heap.size w v → Calls Tryz.prog 16 #[.agg #[.slice a2 m2 c2, .slice b2 n2 d2]] v fun e w' => e = .returned (.bool false) ∧ Below v.heap.size v w') :
    Calls Tryz.prog 3 #[.string sSub, .agg #[.slice a1 m1 c1, .slice b1 n1 d1], .agg #[.slice a2 m2 c2, .slice b2 n2 d2]] w fun e w' => e = .returned (.bool true) ∧ Below w.heap.size w w' := by
  have HE : Hid _ := hE
  clear hE
  have HB : Hid (Below w.heap.size w w) := Below.refl _ _
  have hu := bl_alloc (Below.refl w.heap.size w) (.cells #[.slice a1 m1 c1, .slice b1 n1 d1] 25)
  replace HB : Hid _ := bl_trans HB.out hu
  clear hu
  have K10 : (w.alloc (.cells #[.slice a1 m1 c1, .slice b1 n1 d1] 25)).cell? ⟨w.heap.size, 0, none⟩ = some (.slice a1 m1 c1) := by first | rw [World.cell?_alloc_at _ _ _ _ (by simp)]; rfl | simp
  have K11 : (w.alloc (.cells #[.slice a1 m1 c1, .slice b1 n1 d1] 25)).cell? ⟨w.heap.size, 1, none⟩ = some (.slice b1 n1 d1) := by first | rw [World.cell?_alloc_at _ _ _ _ (by simp)]; rfl | simp
  have hu := bl_alloc (Below.refl (w.alloc (.cells #[.slice a1 m1 c1, .slice b1 n1 d1] 25)).heap.size (w.alloc (.cells #[.slice a1 m1 c1, .slice b1 n1 d1] 25))) (.cells #[.slice a2 m2 c2, .slice b2 n2 d2] 25)
  replace HB : Hid _ := bl_trans HB.out hu
  replace K10 := cell_below hu K10
  replace K11 := cell_below hu K11
  clear hu
  have K20 : ((w.alloc (.cells #[.slice a1 m1 c1, .slice b1 n1 d1] 25)).alloc (.cells #[.slice a2 m2 c2, .slice b2 n2 d2] 25)).cell? ⟨w.heap.size + 1, 0, none⟩ = some (.slice a2 m2 c2) := by first | rw [World.cell?_alloc_at _ _ _ _ (by simp)]; rfl | simp
  have K21 : ((w.alloc (.cells #[.slice a1 m1 c1, .slice b1 n1 d1] 25)).alloc (.cells #[.slice a2 m2 c2, .slice b2 n2 d2] 25)).cell? ⟨w.heap.size + 1, 1, none⟩ = some (.slice b2 n2 d2) := by first | rw [World.cell?_alloc_at _ _ _ _ (by simp)]; rfl | simp
  go_enter Tryz.func3, Tryz.ntmps3
  go_wp2_with fail
  refine (hS1 _ HB.out).mono ?_
  rintro e w1 ⟨rfl, hb⟩
  have hu := hb
  replace HB : Hid _ := bl_trans HB.out hu
  replace K10 := cell_below hu K10
  replace K11 := cell_below hu K11
  replace K20 := cell_below hu K20
  replace K21 := cell_below hu K21
  clear hu
  clear hb
  go_wp2_with fail
  refine (hS2 _ HB.out).mono ?_
  rintro e w2 ⟨rfl, hb⟩
  have hu := hb
  replace HB : Hid _ := bl_trans HB.out hu
  replace K10 := cell_below hu K10
  replace K11 := cell_below hu K11
  replace K20 := cell_below hu K20
  replace K21 := cell_below hu K21
  clear hu
  clear hb
  go_wp2_with fail
  refine (hZ _ HB.out).mono ?_
  rintro e w3 ⟨rfl, hb⟩
  have hu := bl_alloc hb (.cells #[.slice none 0 0, .slice none 0 0] 25)
  replace HB : Hid _ := bl_trans HB.out hu
  replace K10 := cell_below hu K10
  replace K11 := cell_below hu K11
  replace K20 := cell_below hu K20
  replace K21 := cell_below hu K21
  clear hu
  have Kt0 : (w3.alloc (.cells #[.slice none 0 0, .slice none 0 0] 25)).cell? ⟨w3.heap.size, 0, none⟩ = some (.slice none 0 0) := by simp
  have Kt1 : (w3.alloc (.cells #[.slice none 0 0, .slice none 0 0] 25)).cell? ⟨w3.heap.size, 1, none⟩ = some (.slice none 0 0) := by simp
  clear hb
  go_wp2_with fail
  obtain ⟨C, hC⟩ : ∃ C : World → Prop, C = fun v => Below (w3.alloc (.cells #[.slice none 0 0, .slice none 0 0] 25)).heap.size (w3.alloc (.cells #[.slice none 0 0, .slice none 0 0] 25)) v := ⟨_, rfl⟩
  have q0 : ∀ v, C v → v.cell? ⟨w.heap.size, 0, none⟩ = some (.slice a1 m1 c1) := fun v h => by subst hC; exact cell_below h K10
  have q1 : ∀ v, C v → v.cell? ⟨w.heap.size, 1, none⟩ = some (.slice b1 n1 d1) := fun v h => by subst hC; exact cell_below h K11
  have cB : ∀ v, C v → Below (w3.alloc (.cells #[.slice none 0 0, .slice none 0 0] 25)).heap.size (w3.alloc (.cells #[.slice none 0 0, .slice none 0 0] 25)) v := fun v h => by subst hC; exact h
  have cT : ∀ u v, C u → Below u.heap.size u v → C v := fun u v h k => by subst hC; exact bl_trans h k
  have cD : ∀ v, C v → C v.drew := fun v h => by subst hC; exact h.drew
  have cI : C (w3.alloc (.cells #[.slice none 0 0, .slice none 0 0] 25)) := by subst hC; exact Below.refl _ _
  clear hC
  refine region_calm C (by kernel_rfl) (by kernel_rfl) (cD _ cI) ?_
  clear cI
  refine wpQuiet_step (fun K hK => ?_)
  go_simp
  refine ⟨.agg #[.slice a1 m1 c1, .slice b1 n1 d1], fun v hv => ?_, hK _ ?_⟩
  · simp [q0 v hv, q1 v hv]
  clear hK K
  refine wpQuiet_step (fun K hK => ?_)
  go_simp
  refine ⟨.bool true, fun v hv => ?_, hK _ ?_⟩
  · exact calm_call cT hv (hR1 v (bl_trans HB.out (cB v hv)))
  clear hK K
  refine wpQuiet_step (fun K hK => ?_)
  go_simp
  refine ⟨.agg #[.slice a1 m1 c1, .slice b1 n1 d1], fun v hv => ?_, hK _ ?_⟩
  · simp [q0 v hv, q1 v hv]
  clear hK K
  refine wpQuiet_step (fun K hK => ?_)
  go_simp
  refine ⟨.bool true, fun v hv => ?_, hK _ ?_⟩
  · exact calm_call cT hv (hQ1 v (bl_trans HB.out (cB v hv)))
  clear hK K
  refine wpQuiet_step (fun K hK => ?_)
  go_simp
  refine ⟨_, fun v hv => rfl, hK _ ?_⟩
  clear hK K
  refine wpQuiet_nil ?_
  intro w4 C1
  have hb := cB _ C1
  clear C1 q0 q1 cB cT cD C
  have hu := hb
  replace HB : Hid _ := bl_trans HB.out hu
  replace K10 := cell_below hu K10
  replace K11 := cell_below hu K11
  replace K20 := cell_below hu K20
  replace K21 := cell_below hu K21
  replace Kt0 := cell_below hu Kt0
  replace Kt1 := cell_below hu Kt1
  clear hu
  clear hb
  go_wp2_with fail
  refine (hQ1 _ HB.out).mono ?_
  rintro e w5 ⟨rfl, hb⟩
  have hu := hb
  replace HB : Hid _ := bl_trans HB.out hu
  replace K10 := cell_below hu K10
  replace K11 := cell_below hu K11
  replace K20 := cell_below hu K20
  replace K21 := cell_below hu K21
  replace Kt0 := cell_below hu Kt0
  replace Kt1 := cell_below hu Kt1
  clear hu
  clear hb
  go_wp2_with fail
  refine (hQ2 _ HB.out).mono ?_
  rintro e w6 ⟨rfl, hb⟩
  have hu := hb
  replace HB : Hid _ := bl_trans HB.out hu
  replace K10 := cell_below hu K10
  replace K11 := cell_below hu K11
  replace K20 := cell_below hu K20
  replace K21 := cell_below hu K21
  replace Kt0 := cell_below hu Kt0
  replace Kt1 := cell_below hu Kt1
  clear hu
  clear hb
  go_wp2_with fail
  refine (awake_any aF aZ _ (HE.out.below HB.out)).mono ?_
  rintro e w7 ⟨rfl, hb⟩
  have hu := hb
  replace HB : Hid _ := bl_trans HB.out hu
  replace K10 := cell_below hu K10
  replace K11 := cell_below hu K11
  replace K20 := cell_below hu K20
  replace K21 := cell_below hu K21
  replace Kt0 := cell_below hu Kt0
  replace Kt1 := cell_below hu Kt1
  clear hu
  clear hb
  go_wp2
  go_ret
  exact ⟨rfl, HB.out⟩

set_option maxHeartbeats 4000000 in
theorem zips_s_sSub (a1 b1 a2 b2 : Option Addr) (c1 d1 m1 n1 c2 d2 m2 n2 : Nat) (aF aZ : Addr) (w : World) (hE : Er w aF aZ)
    (hS1 : ∀ v, Below w.heap.size w v → Calls Tryz.prog 12 #[.agg #[.slice a1 m1 c1, .slice b1 n1 d1]] v fun e w' => e = .returned (.bool true) ∧ Below v.heap.size v w')
    (hS2 : ∀ v, Below w.heap.size w v → Calls Tryz.prog 12 #[.agg #[.slice a2 m2 c2, .slice b2 n2 d2]] v fun e w' => e = .returned (.bool true) ∧ Below v.heap.size v w')
    (hZ : ∀ v, Below w.heap.size w v → Calls Tryz.prog 14 #[.string sSub, .agg #[.slice a1 m1 c1, .slice b1 n1 d1], .agg #[.slice a2 m2 c2, .slice b2 n2 d2]] v fun e w' => e = .returned (noTensor 4) ∧ Below v.heap.size v w')
    (hR1 : ∀ v, Below w.heap.size w v → Calls Tryz.prog 15 #[.agg #[.slice a1 m1 c1, .slice b1 n1 d1]] v fun e w' => e = .returned (.bool true) ∧ Below v.heap.size v w')
    (hQ1 : ∀ v, Below w.heap.size w v → Calls Tryz.prog 16 #[.agg #[.slice a1 m1 c1, .slice b1 n1 d1]] v fun e w' => e = .returned (.bool true) ∧ Below v.heap.size v w')
    (hQ2 : ∀ v, Below w.heap.size w v → Calls Tryz.prog 16 #[.agg #[.slice a2 m2 c2, .slice b2 n2 d2]] v fun e w' => e = .returned (.bool true) ∧ Below v.heap.size v w')
    (hV : ∀ v, Below w.heap.size w v → Calls Tryz.prog 17 #[.slice a1 m1 c1, .slice a2 m2 c2] v fun e w' => e = .returned (.bool false) ∧ Below v.heap.size v w') :
    Calls Tryz.prog 3 #[.string sSub, .agg #[.slice a1 m1 c1, .slice b1 n1 d1], .agg #[.slice a2 m2 c2, .slice b2 n2 d2]] w fun e w' => e = .returned (.bool true) ∧ Below w.heap.size w w' := by
  have HE : Hid _ := hE
  clear hE
  have HB : Hid (Below w.heap.size w w) := Below.refl _ _
  have hu := bl_alloc (Below.refl w.heap.size w) (.cells #[.slice a1 m1 c1, .slice b1 n1 d1] 25)
  replace HB : Hid _ := bl_trans HB.out hu
  clear hu
  have K10 : (w.alloc (.cells #[.slice a1 m1 c1, .slice b1 n1 d1] 25)).cell? ⟨w.heap.size, 0, none⟩ = some (.slice a1 m1 c1) := by first | rw [World.cell?_alloc_at _ _ _ _ (by simp)]; rfl | simp
  have K11 : (w.alloc (.cells #[.slice a1 m1 c1, .slice b1 n1 d1] 25)).cell? ⟨w.heap.size, 1, none⟩ = some (.slice b1 n1 d1) := by first | rw [World.cell?_alloc_at _ _ _ _ (by simp)]; rfl | simp
  have hu := bl_alloc (Below.refl (w.alloc (.cells #[.slice a1 m1 c1, .slice b1 n1 d1] 25)).heap.size (w.alloc (.cells #[.slice a1 m1 c1, .slice b1 n1 d1] 25))) (.cells #[.slice a2 m2 c2, .slice b2 n2 d2] 25)
  replace HB : Hid _ := bl_trans HB.out hu
  replace K10 := cell_below hu K10
  replace K11 := cell_below hu K11
  clear hu
  have K20 : ((w.alloc (.cells #[.slice a1 m1 c1, .slice b1 n1 d1] 25)).alloc (.cells #[.slice a2 m2 c2, .slice b2 n2 d2] 25)).cell? ⟨w.heap.size + 1, 0, none⟩ = some (.slice a2 m2 c2) := by first | rw [World.cell?_alloc_at _ _ _ _ (by simp)]; rfl | simp
  have K21 : ((w.alloc (.cells #[.slice a1 m1 c1, .slice b1 n1 d1] 25)).alloc (.cells #[.slice a2 m2 c2, .slice b2 n2 d2] 25)).cell? ⟨w.heap.size + 1, 1, none⟩ = some (.slice b2 n2 d2) := by first | rw [World.cell?_alloc_at _ _ _ _ (by simp)]; rfl | simp
  go_enter Tryz.func3, Tryz.ntmps3
  go_wp2_with fail
  refine (hS1 _ HB.out).mono ?_
  rintro e w1 ⟨rfl, hb⟩
  have hu := hb
  replace HB : Hid _ := bl_trans HB.out hu
  replace K10 := cell_below hu K10
  replace K11 := cell_below hu K11
  replace K20 := cell_below hu K20
  replace K21 := cell_below hu K21
  clear hu
  clear hb
  go_wp2_with fail
  refine (hS2 _ HB.out).mono ?_
  rintro e w2 ⟨rfl, hb⟩
  have hu := hb
  replace HB : Hid _ := bl_trans HB.out hu
  replace K10 := cell_below hu K10
  replace K11 := cell_below hu K11
  replace K20 := cell_below hu K20
  replace K21 := cell_below hu K21
  clear hu
  clear hb
  go_wp2_with fail
  refine (hZ _ HB.out).mono ?_
  rintro e w3 ⟨rfl, hb⟩
  have hu := bl_alloc hb (.cells #[.slice none 0 0, .slice none 0 0] 25)
  replace HB : Hid _ := bl_trans HB.out hu
  replace K10 := cell_below hu K10
  replace K11 := cell_below hu K11
  replace K20 := cell_below hu K20
  replace K21 := cell_below hu K21
  clear hu
  have Kt0 : (w3.alloc (.cells #[.slice none 0 0, .slice none 0 0] 25)).cell? ⟨w3.heap.size, 0, none⟩ = some (.slice none 0 0) := by simp
  have Kt1 : (w3.alloc (.cells #[.slice none 0 0, .slice none 0 0] 25)).cell? ⟨w3.heap.size, 1, none⟩ = some (.slice none 0 0) := by simp
  clear hb
  go_wp2_with fail
  obtain ⟨C, hC⟩ : ∃ C : World → Prop, C = fun v => Below (w3.alloc (.cells #[.slice none 0 0, .slice none 0 0] 25)).heap.size (w3.alloc (.cells #[.slice none 0 0, .slice none 0 0] 25)) v := ⟨_, rfl⟩
  have q0 : ∀ v, C v → v.cell? ⟨w.heap.size, 0, none⟩ = some (.slice a1 m1 c1) := fun v h => by subst hC; exact cell_below h K10
  have q1 : ∀ v, C v → v.cell? ⟨w.heap.size, 1, none⟩ = some (.slice b1 n1 d1) := fun v h => by subst hC; exact cell_below h K11
  have cB : ∀ v, C v → Below (w3.alloc (.cells #[.slice none 0 0, .slice none 0 0] 25)).heap.size (w3.alloc (.cells #[.slice none 0 0, .slice none 0 0] 25)) v := fun v h => by subst hC; exact h
  have cT : ∀ u v, C u → Below u.heap.size u v → C v := fun u v h k => by subst hC; exact bl_trans h k
  have cD : ∀ v, C v → C v.drew := fun v h => by subst hC; exact h.drew
  have cI : C (w3.alloc (.cells #[.slice none 0 0, .slice none 0 0] 25)) := by subst hC; exact Below.refl _ _
  clear hC
  refine region_calm C (by kernel_rfl) (by kernel_rfl) (cD _ cI) ?_
  clear cI
  refine wpQuiet_step (fun K hK => ?_)
  go_simp
  refine ⟨.agg #[.slice a1 m1 c1, .slice b1 n1 d1], fun v hv => ?_, hK _ ?_⟩
  · simp [q0 v hv, q1 v hv]
  clear hK K
  refine wpQuiet_step (fun K hK => ?_)
  go_simp
  refine ⟨.bool true, fun v hv => ?_, hK _ ?_⟩
  · exact calm_call cT hv (hR1 v (bl_trans HB.out (cB v hv)))
  clear hK K
  refine wpQuiet_step (fun K hK => ?_)
  go_simp
  refine ⟨.agg #[.slice a1 m1 c1, .slice b1 n1 d1], fun v hv => ?_, hK _ ?_⟩
  · simp [q0 v hv, q1 v hv]
  clear hK K
  refine wpQuiet_step (fun K hK => ?_)
  go_simp
  refine ⟨.bool true, fun v hv => ?_, hK _ ?_⟩
  · exact calm_call cT hv (hQ1 v (bl_trans HB.out (cB v hv)))
  clear hK K
  refine wpQuiet_step (fun K hK => ?_)
  go_simp
  refine ⟨_, fun v hv => rfl, hK _ ?_⟩
  clear hK K
  refine wpQuiet_nil ?_
  intro w4 C1
  have hb := cB _ C1
  clear C1 q0 q1 cB cT cD C
  have hu := hb
  replace HB : Hid _ := bl_trans HB.out hu
  replace K10 := cell_below hu K10
  replace K11 := cell_below hu K11
  replace K20 := cell_below hu K20
  replace K21 := cell_below hu K21
  replace Kt0 := cell_below hu Kt0
  replace Kt1 := cell_below hu Kt1
  clear hu
  clear hb
  go_wp2_with fail
  refine (hQ1 _ HB.out).mono ?_
  rintro e w5 ⟨rfl, hb⟩
  have hu := hb
  replace HB : Hid _ := bl_trans HB.out hu
  replace K10 := cell_below hu K10
  replace K11 := cell_below hu K11
  replace K20 := cell_below hu K20
  replace K21 := cell_below hu K21
  replace Kt0 := cell_below hu Kt0
  replace Kt1 := cell_below hu Kt1
  clear hu
  clear hb
  go_wp2_with fail
  refine (hQ2 _ HB.out).mono ?_
  rintro e w6 ⟨rfl, hb⟩
  have hu := hb
  replace HB : Hid _ := bl_trans HB.out hu
  replace K10 := cell_below hu K10
  replace K11 := cell_below hu K11
  replace K20 := cell_below hu K20
  replace K21 := cell_below hu K21
  replace Kt0 := cell_below hu Kt0
  replace Kt1 := cell_below hu Kt1
  clear hu
  clear hb
  go_wp2_with fail
  refine (hV _ HB.out).mono ?_
  rintro e w7 ⟨rfl, hb⟩
  have hu := hb
  replace HB : Hid _ := bl_trans HB.out hu
  replace K10 := cell_below hu K10
  replace K11 := cell_below hu K11
  replace K20 := cell_below hu K20
  replace K21 := cell_below hu K21
  replace Kt0 := cell_below hu Kt0
  replace Kt1 := cell_below hu Kt1
  clear hu
  clear hb
  go_wp2_with fail
  refine (awake_any aF aZ _ (HE.out.below HB.out)).mono ?_
  rintro e w8 ⟨rfl, hb⟩
  have hu := hb
  replace HB : Hid _ := bl_trans HB.out hu
  replace K10 := cell_below hu K10
  replace K11 := cell_below hu K11
  replace K20 := cell_below hu K20
  replace K21 := cell_below hu K21
  replace Kt0 := cell_below hu Kt0
  replace Kt1 := cell_below hu Kt1
  clear hu
  clear hb
  go_wp2
  go_ret
  exact ⟨rfl, HB.out⟩

set_option maxHeartbeats 4000000 in
theorem zips_g_sSub (a1 b1 a2 b2 : Option Addr) (c1 d1 m1 n1 c2 d2 m2 n2 : Nat) (zs : List Int) (qs rs : List Rat) (aF aZ : Addr) (w : World) (hE : Er w aF aZ)
    (hS1 : ∀ v, Below w.heap.size w v → Calls Tryz.prog 12 #[.agg #[.slice a1 m1 c1, .slice b1 n1 d1]] v fun e w' => e = .returned (.bool true) ∧ Below v.heap.size v w')
    (hS2 : ∀ v, Below w.heap.size w v → Calls Tryz.prog 12 #[.agg #[.slice a2 m2 c2, .slice b2 n2 d2]] v fun e w' => e = .returned (.bool true) ∧ Below v.heap.size v w')
    (hR1 : ∀ v, Below w.heap.size w v → Calls Tryz.prog 15 #[.agg #[.slice a1 m1 c1, .slice b1 n1 d1]] v fun e w' => e = .returned (.bool true) ∧ Below v.heap.size v w')
    (hQ1 : ∀ v, Below w.heap.size w v → Calls Tryz.prog 16 #[.agg #[.slice a1 m1 c1, .slice b1 n1 d1]] v fun e w' => e = .returned (.bool true) ∧ Below v.heap.size v w')
    (hQ2 : ∀ v, Below w.heap.size w v → Calls Tryz.prog 16 #[.agg #[.slice a2 m2 c2, .slice b2 n2 d2]] v fun e w' => e = .returned (.bool true) ∧ Below v.heap.size v w') (hT1 : Tt w 0 a1 b1 zs m1 n1 qs 40) (hT2 : Tt w 0 a2 b2 zs m1 n1 rs 40) (e1 : m2 = m1) (e2 : n2 = n1) :
    Calls Tryz.prog 3 #[.string sSub, .agg #[.slice a1 m1 c1, .slice b1 n1 d1], .agg #[.slice a2 m2 c2, .slice b2 n2 d2]] w fun e w' => e = .returned (.bool true) ∧ Below w.heap.size w w' := by
  have HE : Hid _ := hE
  clear hE
  have HB : Hid (Below w.heap.size w w) := Below.refl _ _
  subst e1 e2
  have hle := hT1.le
  have HTa : Hid _ := hT1
  clear hT1
  have HTb : Hid _ := hT2
  clear hT2
  have hu := bl_alloc (Below.refl w.heap.size w) (.cells #[.slice a1 m2 c1, .slice b1 n2 d1] 25)
  replace HB : Hid _ := bl_trans HB.out hu
  replace HTa : Hid _ := HTa.out.below hu
  replace HTb : Hid _ := HTb.out.below hu
  clear hu
  have K10 : (w.alloc (.cells #[.slice a1 m2 c1, .slice b1 n2 d1] 25)).cell? ⟨w.heap.size, 0, none⟩ = some (.slice a1 m2 c1) := by first | rw [World.cell?_alloc_at _ _ _ _ (by simp)]; rfl | simp
  have K11 : (w.alloc (.cells #[.slice a1 m2 c1, .slice b1 n2 d1] 25)).cell? ⟨w.heap.size, 1, none⟩ = some (.slice b1 n2 d1) := by first | rw [World.cell?_alloc_at _ _ _ _ (by simp)]; rfl | simp
  have hu := bl_alloc (Below.refl (w.alloc (.cells #[.slice a1 m2 c1, .slice b1 n2 d1] 25)).heap.size (w.alloc (.cells #[.slice a1 m2 c1, .slice b1 n2 d1] 25))) (.cells #[.slice a2 m2 c2, .slice b2 n2 d2] 25)
  replace HB : Hid _ := bl_trans HB.out hu
  replace HTa : Hid _ := HTa.out.below hu
  replace HTb : Hid _ := HTb.out.below hu
  replace K10 := cell_below hu K10
  replace K11 := cell_below hu K11
  clear hu
  have K20 : ((w.alloc (.cells #[.slice a1 m2 c1, .slice b1 n2 d1] 25)).alloc (.cells #[.slice a2 m2 c2, .slice b2 n2 d2] 25)).cell? ⟨w.heap.size + 1, 0, none⟩ = some (.slice a2 m2 c2) := by first | rw [World.cell?_alloc_at _ _ _ _ (by simp)]; rfl | simp
  have K21 : ((w.alloc (.cells #[.slice a1 m2 c1, .slice b1 n2 d1] 25)).alloc (.cells #[.slice a2 m2 c2, .slice b2 n2 d2] 25)).cell? ⟨w.heap.size + 1, 1, none⟩ = some (.slice b2 n2 d2) := by first | rw [World.cell?_alloc_at _ _ _ _ (by simp)]; rfl | simp
  go_enter Tryz.func3, Tryz.ntmps3
  go_wp2_with fail
  refine (hS1 _ HB.out).mono ?_
  rintro e w1 ⟨rfl, hb⟩
  have hu := hb
  replace HB : Hid _ := bl_trans HB.out hu
  replace HTa : Hid _ := HTa.out.below hu
  replace HTb : Hid _ := HTb.out.below hu
  replace K10 := cell_below hu K10
  replace K11 := cell_below hu K11
  replace K20 := cell_below hu K20
  replace K21 := cell_below hu K21
  clear hu
  clear hb
  go_wp2_with fail
  refine (hS2 _ HB.out).mono ?_
  rintro e w2 ⟨rfl, hb⟩
  have hu := hb
  replace HB : Hid _ := bl_trans HB.out hu
  replace HTa : Hid _ := HTa.out.below hu
  replace HTb : Hid _ := HTb.out.below hu
  replace K10 := cell_below hu K10
  replace K11 := cell_below hu K11
  replace K20 := cell_below hu K20
  replace K21 := cell_below hu K21
  clear hu
  clear hb
  go_wp2_with fail
  refine (zsub c1 d1 c2 d2 (HE.out.below HB.out) HTa.out HTb.out (by omega)).mono ?_
  rintro e w3 ⟨a3', c3', b3', d3', rfl, hT, hb⟩
  have hu := bl_alloc hb (.cells #[.slice a3' m2 c3', .slice b3' n2 d3'] 25)
  replace HB : Hid _ := bl_trans HB.out hu
  replace HTa : Hid _ := HTa.out.below hu
  replace HTb : Hid _ := HTb.out.below hu
  replace K10 := cell_below hu K10
  replace K11 := cell_below hu K11
  replace K20 := cell_below hu K20
  replace K21 := cell_below hu K21
  clear hu
  have HTt : Hid _ := hT.below (bl_alloc (Below.refl w3.heap.size w3) (.cells #[.slice a3' m2 c3', .slice b3' n2 d3'] 25))
  have Kt0 : (w3.alloc (.cells #[.slice a3' m2 c3', .slice b3' n2 d3'] 25)).cell? ⟨w3.heap.size, 0, none⟩ = some (.slice a3' m2 c3') := by simp
  have Kt1 : (w3.alloc (.cells #[.slice a3' m2 c3', .slice b3' n2 d3'] 25)).cell? ⟨w3.heap.size, 1, none⟩ = some (.slice b3' n2 d3') := by simp
  clear hb hT
  go_wp2_with fail
  obtain ⟨C, hC⟩ : ∃ C : World → Prop, C = fun v => Below (w3.alloc (.cells #[.slice a3' m2 c3', .slice b3' n2 d3'] 25)).heap.size (w3.alloc (.cells #[.slice a3' m2 c3', .slice b3' n2 d3'] 25)) v := ⟨_, rfl⟩
  have q0 : ∀ v, C v → v.cell? ⟨w.heap.size, 0, none⟩ = some (.slice a1 m2 c1) := fun v h => by subst hC; exact cell_below h K10
  have q1 : ∀ v, C v → v.cell? ⟨w.heap.size, 1, none⟩ = some (.slice b1 n2 d1) := fun v h => by subst hC; exact cell_below h K11
  have cB : ∀ v, C v → Below (w3.alloc (.cells #[.slice a3' m2 c3', .slice b3' n2 d3'] 25)).heap.size (w3.alloc (.cells #[.slice a3' m2 c3', .slice b3' n2 d3'] 25)) v := fun v h => by subst hC; exact h
  have cT : ∀ u v, C u → Below u.heap.size u v → C v := fun u v h k => by subst hC; exact bl_trans h k
  have cD : ∀ v, C v → C v.drew := fun v h => by subst hC; exact h.drew
  have cI : C (w3.alloc (.cells #[.slice a3' m2 c3', .slice b3' n2 d3'] 25)) := by subst hC; exact Below.refl _ _
  clear hC
  refine region_calm C (by kernel_rfl) (by kernel_rfl) (cD _ cI) ?_
  clear cI
  refine wpQuiet_step (fun K hK => ?_)
  go_simp
  refine ⟨.agg #[.slice a1 m2 c1, .slice b1 n2 d1], fun v hv => ?_, hK _ ?_⟩
  · simp [q0 v hv, q1 v hv]
  clear hK K
  refine wpQuiet_step (fun K hK => ?_)
  go_simp
  refine ⟨.bool true, fun v hv => ?_, hK _ ?_⟩
  · exact calm_call cT hv (hR1 v (bl_trans HB.out (cB v hv)))
  clear hK K
  refine wpQuiet_step (fun K hK => ?_)
  go_simp
  refine ⟨.agg #[.slice a1 m2 c1, .slice b1 n2 d1], fun v hv => ?_, hK _ ?_⟩
  · simp [q0 v hv, q1 v hv]
  clear hK K
  refine wpQuiet_step (fun K hK => ?_)
  go_simp
  refine ⟨.bool true, fun v hv => ?_, hK _ ?_⟩
  · exact calm_call cT hv (hQ1 v (bl_trans HB.out (cB v hv)))
  clear hK K
  refine wpQuiet_step (fun K hK => ?_)
  go_simp
  refine ⟨_, fun v hv => rfl, hK _ ?_⟩
  clear hK K
  refine wpQuiet_nil ?_
  intro w4 C1
  have hb := cB _ C1
  clear C1 q0 q1 cB cT cD C
  have hu := hb
  replace HB : Hid _ := bl_trans HB.out hu
  replace HTa : Hid _ := HTa.out.below hu
  replace HTb : Hid _ := HTb.out.below hu
  replace HTt : Hid _ := HTt.out.below hu
  replace K10 := cell_below hu K10
  replace K11 := cell_below hu K11
  replace K20 := cell_below hu K20
  replace K21 := cell_below hu K21
  replace Kt0 := cell_below hu Kt0
  replace Kt1 := cell_below hu Kt1
  clear hu
  clear hb
  go_wp2_with fail
  refine (hQ1 _ HB.out).mono ?_
  rintro e w5 ⟨rfl, hb⟩
  have hu := hb
  replace HB : Hid _ := bl_trans HB.out hu
  replace HTa : Hid _ := HTa.out.below hu
  replace HTb : Hid _ := HTb.out.below hu
  replace HTt : Hid _ := HTt.out.below hu
  replace K10 := cell_below hu K10
  replace K11 := cell_below hu K11
  replace K20 := cell_below hu K20
  replace K21 := cell_below hu K21
  replace Kt0 := cell_below hu Kt0
  replace Kt1 := cell_below hu Kt1
  clear hu
  clear hb
  go_wp2_with fail
  refine (hQ2 _ HB.out).mono ?_
  rintro e w6 ⟨rfl, hb⟩
  have hu := hb
  replace HB : Hid _ := bl_trans HB.out hu
  replace HTa : Hid _ := HTa.out.below hu
  replace HTb : Hid _ := HTb.out.below hu
  replace HTt : Hid _ := HTt.out.below hu
  replace K10 := cell_below hu K10
  replace K11 := cell_below hu K11
  replace K20 := cell_below hu K20
  replace K21 := cell_below hu K21
  replace Kt0 := cell_below hu Kt0
  replace Kt1 := cell_below hu Kt1
  clear hu
  clear hb
  go_wp2_with fail
  refine (zsame c1 c2 HTa.out.tm.s HTb.out.tm.s HTa.out.hm (by omega)).mono ?_
  rintro e w7 ⟨rfl, hb⟩
  have hu := hb
  replace HB : Hid _ := bl_trans HB.out hu
  replace HTa : Hid _ := HTa.out.below hu
  replace HTb : Hid _ := HTb.out.below hu
  replace HTt : Hid _ := HTt.out.below hu
  replace K10 := cell_below hu K10
  replace K11 := cell_below hu K11
  replace K20 := cell_below hu K20
  replace K21 := cell_below hu K21
  replace Kt0 := cell_below hu Kt0
  replace Kt1 := cell_below hu Kt1
  clear hu
  clear hb
  go_wp2_with fail
  refine wp_region_any (by kernel_rfl) ?_
  refine wpAny_inv (fun L a v => ∃ s6 s78 s79 s80 s81 s82 s83 s84 s85 s86 s87 s88 s89 s90, a = ⟨#[Value.string sSub, Value.agg #[Value.slice a1 m2 c1, Value.slice b1 n2 d1], Value.agg #[Value.slice a2 m2 c2, Value.slice b2 n2 d2], undef, Value.pointer (some { block := w.heap.size, off := 0 }), Value.pointer (some { block := w.heap.size + 1, off := 0 }), s6, Value.pointer (some { block := w3.heap.size, off := 0 }), Value.int IntKind.i64 0, Value.agg #[Value.slice a1 m2 c1, Value.slice b1 n2 d1], Value.bool true, Value.bool false, Value.bool false, Value.agg #[Value.slice a2 m2 c2, Value.slice b2 n2 d2], Value.bool true, Value.bool false, Value.bool false, undef, Value.tuple #[Value.agg #[Value.slice a3' m2 c3', Value.slice b3' n2 d3'], Value.int IntKind.i64 0], Value.string sSub, Value.agg #[Value.slice a1 m2 c1, Value.slice b1 n2 d1], Value.agg #[Value.slice a2 m2 c2, Value.slice b2 n2 d2], Value.tuple #[Value.agg #[Value.slice a3' m2 c3', Value.slice b3' n2 d3'], Value.int IntKind.i64 0], Value.agg #[Value.slice a3' m2 c3', Value.slice b3' n2 d3'], Value.int IntKind.i64 0, Value.agg #[Value.slice a1 m2 c1, Value.slice b1 n2 d1], Value.bool true, Value.agg #[Value.slice a1 m2 c1, Value.slice b1 n2 d1], Value.bool true, Value.bool false, Value.string sSub, Value.bool true, Value.bool true, Value.string sSub, Value.bool false, Value.bool false, Value.bool false, undef, undef, Value.bool false, Value.bool false, Value.agg #[Value.slice a1 m2 c1, Value.slice b1 n2 d1], Value.bool true, Value.bool false, Value.bool false, Value.bool false, Value.agg #[Value.slice a2 m2 c2, Value.slice b2 n2 d2], Value.bool true, Value.bool false, Value.bool false, undef, undef, undef, undef, undef, undef, undef, undef, undef, undef, undef, Value.pointer (some { block := w.heap.size, off := 0 }), Value.slice a1 m2 c1, Value.pointer (some { block := w.heap.size + 1, off := 0 }), Value.slice a2 m2 c2, Value.bool true, Value.bool false, undef, undef, undef, undef, undef, undef, undef, undef, undef, undef, undef, s78, s79, s80, s81, s82, s83, s84, s85, s86, s87, s88, s89, s90], []⟩ ∧ Gv w7 (.agg #[.slice a3' m2 c3', .slice b3' n2 d3']) (.agg #[.slice a1 m2 c1, .slice b1 n2 d1]) (.agg #[.slice a2 m2 c2, .slice b2 n2 d2]) (.string sSub) (Nt zs m2 n2 (List.zipWith (· - ·) qs rs) 81) L v s6 s78 s79 s80 s81 s82 s83 s84 s85 s86 s87 s88 s89 s90) ?_ ?_ _ _ _ _ (by decide) ?_
  · intro L a v i hI hi
    obtain ⟨s6, s78, s79, s80, s81, s82, s83, s84, s85, s86, s87, s88, s89, s90, rfl, hP⟩ := hI
    obtain ⟨hu, o, ho, haf⟩ := mem_ready.1 hi
    have hlt : i < 14 := (Array.getElem?_eq_some_iff.1 ho).1
    have k0 := cell_below hP.bl K10
    have k1 := cell_below hP.bl K11
    have k2 := cell_below hP.bl K20
    have k3 := cell_below hP.bl K21
    have k4 := cell_below hP.bl Kt0
    have k5 := cell_below hP.bl Kt1
    rcases (by omega : i = 0 ∨ i = 1 ∨ i = 2 ∨ i = 3 ∨ i = 4 ∨ i = 5 ∨ i = 6 ∨ i = 7 ∨ i = 8 ∨ i = 9 ∨ i = 10 ∨ i = 11 ∨ i = 12 ∨ i = 13) with rfl | rfl | rfl | rfl | rfl | rfl | rfl | rfl | rfl | rfl | rfl | rfl | rfl | rfl
    all_goals (simp only [List.getElem?_toArray, List.getElem?_cons_zero, List.getElem?_cons_succ, Option.some.injEq] at ho; subst ho)
    · refine step_run rfl rfl ?_
      have hP2 := hP.t0
      go_simp
      exact ⟨_, _, _, _, _, _, _, _, _, _, _, _, _, _, ⟨rfl, rfl, rfl, rfl, rfl, rfl, rfl, rfl, rfl, rfl, rfl, rfl, rfl, rfl⟩, hP2⟩
    · refine step_run rfl rfl ?_
      have hP2 := hP.t1
      go_simp
      exact ⟨_, _, _, _, _, _, _, _, _, _, _, _, _, _, ⟨rfl, rfl, rfl, rfl, rfl, rfl, rfl, rfl, rfl, rfl, rfl, rfl, rfl, rfl⟩, hP2⟩
    · refine step_run rfl rfl ?_
      have hP2 := hP.t2
      go_simp
      exact ⟨_, _, _, _, _, _, _, _, _, _, _, _, _, _, ⟨rfl, rfl, rfl, rfl, rfl, rfl, rfl, rfl, rfl, rfl, rfl, rfl, rfl, rfl⟩, hP2⟩
    · refine step_run rfl rfl ?_
      have hP2 := hP.t3
      go_simp
      exact ⟨_, _, _, _, _, _, _, _, _, _, _, _, _, _, ⟨rfl, rfl, rfl, rfl, rfl, rfl, rfl, rfl, rfl, rfl, rfl, rfl, rfl, rfl⟩, hP2⟩
    · have g1 := hP.h1 (haf { on := 1, ground := .data } (by simp) rfl)
      have g2 := hP.h2 (haf { on := 2, ground := .data } (by simp) rfl)
      have g3 := hP.h3 (haf { on := 3, ground := .data } (by simp) rfl)
      subst g1 g2 g3
      refine step_run rfl rfl ?_
      unfold Oper.wp
      rw [run_three cf19 (.tmp 79) (.tmp 80) (.tmp 81) 9 25 25 rfl _ _ _ rfl rfl rfl]
      refine (rzip_sub a1 b1 a2 b2 c1 d1 c2 d2 m2 n2 0 0 zs qs rs v (HTa.out.below hP.bl) (HTb.out.below hP.bl)).mono ?_
      rintro e v2 ⟨a9, c9, b9, d9, rfl, hT9, hb⟩
      have hP2 := hP.t4 hb ⟨a9, c9, b9, d9, rfl, hT9⟩
      go_simp
      exact ⟨_, _, _, _, _, _, _, _, _, _, _, _, _, _, ⟨rfl, rfl, rfl, rfl, rfl, rfl, rfl, rfl, rfl, rfl, rfl, rfl, rfl, rfl⟩, hP2⟩
    · have g0 := hP.h0 (haf { on := 0, ground := .data } (by simp) rfl)
      have g4 := hP.h4 (haf { on := 4, ground := .data } (by simp) rfl)
      obtain ⟨a9, c9, b9, d9, g4, hT9⟩ := g4
      subst g0 g4
      refine step_run rfl rfl ?_
      unfold Oper.wp
      rw [run_two cf18 (.tmp 78) (.tmp 82) 25 25 rfl _ _ rfl rfl]
      refine (zeq c3' d3' c9 d9 (HTt.out.below hP.bl) hT9 rfl).mono ?_
      rintro e v2 ⟨rfl, hb⟩
      have hP2 := hP.t5 hb
      go_simp
      exact ⟨_, _, _, _, _, _, _, _, _, _, _, _, _, _, ⟨rfl, rfl, rfl, rfl, rfl, rfl, rfl, rfl, rfl, rfl, rfl, rfl, rfl, rfl⟩, hP2⟩
    · have g5 := hP.h5 (haf { on := 5, ground := .data } (by simp) rfl)
      subst g5
      refine step_run rfl rfl ?_
      have hP2 := hP.t6
      go_simp
      exact ⟨_, _, _, _, _, _, _, _, _, _, _, _, _, _, ⟨rfl, rfl, rfl, rfl, rfl, rfl, rfl, rfl, rfl, rfl, rfl, rfl, rfl, rfl⟩, hP2⟩
    · have g6 := hP.h6 (haf { on := 6, ground := .guard } (by simp) rfl)
      subst g6
      refine step_runw rfl (by first | rfl | go_simp) ?_
      have hP2 := hP.t7
      go_simp
      exact ⟨_, _, _, _, _, _, _, _, _, _, _, _, _, _, ⟨rfl, rfl, rfl, rfl, rfl, rfl, rfl, rfl, rfl, rfl, rfl, rfl, rfl, rfl⟩, hP2⟩
    · have g7 := hP.h7 (haf { on := 7, ground := .data } (by simp) rfl)
      have g6 := hP.h6 (haf { on := 6, ground := .guard } (by simp) rfl)
      subst g7 g6
      refine step_runw rfl (by first | rfl | go_simp) ?_
      have hP2 := hP.t8
      go_simp
      exact ⟨_, _, _, _, _, _, _, _, _, _, _, _, _, _, ⟨rfl, rfl, rfl, rfl, rfl, rfl, rfl, rfl, rfl, rfl, rfl, rfl, rfl, rfl⟩, hP2⟩
    · have g6 := hP.h6 (haf { on := 6, ground := .data } (by simp) rfl)
      have g8 := hP.h8 (haf { on := 8, ground := .data } (by simp) rfl)
      subst g6 g8
      refine step_run rfl rfl ?_
      have hP2 := hP.t9
      go_simp
      exact ⟨_, _, _, _, _, _, _, _, _, _, _, _, _, _, ⟨rfl, rfl, rfl, rfl, rfl, rfl, rfl, rfl, rfl, rfl, rfl, rfl, rfl, rfl⟩, hP2⟩
    · have g9 := hP.h9 (haf { on := 9, ground := .data } (by simp) rfl)
      subst g9
      refine step_run rfl rfl ?_
      have hP2 := hP.t10
      go_simp
      exact ⟨_, _, _, _, _, _, _, _, _, _, _, _, _, _, ⟨rfl, rfl, rfl, rfl, rfl, rfl, rfl, rfl, rfl, rfl, rfl, rfl, rfl, rfl⟩, hP2⟩
    · have g10 := hP.h10 (haf { on := 10, ground := .guard } (by simp) rfl)
      subst g10
      refine step_runw rfl (by first | rfl | go_simp) ?_
      unfold Oper.wp
      rw [run_none cf13 rfl]
      refine (awake_any aF aZ _ (HE.out.below (bl_trans HB.out hP.bl))).mono ?_
      rintro e v2 ⟨rfl, hb⟩
      have hP2 := hP.t11 hb
      go_simp
      exact ⟨_, _, _, _, _, _, _, _, _, _, _, _, _, _, ⟨rfl, rfl, rfl, rfl, rfl, rfl, rfl, rfl, rfl, rfl, rfl, rfl, rfl, rfl⟩, hP2⟩
    · have g10 := hP.h10 (haf { on := 10, ground := .data } (by simp) rfl)
      have g11 := hP.h11 (haf { on := 11, ground := .data } (by simp) rfl)
      subst g10 g11
      refine step_run rfl rfl ?_
      have hP2 := hP.t12
      go_simp
      exact ⟨_, _, _, _, _, _, _, _, _, _, _, _, _, _, ⟨rfl, rfl, rfl, rfl, rfl, rfl, rfl, rfl, rfl, rfl, rfl, rfl, rfl, rfl⟩, hP2⟩
    · have g12 := hP.h12 (haf { on := 12, ground := .data } (by simp) rfl)
      subst g12
      refine step_run rfl rfl ?_
      have hP2 := hP.t13
      go_simp
      exact ⟨_, _, _, _, _, _, _, _, _, _, _, _, _, _, ⟨rfl, rfl, rfl, rfl, rfl, rfl, rfl, rfl, rfl, rfl, rfl, rfl, rfl, rfl⟩, hP2⟩
  · intro L a v hI hr
    obtain ⟨s6, s78, s79, s80, s81, s82, s83, s84, s85, s86, s87, s88, s89, s90, rfl, hP⟩ := hI
    have hno := List.eq_nil_iff_forall_not_mem.1 hr
    have g0 : on L 0 := Decidable.byContradiction fun hc => hno 0 (mem_ready.2 ⟨off (by rw [hP.sz]; decide) hc, _, rfl, fun e he => by simp at he⟩)
    have g1 : on L 1 := Decidable.byContradiction fun hc => hno 1 (mem_ready.2 ⟨off (by rw [hP.sz]; decide) hc, _, rfl, fun e he => by simp at he⟩)
    have g2 : on L 2 := Decidable.byContradiction fun hc => hno 2 (mem_ready.2 ⟨off (by rw [hP.sz]; decide) hc, _, rfl, fun e he => by simp at he⟩)
    have g3 : on L 3 := Decidable.byContradiction fun hc => hno 3 (mem_ready.2 ⟨off (by rw [hP.sz]; decide) hc, _, rfl, fun e he => by simp at he⟩)
    have g4 : on L 4 := by
      refine Decidable.byContradiction fun hc => hno 4 (mem_ready.2 ⟨off (by rw [hP.sz]; decide) hc, _, rfl, ?_⟩)
      intro e he hb
      simp at he
      rcases he with rfl | rfl | rfl
      all_goals first | assumption | exact absurd hb (by decide)
    have g5 : on L 5 := by
      refine Decidable.byContradiction fun hc => hno 5 (mem_ready.2 ⟨off (by rw [hP.sz]; decide) hc, _, rfl, ?_⟩)
      intro e he hb
      simp at he
      rcases he with rfl | rfl | rfl
      all_goals first | assumption | exact absurd hb (by decide)
    have g6 : on L 6 := by
      refine Decidable.byContradiction fun hc => hno 6 (mem_ready.2 ⟨off (by rw [hP.sz]; decide) hc, _, rfl, ?_⟩)
      intro e he hb
      simp at he
      rcases he with rfl | rfl
      all_goals first | assumption | exact absurd hb (by decide)
    have g7 : on L 7 := by
      refine Decidable.byContradiction fun hc => hno 7 (mem_ready.2 ⟨off (by rw [hP.sz]; decide) hc, _, rfl, ?_⟩)
      intro e he hb
      simp at he
      subst he
      all_goals first | assumption | exact absurd hb (by decide)
    have g8 : on L 8 := by
      refine Decidable.byContradiction fun hc => hno 8 (mem_ready.2 ⟨off (by rw [hP.sz]; decide) hc, _, rfl, ?_⟩)
      intro e he hb
      simp at he
      rcases he with rfl | rfl
      all_goals first | assumption | exact absurd hb (by decide)
    have g9 : on L 9 := by
      refine Decidable.byContradiction fun hc => hno 9 (mem_ready.2 ⟨off (by rw [hP.sz]; decide) hc, _, rfl, ?_⟩)
      intro e he hb
      simp at he
      rcases he with rfl | rfl
      all_goals first | assumption | exact absurd hb (by decide)
    have g10 : on L 10 := by
      refine Decidable.byContradiction fun hc => hno 10 (mem_ready.2 ⟨off (by rw [hP.sz]; decide) hc, _, rfl, ?_⟩)
      intro e he hb
      simp at he
      rcases he with rfl | rfl
      all_goals first | assumption | exact absurd hb (by decide)
    have g11 : on L 11 := by
      refine Decidable.byContradiction fun hc => hno 11 (mem_ready.2 ⟨off (by rw [hP.sz]; decide) hc, _, rfl, ?_⟩)
      intro e he hb
      simp at he
      rcases he with rfl | rfl
      all_goals first | assumption | exact absurd hb (by decide)
    have g12 : on L 12 := by
      refine Decidable.byContradiction fun hc => hno 12 (mem_ready.2 ⟨off (by rw [hP.sz]; decide) hc, _, rfl, ?_⟩)
      intro e he hb
      simp at he
      rcases he with rfl | rfl
      all_goals first | assumption | exact absurd hb (by decide)
    have g13 : on L 13 := by
      refine Decidable.byContradiction fun hc => hno 13 (mem_ready.2 ⟨off (by rw [hP.sz]; decide) hc, _, rfl, ?_⟩)
      intro e he hb
      simp at he
      rcases he with rfl | rfl | rfl | rfl | rfl | rfl | rfl | rfl | rfl | rfl | rfl | rfl | rfl | rfl | rfl
      all_goals first | assumption | exact absurd hb (by decide)
    have e0 := hP.h0 g0
    have e1 := hP.h1 g1
    have e2 := hP.h2 g2
    have e3 := hP.h3 g3
    have e5 := hP.h5 g5
    have e6 := hP.h6 g6
    have e7 := hP.h7 g7
    have e8 := hP.h8 g8
    have e9 := hP.h9 g9
    have e10 := hP.h10 g10
    have e11 := hP.h11 g11
    have e12 := hP.h12 g12
    have e13 := hP.h13 g13
    have HBL : Hid (Below w.heap.size w v) := bl_trans HB.out hP.bl
    clear hP g0 g1 g2 g3 g4 g5 g6 g7 g8 g9 g10 g11 g12 g13 hr hno
    subst e0 e1 e2 e3 e5 e6 e7 e8 e9 e10 e11 e12 e13
    clear K10 K11 K20 K21 Kt0 Kt1
    go_wp2
    go_ret
    exact ⟨rfl, HBL.out⟩
  · exact ⟨_, _, _, _, _, _, _, _, _, _, _, _, _, _, rfl, ⟨by simp, bl_drew (Below.refl _ _), fun v u x hb ⟨a9, c9, b9, d9, e, hT⟩ => ⟨a9, c9, b9, d9, e, hT.below hb⟩, fun g => absurd g (by simp [on]), fun g => absurd g (by simp [on]), fun g => absurd g (by simp [on]), fun g => absurd g (by simp [on]), fun g => absurd g (by simp [on]), fun g => absurd g (by simp [on]), fun g => absurd g (by simp [on]), fun g => absurd g (by simp [on]), fun g => absurd g (by simp [on]), fun g => absurd g (by simp [on]), fun g => absurd g (by simp [on]), fun g => absurd g (by simp [on]), fun g => absurd g (by simp [on]), fun g => absurd g (by simp [on])⟩⟩

set_option maxHeartbeats 4000000 in
theorem zips_a_sMul (a1 b1 a2 b2 : Option Addr) (c1 d1 m1 n1 c2 d2 m2 n2 : Nat) (aF aZ : Addr) (w : World) (hE : Er w aF aZ)
    (hS1 : ∀ v, Below w.heap.size w v → Calls Tryz.prog 12 #[.agg #[.slice a1 m1 c1, .slice b1 n1 d1]] v fun e w' => e = .returned (.bool true) ∧ Below v.heap.size v w')
    (hS2 : ∀ v, Below w.heap.size w v → Calls Tryz.prog 12 #[.agg #[.slice a2 m2 c2, .slice b2 n2 d2]] v fun e w' => e = .returned (.bool true) ∧ Below v.heap.size v w')
    (hZ : ∀ v, Below w.heap.size w v → Calls Tryz.prog 14 #[.string sMul, .agg #[.slice a1 m1 c1, .slice b1 n1 d1], .agg #[.slice a2 m2 c2, .slice b2 n2 d2]] v fun e w' => e = .returned (noTensor 1) ∧ Below v.heap.size v w')
    (hR1 : ∀ v, Below w.heap.size w v → Calls Tryz.prog 15 #[.agg #[.slice a1 m1 c1, .slice b1 n1 d1]] v fun e w' => e = .returned (.bool false) ∧ Below v.heap.size v w')
    (hQ1 : ∀ v, Below w.heap.size w v → Calls Tryz.prog 16 #[.agg #[.slice a1 m1 c1, .slice b1 n1 d1]] v fun e w' => e = .returned (.bool false) ∧ Below v.heap.size v w') :
    Calls Tryz.prog 3 #[.string sMul, .agg #[.slice a1 m1 c1, .slice b1 n1 d1], .agg #[.slice a2 m2 c2, .slice b2 n2 d2]] w fun e w' => e = .returned (.bool true) ∧ Below w.heap.size w w' := by
  have HE : Hid _ := hE
  clear hE
  have HB : Hid (Below w.heap.size w w) := Below.refl _ _
  have hu := bl_alloc (Below.refl w.heap.size w) (.cells #[.slice a1 m1 c1, .slice b1 n1 d1] 25)
  replace HB : Hid _ := bl_trans HB.out hu
  clear hu
  have K10 : (w.alloc (.cells #[.slice a1 m1 c1, .slice b1 n1 d1] 25)).cell? ⟨w.heap.size, 0, none⟩ = some (.slice a1 m1 c1) := by first | rw [World.cell?_alloc_at _ _ _ _ (by simp)]; rfl | simp
  have K11 : (w.alloc (.cells #[.slice a1 m1 c1, .slice b1 n1 d1] 25)).cell? ⟨w.heap.size, 1, none⟩ = some (.slice b1 n1 d1) := by first | rw [World.cell?_alloc_at _ _ _ _ (by simp)]; rfl | simp
  have hu := bl_alloc (Below.refl (w.alloc (.cells #[.slice a1 m1 c1, .slice b1 n1 d1] 25)).heap.size (w.alloc (.cells #[.slice a1 m1 c1, .slice b1 n1 d1] 25))) (.cells #[.slice a2 m2 c2, .slice b2 n2 d2] 25)
  replace HB : Hid _ := bl_trans HB.out hu
  replace K10 := cell_below hu K10
  replace K11 := cell_below hu K11
  clear hu
  have K20 : ((w.alloc (.cells #[.slice a1 m1 c1, .slice b1 n1 d1] 25)).alloc (.cells #[.slice a2 m2 c2, .slice b2 n2 d2] 25)).cell? ⟨w.heap.size + 1, 0, none⟩ = some (.slice a2 m2 c2) := by first | rw [World.cell?_alloc_at _ _ _ _ (by simp)]; rfl | simp
  have K21 : ((w.alloc (.cells #[.slice a1 m1 c1, .slice b1 n1 d1] 25)).alloc (.cells #[.slice a2 m2 c2, .slice b2 n2 d2] 25)).cell? ⟨w.heap.size + 1, 1, none⟩ = some (.slice b2 n2 d2) := by first | rw [World.cell?_alloc_at _ _ _ _ (by simp)]; rfl | simp
  go_enter Tryz.func3, Tryz.ntmps3
  go_wp2_with fail
  refine (hS1 _ HB.out).mono ?_
  rintro e w1 ⟨rfl, hb⟩
  have hu := hb
  replace HB : Hid _ := bl_trans HB.out hu
  replace K10 := cell_below hu K10
  replace K11 := cell_below hu K11
  replace K20 := cell_below hu K20
  replace K21 := cell_below hu K21
  clear hu
  clear hb
  go_wp2_with fail
  refine (hS2 _ HB.out).mono ?_
  rintro e w2 ⟨rfl, hb⟩
  have hu := hb
  replace HB : Hid _ := bl_trans HB.out hu
  replace K10 := cell_below hu K10
  replace K11 := cell_below hu K11
  replace K20 := cell_below hu K20
  replace K21 := cell_below hu K21
  clear hu
  clear hb
  go_wp2_with fail
  refine (hZ _ HB.out).mono ?_
  rintro e w3 ⟨rfl, hb⟩
  have hu := bl_alloc hb (.cells #[.slice none 0 0, .slice none 0 0] 25)
  replace HB : Hid _ := bl_trans HB.out hu
  replace K10 := cell_below hu K10
  replace K11 := cell_below hu K11
  replace K20 := cell_below hu K20
  replace K21 := cell_below hu K21
  clear hu
  have Kt0 : (w3.alloc (.cells #[.slice none 0 0, .slice none 0 0] 25)).cell? ⟨w3.heap.size, 0, none⟩ = some (.slice none 0 0) := by simp
  have Kt1 : (w3.alloc (.cells #[.slice none 0 0, .slice none 0 0] 25)).cell? ⟨w3.heap.size, 1, none⟩ = some (.slice none 0 0) := by simp
  clear hb
  go_wp2_with fail
  obtain ⟨C, hC⟩ : ∃ C : World → Prop, C = fun v => Below (w3.alloc (.cells #[.slice none 0 0, .slice none 0 0] 25)).heap.size (w3.alloc (.cells #[.slice none 0 0, .slice none 0 0] 25)) v := ⟨_, rfl⟩
  have q0 : ∀ v, C v → v.cell? ⟨w.heap.size, 0, none⟩ = some (.slice a1 m1 c1) := fun v h => by subst hC; exact cell_below h K10
  have q1 : ∀ v, C v → v.cell? ⟨w.heap.size, 1, none⟩ = some (.slice b1 n1 d1) := fun v h => by subst hC; exact cell_below h K11
  have cB : ∀ v, C v → Below (w3.alloc (.cells #[.slice none 0 0, .slice none 0 0] 25)).heap.size (w3.alloc (.cells #[.slice none 0 0, .slice none 0 0] 25)) v := fun v h => by subst hC; exact h
  have cT : ∀ u v, C u → Below u.heap.size u v → C v := fun u v h k => by subst hC; exact bl_trans h k
  have cD : ∀ v, C v → C v.drew := fun v h => by subst hC; exact h.drew
  have cI : C (w3.alloc (.cells #[.slice none 0 0, .slice none 0 0] 25)) := by subst hC; exact Below.refl _ _
  clear hC
  refine region_calm C (by kernel_rfl) (by kernel_rfl) (cD _ cI) ?_
  clear cI
  refine wpQuiet_step (fun K hK => ?_)
  go_simp
  refine ⟨.agg #[.slice a1 m1 c1, .slice b1 n1 d1], fun v hv => ?_, hK _ ?_⟩
  · simp [q0 v hv, q1 v hv]
  clear hK K
  refine wpQuiet_step (fun K hK => ?_)
  go_simp
  refine ⟨.bool false, fun v hv => ?_, hK _ ?_⟩
  · exact calm_call cT hv (hR1 v (bl_trans HB.out (cB v hv)))
  clear hK K
  refine wpQuiet_step (fun K hK => ?_)
  go_simp
  refine ⟨.agg #[.slice a1 m1 c1, .slice b1 n1 d1], fun v hv => ?_, hK _ ?_⟩
  · simp [q0 v hv, q1 v hv]
  clear hK K
  refine wpQuiet_step (fun K hK => ?_)
  go_simp
  refine ⟨.bool false, fun v hv => ?_, hK _ ?_⟩
  · exact calm_call cT hv (hQ1 v (bl_trans HB.out (cB v hv)))
  clear hK K
  refine wpQuiet_step (fun K hK => ?_)
  go_simp
  refine ⟨_, fun v hv => rfl, hK _ ?_⟩
  clear hK K
  refine wpQuiet_nil ?_
  intro w4 C1
  have hb := cB _ C1
  clear C1 q0 q1 cB cT cD C
  have hu := hb
  replace HB : Hid _ := bl_trans HB.out hu
  replace K10 := cell_below hu K10
  replace K11 := cell_below hu K11
  replace K20 := cell_below hu K20
  replace K21 := cell_below hu K21
  replace Kt0 := cell_below hu Kt0
  replace Kt1 := cell_below hu Kt1
  clear hu
  clear hb
  go_wp2_with fail
  refine (hQ1 _ HB.out).mono ?_
  rintro e w5 ⟨rfl, hb⟩
  have hu := hb
  replace HB : Hid _ := bl_trans HB.out hu
  replace K10 := cell_below hu K10
  replace K11 := cell_below hu K11
  replace K20 := cell_below hu K20
  replace K21 := cell_below hu K21
  replace Kt0 := cell_below hu Kt0
  replace Kt1 := cell_below hu Kt1
  clear hu
  clear hb
  go_wp2_with fail
  refine (awake_any aF aZ _ (HE.out.below HB.out)).mono ?_
  rintro e w6 ⟨rfl, hb⟩
  have hu := hb
  replace HB : Hid _ := bl_trans HB.out hu
  replace K10 := cell_below hu K10
  replace K11 := cell_below hu K11
  replace K20 := cell_below hu K20
  replace K21 := cell_below hu K21
  replace Kt0 := cell_below hu Kt0
  replace Kt1 := cell_below hu Kt1
  clear hu
  clear hb
  go_wp2
  go_ret
  exact ⟨rfl, HB.out⟩

set_option maxHeartbeats 4000000 in
theorem zips_b_sMul (a1 b1 a2 b2 : Option Addr) (c1 d1 m1 n1 c2 d2 m2 n2 : Nat) (aF aZ : Addr) (w : World) (hE : Er w aF aZ)
    (hS1 : ∀ v, Below w.heap.size w v → Calls Tryz.prog 12 #[.agg #[.slice a1 m1 c1, .slice b1 n1 d1]] v fun e w' => e = .returned (.bool true) ∧ Below v.heap.size v w')
    (hS2 : ∀ v, Below w.heap.size w v → Calls Tryz.prog 12 #[.agg #[.slice a2 m2 c2, .slice b2 n2 d2]] v fun e w' => e = .returned (.bool true) ∧ Below v.heap.size v w')
    (hZ : ∀ v, Below w.heap.size w v → Calls Tryz.prog 14 #[.string sMul, .agg #[.slice a1 m1 c1, .slice b1 n1 d1], .agg #[.slice a2 m2 c2, .slice b2 n2 d2]] v fun e w' => e = .returned (noTensor 1) ∧ Below v.heap.size v w')
    (hR1 : ∀ v, Below w.heap.size w v → Calls Tryz.prog 15 #[.agg #[.slice a1 m1 c1, .slice b1 n1 d1]] v fun e w' => e = .returned (.bool true) ∧ Below v.heap.size v w')
    (hQ1 : ∀ v, Below w.heap.size w v → Calls Tryz.prog 16 #[.agg #[.slice a1 m1 c1, .slice b1 n1 d1]] v fun e w' => e = .returned (.bool true) ∧ Below v.heap.size v w')
    (hQ2 : ∀ v, Below w.heap.size w v → Calls Tryz.prog 16 #[.agg #[.slice a2 m2 c2, .slice b2 n2 d2]] v fun e w' => e = .returned (.bool false) ∧ Below v.heap.size v w') :
    Calls Tryz.prog 3 #[.string sMul, .agg #[.slice a1 m1 c1, .slice b1 n1 d1], .agg #[.slice a2 m2 c2, .slice b2 n2 d2]] w fun e w' => e = .returned (.bool true) ∧ Below w.heap.size w w' := by
  have HE : Hid _ := hE
  clear hE
  have HB : Hid (Below w.heap.size w w) := Below.refl _ _
  have hu := bl_alloc (Below.refl w.heap.size w) (.cells #[.slice a1 m1 c1, .slice b1 n1 d1] 25)
  replace HB : Hid _ := bl_trans HB.out hu
  clear hu
  have K10 : (w.alloc (.cells #[.slice a1 m1 c1, .slice b1 n1 d1] 25)).cell? ⟨w.heap.size, 0, none⟩ = some (.slice a1 m1 c1) := by first | rw [World.cell?_alloc_at _ _ _ _ (by simp)]; rfl | simp
  have K11 : (w.alloc (.cells #[.slice a1 m1 c1, .slice b1 n1 d1] 25)).cell? ⟨w.heap.size, 1, none⟩ = some (.slice b1 n1 d1) := by first | rw [World.cell?_alloc_at _ _ _ _ (by simp)]; rfl | simp
  have hu := bl_alloc (Below.refl (w.alloc (.cells #[.slice a1 m1 c1, .slice b1 n1 d1] 25)).heap.size (w.alloc (.cells #[.slice a1 m1 c1, .slice b1 n1 d1] 25))) (.cells #[.slice a2 m2 c2, .slice b2 n2 d2] 25)
  replace HB : Hid _ := bl_trans HB.out hu
  replace K10 := cell_below hu K10
  replace K11 := cell_below hu K11
  clear hu
  have K20 : ((w.alloc (.cells #[.slice a1 m1 c1, .slice b1 n1 d1] 25)).alloc (.cells #[.slice a2 m2 c2, .slice b2 n2 d2] 25)).cell? ⟨w.heap.size + 1, 0, none⟩ = some (.slice a2 m2 c2) := by first | rw [World.cell?_alloc_at _ _ _ _ (by simp)]; rfl | simp
  have K21 : ((w.alloc (.cells #[.slice a1 m1 c1, .slice b1 n1 d1] 25)).alloc (.cells #[.slice a2 m2 c2, .slice b2 n2 d2] 25)).cell? ⟨w.heap.size + 1, 1, none⟩ = some (.slice b2 n2 d2) := by first | rw [World.cell?_alloc_at _ _ _ _ (by simp)]; rfl | simp
  go_enter Tryz.func3, Tryz.ntmps3
  go_wp2_with fail
  refine (hS1 _ HB.out).mono ?_
  rintro e w1 ⟨rfl, hb⟩
  have hu := hb
  replace HB : Hid _ := bl_trans HB.out hu
  replace K10 := cell_below hu K10
  replace K11 := cell_below hu K11
  replace K20 := cell_below hu K20
  replace K21 := cell_below hu K21
  clear hu
  clear hb
  go_wp2_with fail
  refine (hS2 _ HB.out).mono ?_
  rintro e w2 ⟨rfl, hb⟩
  have hu := hb
  replace HB : Hid _ := bl_trans HB.out hu
  replace K10 := cell_below hu K10
  replace K11 := cell_below hu K11
  replace K20 := cell_below hu K20
  replace K21 := cell_below hu K21
  clear hu
  clear hb
  go_wp2_with fail
  refine (hZ _ HB.out).mono ?_
  rintro e w3 ⟨rfl, hb⟩
  have hu := bl_alloc hb (.cells #[.slice none 0 0, .slice none 0 0] 25)
  replace HB : Hid _ := bl_trans HB.out hu
  replace K10 := cell_below hu K10
  replace K11 := cell_below hu K11
  replace K20 := cell_below hu K20
  replace K21 := cell_below hu K21
  clear hu
  have Kt0 : (w3.alloc (.cells #[.slice none 0 0, .slice none 0 0] 25)).cell? ⟨w3.heap.size, 0, none⟩ = some (.slice none 0 0) := by simp
  have Kt1 : (w3.alloc (.cells #[.slice none 0 0, .slice none 0 0] 25)).cell? ⟨w3.heap.size, 1, none⟩ = some (.slice none 0 0) := by simp
  clear hb
  go_wp2_with fail
  obtain ⟨C, hC⟩ : ∃ C : World → Prop, C = fun v => Below (w3.alloc (.cells #[.slice none 0 0, .slice none 0 0] 25)).heap.size (w3.alloc (.cells #[.slice none 0 0, .slice none 0 0] 25)) v := ⟨_, rfl⟩
  have q0 : ∀ v, C v → v.cell? ⟨w.heap.size, 0, none⟩ = some (.slice a1 m1 c1) := fun v h => by subst hC; exact cell_below h K10
  have q1 : ∀ v, C v → v.cell? ⟨w.heap.size, 1, none⟩ = some (.slice b1 n1 d1) := fun v h => by subst hC; exact cell_below h K11
  have cB : ∀ v, C v → Below (w3.alloc (.cells #[.slice none 0 0, .slice none 0 0] 25)).heap.size (w3.alloc (.cells #[.slice none 0 0, .slice none 0 0] 25)) v := fun v h => by subst hC; exact h
  have cT : ∀ u v, C u → Below u.heap.size u v → C v := fun u v h k => by subst hC; exact bl_trans h k
  have cD : ∀ v, C v → C v.drew := fun v h => by subst hC; exact h.drew
  have cI : C (w3.alloc (.cells #[.slice none 0 0, .slice none 0 0] 25)) := by subst hC; exact Below.refl _ _
  clear hC
  refine region_calm C (by kernel_rfl) (by kernel_rfl) (cD _ cI) ?_
  clear cI
  refine wpQuiet_step (fun K hK => ?_)
  go_simp
  refine ⟨.agg #[.slice a1 m1 c1, .slice b1 n1 d1], fun v hv => ?_, hK _ ?_⟩
  · simp [q0 v hv, q1 v hv]
  clear hK K
  refine wpQuiet_step (fun K hK => ?_)
  go_simp
  refine ⟨.bool true, fun v hv => ?_, hK _ ?_⟩
  · exact calm_call cT hv (hR1 v (bl_trans HB.out (cB v hv)))
  clear hK K
  refine wpQuiet_step (fun K hK => ?_)
  go_simp
  refine ⟨.agg #[.slice a1 m1 c1, .slice b1 n1 d1], fun v hv => ?_, hK _ ?_⟩
  · simp [q0 v hv, q1 v hv]
  clear hK K
  refine wpQuiet_step (fun K hK => ?_)
  go_simp
  refine ⟨.bool true, fun v hv => ?_, hK _ ?_⟩
  · exact calm_call cT hv (hQ1 v (bl_trans HB.out (cB v hv)))
  clear hK K
  refine wpQuiet_step (fun K hK => ?_)
  go_simp
  refine ⟨_, fun v hv => rfl, hK _ ?_⟩
  clear hK K
  refine wpQuiet_nil ?_
  intro w4 C1
  have hb := cB _ C1
  clear C1 q0 q1 cB cT cD C
  have hu := hb
  replace HB : Hid _ := bl_trans HB.out hu
  replace K10 := cell_below hu K10
  replace K11 := cell_below hu K11
  replace K20 := cell_below hu K20
  replace K21 := cell_below hu K21
  replace Kt0 := cell_below hu Kt0
  replace Kt1 := cell_below hu Kt1
  clear hu
  clear hb
  go_wp2_with fail
  refine (hQ1 _ HB.out).mono ?_
  rintro e w5 ⟨rfl, hb⟩
  have hu := hb
  replace HB : Hid _ := bl_trans HB.out hu
  replace K10 := cell_below hu K10
  replace K11 := cell_below hu K11
  replace K20 := cell_below hu K20
  replace K21 := cell_below hu K21
  replace Kt0 := cell_below hu Kt0
  replace Kt1 := cell_below hu Kt1
  clear hu
  clear hb
  go_wp2_with fail
  refine (hQ2 _ HB.out).mono ?_
  rintro e w6 ⟨rfl, hb⟩
  have hu := hb
  replace HB : Hid _ := bl_trans HB.out hu
  replace K10 := cell_below hu K10
  replace K11 := cell_below hu K11
  replace K20 := cell_below hu K20
  replace K21 := cell_below hu K21
  replace Kt0 := cell_below hu Kt0
  replace Kt1 := cell_below hu Kt1
  clear hu
  clear hb
  go_wp2_with fail
  refine (awake_any aF aZ _ (HE.out.below HB.out)).mono ?_
  rintro e w7 ⟨rfl, hb⟩
  have hu := hb
  replace HB : Hid _ := bl_trans HB.out hu
  replace K10 := cell_below hu K10
  replace K11 := cell_below hu K11
  replace K20 := cell_below hu K20
  replace K21 := cell_below hu K21
  replace Kt0 := cell_below hu Kt0
  replace Kt1 := cell_below hu Kt1
  clear hu
  clear hb
  go_wp2
  go_ret
  exact ⟨rfl, HB.out⟩

set_option maxHeartbeats 4000000 in
theorem zips_s_sMul (a1 b1 a2 b2 : Option Addr) (c1 d1 m1 n1 c2 d2 m2 n2 : Nat) (aF aZ : Addr) (w : World) (hE : Er w aF aZ)
    (hS1 : ∀ v, Below w.heap.size w v → Calls Tryz.prog 12 #[.agg #[.slice a1 m1 c1, .slice b1 n1 d1]] v fun e w' => e = .returned (.bool true) ∧ Below v.heap.size v w')
    (hS2 : ∀ v, Below w.heap.size w v → Calls Tryz.prog 12 #[.agg #[.slice a2 m2 c2, .slice b2 n2 d2]] v fun e w' => e = .returned (.bool true) ∧ Below v.heap.size v w')
    (hZ : ∀ v, Below w.heap.size w v → Calls Tryz.prog 14 #[.string sMul, .agg #[.slice a1 m1 c1, .slice b1 n1 d1], .agg #[.slice a2 m2 c2, .slice b2 n2 d2]] v fun e w' => e = .returned (noTensor 4) ∧ Below v.heap.size v w')
    (hR1 : ∀ v, Below w.heap.size w v → Calls Tryz.prog 15 #[.agg #[.slice a1 m1 c1, .slice b1 n1 d1]] v fun e w' => e = .returned (.bool true) ∧ Below v.heap.size v w')
    (hQ1 : ∀ v, Below w.heap.size w v → Calls Tryz.prog 16 #[.agg #[.slice a1 m1 c1, .slice b1 n1 d1]] v fun e w' => e = .returned (.bool true) ∧ Below v.heap.size v w')
    (hQ2 : ∀ v, Below w.heap.size w v → Calls Tryz.prog 16 #[.agg #[.slice a2 m2 c2, .slice b2 n2 d2]] v fun e w' => e = .returned (.bool true) ∧ Below v.heap.size v w')
    (hV : ∀ v, Below w.heap.size w v → Calls Tryz.prog 17 #[.slice a1 m1 c1, .slice a2 m2 c2] v fun e w' => e = .returned (.bool false) ∧ Below v.heap.size v w') :
    Calls Tryz.prog 3 #[.string sMul, .agg #[.slice a1 m1 c1, .slice b1 n1 d1], .agg #[.slice a2 m2 c2, .slice b2 n2 d2]] w fun e w' => e = .returned (.bool true) ∧ Below w.heap.size w w' := by
  have HE : Hid _ := hE
  clear hE
  have HB : Hid (Below w.heap.size w w) := Below.refl _ _
  have hu := bl_alloc (Below.refl w.heap.size w) (.cells #[.slice a1 m1 c1, .slice b1 n1 d1] 25)
  replace HB : Hid _ := bl_trans HB.out hu
  clear hu
  have K10 : (w.alloc (.cells #[.slice a1 m1 c1, .slice b1 n1 d1] 25)).cell? ⟨w.heap.size, 0, none⟩ = some (.slice a1 m1 c1) := by first | rw [World.cell?_alloc_at _ _ _ _ (by simp)]; rfl | simp
  have K11 : (w.alloc (.cells #[.slice a1 m1 c1, .slice b1 n1 d1] 25)).cell? ⟨w.heap.size, 1, none⟩ = some (.slice b1 n1 d1) := by first | rw [World.cell?_alloc_at _ _ _ _ (by simp)]; rfl | simp
  have hu := bl_alloc (Below.refl (w.alloc (.cells #[.slice a1 m1 c1, .slice b1 n1 d1] 25)).heap.size (w.alloc (.cells #[.slice a1 m1 c1, .slice b1 n1 d1] 25))) (.cells #[.slice a2 m2 c2, .slice b2 n2 d2] 25)
  replace HB : Hid _ := bl_trans HB.out hu
  replace K10 := cell_below hu K10
  replace K11 := cell_below hu K11
  clear hu
  have K20 : ((w.alloc (.cells #[.slice a1 m1 c1, .slice b1 n1 d1] 25)).alloc (.cells #[.slice a2 m2 c2, .slice b2 n2 d2] 25)).cell? ⟨w.heap.size + 1, 0, none⟩ = some (.slice a2 m2 c2) := by first | rw [World.cell?_alloc_at _ _ _ _ (by simp)]; rfl | simp
  have K21 : ((w.alloc (.cells #[.slice a1 m1 c1, .slice b1 n1 d1] 25)).alloc (.cells #[.slice a2 m2 c2, .slice b2 n2 d2] 25)).cell? ⟨w.heap.size + 1, 1, none⟩ = some (.slice b2 n2 d2) := by first | rw [World.cell?_alloc_at _ _ _ _ (by simp)]; rfl | simp
  go_enter Tryz.func3, Tryz.ntmps3
  go_wp2_with fail
  refine (hS1 _ HB.out).mono ?_
  rintro e w1 ⟨rfl, hb⟩
  have hu := hb
  replace HB : Hid _ := bl_trans HB.out hu
  replace K10 := cell_below hu K10
  replace K11 := cell_below hu K11
  replace K20 := cell_below hu K20
  replace K21 := cell_below hu K21
  clear hu
  clear hb
  go_wp2_with fail
  refine (hS2 _ HB.out).mono ?_
  rintro e w2 ⟨rfl, hb⟩
  have hu := hb
  replace HB : Hid _ := bl_trans HB.out hu
  replace K10 := cell_below hu K10
  replace K11 := cell_below hu K11
  replace K20 := cell_below hu K20
  replace K21 := cell_below hu K21
  clear hu
  clear hb
  go_wp2_with fail
  refine (hZ _ HB.out).mono ?_
  rintro e w3 ⟨rfl, hb⟩
  have hu := bl_alloc hb (.cells #[.slice none 0 0, .slice none 0 0] 25)
  replace HB : Hid _ := bl_trans HB.out hu
  replace K10 := cell_below hu K10
  replace K11 := cell_below hu K11
  replace K20 := cell_below hu K20
  replace K21 := cell_below hu K21
  clear hu
  have Kt0 : (w3.alloc (.cells #[.slice none 0 0, .slice none 0 0] 25)).cell? ⟨w3.heap.size, 0, none⟩ = some (.slice none 0 0) := by simp
  have Kt1 : (w3.alloc (.cells #[.slice none 0 0, .slice none 0 0] 25)).cell? ⟨w3.heap.size, 1, none⟩ = some (.slice none 0 0) := by simp
  clear hb
  go_wp2_with fail
  obtain ⟨C, hC⟩ : ∃ C : World → Prop, C = fun v => Below (w3.alloc (.cells #[.slice none 0 0, .slice none 0 0] 25)).heap.size (w3.alloc (.cells #[.slice none 0 0, .slice none 0 0] 25)) v := ⟨_, rfl⟩
  have q0 : ∀ v, C v → v.cell? ⟨w.heap.size, 0, none⟩ = some (.slice a1 m1 c1) := fun v h => by subst hC; exact cell_below h K10
  have q1 : ∀ v, C v → v.cell? ⟨w.heap.size, 1, none⟩ = some (.slice b1 n1 d1) := fun v h => by subst hC; exact cell_below h K11
  have cB : ∀ v, C v → Below (w3.alloc (.cells #[.slice none 0 0, .slice none 0 0] 25)).heap.size (w3.alloc (.cells #[.slice none 0 0, .slice none 0 0] 25)) v := fun v h => by subst hC; exact h
  have cT : ∀ u v, C u → Below u.heap.size u v → C v := fun u v h k => by subst hC; exact bl_trans h k
  have cD : ∀ v, C v → C v.drew := fun v h => by subst hC; exact h.drew
  have cI : C (w3.alloc (.cells #[.slice none 0 0, .slice none 0 0] 25)) := by subst hC; exact Below.refl _ _
  clear hC
  refine region_calm C (by kernel_rfl) (by kernel_rfl) (cD _ cI) ?_
  clear cI
  refine wpQuiet_step (fun K hK => ?_)
  go_simp
  refine ⟨.agg #[.slice a1 m1 c1, .slice b1 n1 d1], fun v hv => ?_, hK _ ?_⟩
  · simp [q0 v hv, q1 v hv]
  clear hK K
  refine wpQuiet_step (fun K hK => ?_)
  go_simp
  refine ⟨.bool true, fun v hv => ?_, hK _ ?_⟩
  · exact calm_call cT hv (hR1 v (bl_trans HB.out (cB v hv)))
  clear hK K
  refine wpQuiet_step (fun K hK => ?_)
  go_simp
  refine ⟨.agg #[.slice a1 m1 c1, .slice b1 n1 d1], fun v hv => ?_, hK _ ?_⟩
  · simp [q0 v hv, q1 v hv]
  clear hK K
  refine wpQuiet_step (fun K hK => ?_)
  go_simp
  refine ⟨.bool true, fun v hv => ?_, hK _ ?_⟩
  · exact calm_call cT hv (hQ1 v (bl_trans HB.out (cB v hv)))
  clear hK K
  refine wpQuiet_step (fun K hK => ?_)
  go_simp
  refine ⟨_, fun v hv => rfl, hK _ ?_⟩
  clear hK K
  refine wpQuiet_nil ?_
  intro w4 C1
  have hb := cB _ C1
  clear C1 q0 q1 cB cT cD C
  have hu := hb
  replace HB : Hid _ := bl_trans HB.out hu
  replace K10 := cell_below hu K10
  replace K11 := cell_below hu K11
  replace K20 := cell_below hu K20
  replace K21 := cell_below hu K21
  replace Kt0 := cell_below hu Kt0
  replace Kt1 := cell_below hu Kt1
  clear hu
  clear hb
  go_wp2_with fail
  refine (hQ1 _ HB.out).mono ?_
  rintro e w5 ⟨rfl, hb⟩
  have hu := hb
  replace HB : Hid _ := bl_trans HB.out hu
  replace K10 := cell_below hu K10
  replace K11 := cell_below hu K11
  replace K20 := cell_below hu K20
  replace K21 := cell_below hu K21
  replace Kt0 := cell_below hu Kt0
  replace Kt1 := cell_below hu Kt1
  clear hu
  clear hb
  go_wp2_with fail
  refine (hQ2 _ HB.out).mono ?_
  rintro e w6 ⟨rfl, hb⟩
  have hu := hb
  replace HB : Hid _ := bl_trans HB.out hu
  replace K10 := cell_below hu K10
  replace K11 := cell_below hu K11
  replace K20 := cell_below hu K20
  replace K21 := cell_below hu K21
  replace Kt0 := cell_below hu Kt0
  replace Kt1 := cell_below hu Kt1
  clear hu
  clear hb
  go_wp2_with fail
  refine (hV _ HB.out).mono ?_
  rintro e w7 ⟨rfl, hb⟩
  have hu := hb
  replace HB : Hid _ := bl_trans HB.out hu
  replace K10 := cell_below hu K10
  replace K11 := cell_below hu K11
  replace K20 := cell_below hu K20
  replace K21 := cell_below hu K21
  replace Kt0 := cell_below hu Kt0
  replace Kt1 := cell_below hu Kt1
  clear hu
  clear hb
  go_wp2_with fail
  refine (awake_any aF aZ _ (HE.out.below HB.out)).mono ?_
  rintro e w8 ⟨rfl, hb⟩
  have hu := hb
  replace HB : Hid _ := bl_trans HB.out hu
  replace K10 := cell_below hu K10
  replace K11 := cell_below hu K11
  replace K20 := cell_below hu K20
  replace K21 := cell_below hu K21
  replace Kt0 := cell_below hu Kt0
  replace Kt1 := cell_below hu Kt1
  clear hu
  clear hb
  go_wp2
  go_ret
  exact ⟨rfl, HB.out⟩

set_option maxHeartbeats 4000000 in
theorem zips_g_sMul (a1 b1 a2 b2 : Option Addr) (c1 d1 m1 n1 c2 d2 m2 n2 : Nat) (zs : List Int) (qs rs : List Rat) (aF aZ : Addr) (w : World) (hE : Er w aF aZ)
    (hS1 : ∀ v, Below w.heap.size w v → Calls Tryz.prog 12 #[.agg #[.slice a1 m1 c1, .slice b1 n1 d1]] v fun e w' => e = .returned (.bool true) ∧ Below v.heap.size v w')
    (hS2 : ∀ v, Below w.heap.size w v → Calls Tryz.prog 12 #[.agg #[.slice a2 m2 c2, .slice b2 n2 d2]] v fun e w' => e = .returned (.bool true) ∧ Below v.heap.size v w')
    (hR1 : ∀ v, Below w.heap.size w v → Calls Tryz.prog 15 #[.agg #[.slice a1 m1 c1, .slice b1 n1 d1]] v fun e w' => e = .returned (.bool true) ∧ Below v.heap.size v w')
    (hQ1 : ∀ v, Below w.heap.size w v → Calls Tryz.prog 16 #[.agg #[.slice a1 m1 c1, .slice b1 n1 d1]] v fun e w' => e = .returned (.bool true) ∧ Below v.heap.size v w')
    (hQ2 : ∀ v, Below w.heap.size w v → Calls Tryz.prog 16 #[.agg #[.slice a2 m2 c2, .slice b2 n2 d2]] v fun e w' => e = .returned (.bool true) ∧ Below v.heap.size v w') (hT1 : Tt w 0 a1 b1 zs m1 n1 qs 40) (hT2 : Tt w 0 a2 b2 zs m1 n1 rs 40) (e1 : m2 = m1) (e2 : n2 = n1) :
    Calls Tryz.prog 3 #[.string sMul, .agg #[.slice a1 m1 c1, .slice b1 n1 d1], .agg #[.slice a2 m2 c2, .slice b2 n2 d2]] w fun e w' => e = .returned (.bool true) ∧ Below w.heap.size w w' := by
  have HE : Hid _ := hE
  clear hE
  have HB : Hid (Below w.heap.size w w) := Below.refl _ _
  subst e1 e2
  have hle := hT1.le
  have HTa : Hid _ := hT1
  clear hT1
  have HTb : Hid _ := hT2
  clear hT2
  have hu := bl_alloc (Below.refl w.heap.size w) (.cells #[.slice a1 m2 c1, .slice b1 n2 d1] 25)
  replace HB : Hid _ := bl_trans HB.out hu
  replace HTa : Hid _ := HTa.out.below hu
  replace HTb : Hid _ := HTb.out.below hu
  clear hu
  have K10 : (w.alloc (.cells #[.slice a1 m2 c1, .slice b1 n2 d1] 25)).cell? ⟨w.heap.size, 0, none⟩ = some (.slice a1 m2 c1) := by first | rw [World.cell?_alloc_at _ _ _ _ (by simp)]; rfl | simp
  have K11 : (w.alloc (.cells #[.slice a1 m2 c1, .slice b1 n2 d1] 25)).cell? ⟨w.heap.size, 1, none⟩ = some (.slice b1 n2 d1) := by first | rw [World.cell?_alloc_at _ _ _ _ (by simp)]; rfl | simp
  have hu := bl_alloc (Below.refl (w.alloc (.cells #[.slice a1 m2 c1, .slice b1 n2 d1] 25)).heap.size (w.alloc (.cells #[.slice a1 m2 c1, .slice b1 n2 d1] 25))) (.cells #[.slice a2 m2 c2, .slice b2 n2 d2] 25)
  replace HB : Hid _ := bl_trans HB.out hu
  replace HTa : Hid _ := HTa.out.below hu
  replace HTb : Hid _ := HTb.out.below hu
  replace K10 := cell_below hu K10
  replace K11 := cell_below hu K11
  clear hu
  have K20 : ((w.alloc (.cells #[.slice a1 m2 c1, .slice b1 n2 d1] 25)).alloc (.cells #[.slice a2 m2 c2, .slice b2 n2 d2] 25)).cell? ⟨w.heap.size + 1, 0, none⟩ = some (.slice a2 m2 c2) := by first | rw [World.cell?_alloc_at _ _ _ _ (by simp)]; rfl | simp
  have K21 : ((w.alloc (.cells #[.slice a1 m2 c1, .slice b1 n2 d1] 25)).alloc (.cells #[.slice a2 m2 c2, .slice b2 n2 d2] 25)).cell? ⟨w.heap.size + 1, 1, none⟩ = some (.slice b2 n2 d2) := by first | rw [World.cell?_alloc_at _ _ _ _ (by simp)]; rfl | simp
  go_enter Tryz.func3, Tryz.ntmps3
  go_wp2_with fail
  refine (hS1 _ HB.out).mono ?_
  rintro e w1 ⟨rfl, hb⟩
  have hu := hb
  replace HB : Hid _ := bl_trans HB.out hu
  replace HTa : Hid _ := HTa.out.below hu
  replace HTb : Hid _ := HTb.out.below hu
  replace K10 := cell_below hu K10
  replace K11 := cell_below hu K11
  replace K20 := cell_below hu K20
  replace K21 := cell_below hu K21
  clear hu
  clear hb
  go_wp2_with fail
  refine (hS2 _ HB.out).mono ?_
  rintro e w2 ⟨rfl, hb⟩
  have hu := hb
  replace HB : Hid _ := bl_trans HB.out hu
  replace HTa : Hid _ := HTa.out.below hu
  replace HTb : Hid _ := HTb.out.below hu
  replace K10 := cell_below hu K10
  replace K11 := cell_below hu K11
  replace K20 := cell_below hu K20
  replace K21 := cell_below hu K21
  clear hu
  clear hb
  go_wp2_with fail
  refine (zmul c1 d1 c2 d2 (HE.out.below HB.out) HTa.out HTb.out (by omega)).mono ?_
  rintro e w3 ⟨a3', c3', b3', d3', rfl, hT, hb⟩
  have hu := bl_alloc hb (.cells #[.slice a3' m2 c3', .slice b3' n2 d3'] 25)
  replace HB : Hid _ := bl_trans HB.out hu
  replace HTa : Hid _ := HTa.out.below hu
  replace HTb : Hid _ := HTb.out.below hu
  replace K10 := cell_below hu K10
  replace K11 := cell_below hu K11
  replace K20 := cell_below hu K20
  replace K21 := cell_below hu K21
  clear hu
  have HTt : Hid _ := hT.below (bl_alloc (Below.refl w3.heap.size w3) (.cells #[.slice a3' m2 c3', .slice b3' n2 d3'] 25))
  have Kt0 : (w3.alloc (.cells #[.slice a3' m2 c3', .slice b3' n2 d3'] 25)).cell? ⟨w3.heap.size, 0, none⟩ = some (.slice a3' m2 c3') := by simp
  have Kt1 : (w3.alloc (.cells #[.slice a3' m2 c3', .slice b3' n2 d3'] 25)).cell? ⟨w3.heap.size, 1, none⟩ = some (.slice b3' n2 d3') := by simp
  clear hb hT
  go_wp2_with fail
  obtain ⟨C, hC⟩ : ∃ C : World → Prop, C = fun v => Below (w3.alloc (.cells #[.slice a3' m2 c3', .slice b3' n2 d3'] 25)).heap.size (w3.alloc (.cells #[.slice a3' m2 c3', .slice b3' n2 d3'] 25)) v := ⟨_, rfl⟩
  have q0 : ∀ v, C v → v.cell? ⟨w.heap.size, 0, none⟩ = some (.slice a1 m2 c1) := fun v h => by subst hC; exact cell_below h K10
  have q1 : ∀ v, C v → v.cell? ⟨w.heap.size, 1, none⟩ = some (.slice b1 n2 d1) := fun v h => by subst hC; exact cell_below h K11
  have cB : ∀ v, C v → Below (w3.alloc (.cells #[.slice a3' m2 c3', .slice b3' n2 d3'] 25)).heap.size (w3.alloc (.cells #[.slice a3' m2 c3', .slice b3' n2 d3'] 25)) v := fun v h => by subst hC; exact h
  have cT : ∀ u v, C u → Below u.heap.size u v → C v := fun u v h k => by subst hC; exact bl_trans h k
  have cD : ∀ v, C v → C v.drew := fun v h => by subst hC; exact h.drew
  have cI : C (w3.alloc (.cells #[.slice a3' m2 c3', .slice b3' n2 d3'] 25)) := by subst hC; exact Below.refl _ _
  clear hC
  refine region_calm C (by kernel_rfl) (by kernel_rfl) (cD _ cI) ?_
  clear cI
  refine wpQuiet_step (fun K hK => ?_)
  go_simp
  refine ⟨.agg #[.slice a1 m2 c1, .slice b1 n2 d1], fun v hv => ?_, hK _ ?_⟩
  · simp [q0 v hv, q1 v hv]
  clear hK K
  refine wpQuiet_step (fun K hK => ?_)
  go_simp
  refine ⟨.bool true, fun v hv => ?_, hK _ ?_⟩
  · exact calm_call cT hv (hR1 v (bl_trans HB.out (cB v hv)))
  clear hK K
  refine wpQuiet_step (fun K hK => ?_)
  go_simp
  refine ⟨.agg #[.slice a1 m2 c1, .slice b1 n2 d1], fun v hv => ?_, hK _ ?_⟩
  · simp [q0 v hv, q1 v hv]
  clear hK K
  refine wpQuiet_step (fun K hK => ?_)
  go_simp
  refine ⟨.bool true, fun v hv => ?_, hK _ ?_⟩
  · exact calm_call cT hv (hQ1 v (bl_trans HB.out (cB v hv)))
  clear hK K
  refine wpQuiet_step (fun K hK => ?_)
  go_simp
  refine ⟨_, fun v hv => rfl, hK _ ?_⟩
  clear hK K
  refine wpQuiet_nil ?_
  intro w4 C1
  have hb := cB _ C1
  clear C1 q0 q1 cB cT cD C
  have hu := hb
  replace HB : Hid _ := bl_trans HB.out hu
  replace HTa : Hid _ := HTa.out.below hu
  replace HTb : Hid _ := HTb.out.below hu
  replace HTt : Hid _ := HTt.out.below hu
  replace K10 := cell_below hu K10
  replace K11 := cell_below hu K11
  replace K20 := cell_below hu K20
  replace K21 := cell_below hu K21
  replace Kt0 := cell_below hu Kt0
  replace Kt1 := cell_below hu Kt1
  clear hu
  clear hb
  go_wp2_with fail
  refine (hQ1 _ HB.out).mono ?_
  rintro e w5 ⟨rfl, hb⟩
  have hu := hb
  replace HB : Hid _ := bl_trans HB.out hu
  replace HTa : Hid _ := HTa.out.below hu
  replace HTb : Hid _ := HTb.out.below hu
  replace HTt : Hid _ := HTt.out.below hu
  replace K10 := cell_below hu K10
  replace K11 := cell_below hu K11
  replace K20 := cell_below hu K20
  replace K21 := cell_below hu K21
  replace Kt0 := cell_below hu Kt0
  replace Kt1 := cell_below hu Kt1
  clear hu
  clear hb
  go_wp2_with fail
  refine (hQ2 _ HB.out).mono ?_
  rintro e w6 ⟨rfl, hb⟩
  have hu := hb
  replace HB : Hid _ := bl_trans HB.out hu
  replace HTa : Hid _ := HTa.out.below hu
  replace HTb : Hid _ := HTb.out.below hu
  replace HTt : Hid _ := HTt.out.below hu
  replace K10 := cell_below hu K10
  replace K11 := cell_below hu K11
  replace K20 := cell_below hu K20
  replace K21 := cell_below hu K21
  replace Kt0 := cell_below hu Kt0
  replace Kt1 := cell_below hu Kt1
  clear hu
  clear hb
  go_wp2_with fail
  refine (zsame c1 c2 HTa.out.tm.s HTb.out.tm.s HTa.out.hm (by omega)).mono ?_
  rintro e w7 ⟨rfl, hb⟩
  have hu := hb
  replace HB : Hid _ := bl_trans HB.out hu
  replace HTa : Hid _ := HTa.out.below hu
  replace HTb : Hid _ := HTb.out.below hu
  replace HTt : Hid _ := HTt.out.below hu
  replace K10 := cell_below hu K10
  replace K11 := cell_below hu K11
  replace K20 := cell_below hu K20
  replace K21 := cell_below hu K21
  replace Kt0 := cell_below hu Kt0
  replace Kt1 := cell_below hu Kt1
  clear hu
  clear hb
  go_wp2_with fail
  refine wp_region_any (by kernel_rfl) ?_
  refine wpAny_inv (fun L a v => ∃ s6 s78 s79 s80 s81 s82 s83 s84 s85 s86 s87 s88 s89 s90, a = ⟨#[Value.string sMul, Value.agg #[Value.slice a1 m2 c1, Value.slice b1 n2 d1], Value.agg #[Value.slice a2 m2 c2, Value.slice b2 n2 d2], undef, Value.pointer (some { block := w.heap.size, off := 0 }), Value.pointer (some { block := w.heap.size + 1, off := 0 }), s6, Value.pointer (some { block := w3.heap.size, off := 0 }), Value.int IntKind.i64 0, Value.agg #[Value.slice a1 m2 c1, Value.slice b1 n2 d1], Value.bool true, Value.bool false, Value.bool false, Value.agg #[Value.slice a2 m2 c2, Value.slice b2 n2 d2], Value.bool true, Value.bool false, Value.bool false, undef, Value.tuple #[Value.agg #[Value.slice a3' m2 c3', Value.slice b3' n2 d3'], Value.int IntKind.i64 0], Value.string sMul, Value.agg #[Value.slice a1 m2 c1, Value.slice b1 n2 d1], Value.agg #[Value.slice a2 m2 c2, Value.slice b2 n2 d2], Value.tuple #[Value.agg #[Value.slice a3' m2 c3', Value.slice b3' n2 d3'], Value.int IntKind.i64 0], Value.agg #[Value.slice a3' m2 c3', Value.slice b3' n2 d3'], Value.int IntKind.i64 0, Value.agg #[Value.slice a1 m2 c1, Value.slice b1 n2 d1], Value.bool true, Value.agg #[Value.slice a1 m2 c1, Value.slice b1 n2 d1], Value.bool true, Value.bool false, Value.string sMul, Value.bool true, Value.bool true, Value.string sMul, Value.bool true, Value.bool true, Value.bool true, Value.string sMul, Value.bool false, Value.bool false, Value.bool false, Value.agg #[Value.slice a1 m2 c1, Value.slice b1 n2 d1], Value.bool true, Value.bool false, Value.bool false, Value.bool false, Value.agg #[Value.slice a2 m2 c2, Value.slice b2 n2 d2], Value.bool true, Value.bool false, Value.bool false, undef, undef, undef, undef, undef, undef, undef, undef, undef, undef, undef, Value.pointer (some { block := w.heap.size, off := 0 }), Value.slice a1 m2 c1, Value.pointer (some { block := w.heap.size + 1, off := 0 }), Value.slice a2 m2 c2, Value.bool true, Value.bool false, undef, undef, undef, undef, undef, undef, undef, undef, undef, undef, undef, s78, s79, s80, s81, s82, s83, s84, s85, s86, s87, s88, s89, s90], []⟩ ∧ Gv w7 (.agg #[.slice a3' m2 c3', .slice b3' n2 d3']) (.agg #[.slice a1 m2 c1, .slice b1 n2 d1]) (.agg #[.slice a2 m2 c2, .slice b2 n2 d2]) (.string sMul) (Nt zs m2 n2 (List.zipWith (· * ·) qs rs) 80) L v s6 s78 s79 s80 s81 s82 s83 s84 s85 s86 s87 s88 s89 s90) ?_ ?_ _ _ _ _ (by decide) ?_
  · intro L a v i hI hi
    obtain ⟨s6, s78, s79, s80, s81, s82, s83, s84, s85, s86, s87, s88, s89, s90, rfl, hP⟩ := hI
    obtain ⟨hu, o, ho, haf⟩ := mem_ready.1 hi
    have hlt : i < 14 := (Array.getElem?_eq_some_iff.1 ho).1
    have k0 := cell_below hP.bl K10
    have k1 := cell_below hP.bl K11
    have k2 := cell_below hP.bl K20
    have k3 := cell_below hP.bl K21
    have k4 := cell_below hP.bl Kt0
    have k5 := cell_below hP.bl Kt1
    rcases (by omega : i = 0 ∨ i = 1 ∨ i = 2 ∨ i = 3 ∨ i = 4 ∨ i = 5 ∨ i = 6 ∨ i = 7 ∨ i = 8 ∨ i = 9 ∨ i = 10 ∨ i = 11 ∨ i = 12 ∨ i = 13) with rfl | rfl | rfl | rfl | rfl | rfl | rfl | rfl | rfl | rfl | rfl | rfl | rfl | rfl
    all_goals (simp only [List.getElem?_toArray, List.getElem?_cons_zero, List.getElem?_cons_succ, Option.some.injEq] at ho; subst ho)
    · refine step_run rfl rfl ?_
      have hP2 := hP.t0
      go_simp
      exact ⟨_, _, _, _, _, _, _, _, _, _, _, _, _, _, ⟨rfl, rfl, rfl, rfl, rfl, rfl, rfl, rfl, rfl, rfl, rfl, rfl, rfl, rfl⟩, hP2⟩
    · refine step_run rfl rfl ?_
      have hP2 := hP.t1
      go_simp
      exact ⟨_, _, _, _, _, _, _, _, _, _, _, _, _, _, ⟨rfl, rfl, rfl, rfl, rfl, rfl, rfl, rfl, rfl, rfl, rfl, rfl, rfl, rfl⟩, hP2⟩
    · refine step_run rfl rfl ?_
      have hP2 := hP.t2
      go_simp
      exact ⟨_, _, _, _, _, _, _, _, _, _, _, _, _, _, ⟨rfl, rfl, rfl, rfl, rfl, rfl, rfl, rfl, rfl, rfl, rfl, rfl, rfl, rfl⟩, hP2⟩
    · refine step_run rfl rfl ?_
      have hP2 := hP.t3
      go_simp
      exact ⟨_, _, _, _, _, _, _, _, _, _, _, _, _, _, ⟨rfl, rfl, rfl, rfl, rfl, rfl, rfl, rfl, rfl, rfl, rfl, rfl, rfl, rfl⟩, hP2⟩
    · have g1 := hP.h1 (haf { on := 1, ground := .data } (by simp) rfl)
      have g2 := hP.h2 (haf { on := 2, ground := .data } (by simp) rfl)
      have g3 := hP.h3 (haf { on := 3, ground := .data } (by simp) rfl)
      subst g1 g2 g3
      refine step_run rfl rfl ?_
      unfold Oper.wp
      rw [run_three cf19 (.tmp 79) (.tmp 80) (.tmp 81) 9 25 25 rfl _ _ _ rfl rfl rfl]
      refine (rzip_mul a1 b1 a2 b2 c1 d1 c2 d2 m2 n2 0 0 zs qs rs v (HTa.out.below hP.bl) (HTb.out.below hP.bl)).mono ?_
      rintro e v2 ⟨a9, c9, b9, d9, rfl, hT9, hb⟩
      have hP2 := hP.t4 hb ⟨a9, c9, b9, d9, rfl, hT9⟩
      go_simp
      exact ⟨_, _, _, _, _, _, _, _, _, _, _, _, _, _, ⟨rfl, rfl, rfl, rfl, rfl, rfl, rfl, rfl, rfl, rfl, rfl, rfl, rfl, rfl⟩, hP2⟩
    · have g0 := hP.h0 (haf { on := 0, ground := .data } (by simp) rfl)
      have g4 := hP.h4 (haf { on := 4, ground := .data } (by simp) rfl)
      obtain ⟨a9, c9, b9, d9, g4, hT9⟩ := g4
      subst g0 g4
      refine step_run rfl rfl ?_
      unfold Oper.wp
      rw [run_two cf18 (.tmp 78) (.tmp 82) 25 25 rfl _ _ rfl rfl]
      refine (zeq c3' d3' c9 d9 (HTt.out.below hP.bl) hT9 rfl).mono ?_
      rintro e v2 ⟨rfl, hb⟩
      have hP2 := hP.t5 hb
      go_simp
      exact ⟨_, _, _, _, _, _, _, _, _, _, _, _, _, _, ⟨rfl, rfl, rfl, rfl, rfl, rfl, rfl, rfl, rfl, rfl, rfl, rfl, rfl, rfl⟩, hP2⟩
    · have g5 := hP.h5 (haf { on := 5, ground := .data } (by simp) rfl)
      subst g5
      refine step_run rfl rfl ?_
      have hP2 := hP.t6
      go_simp
      exact ⟨_, _, _, _, _, _, _, _, _, _, _, _, _, _, ⟨rfl, rfl, rfl, rfl, rfl, rfl, rfl, rfl, rfl, rfl, rfl, rfl, rfl, rfl⟩, hP2⟩
    · have g6 := hP.h6 (haf { on := 6, ground := .guard } (by simp) rfl)
      subst g6
      refine step_runw rfl (by first | rfl | go_simp) ?_
      have hP2 := hP.t7
      go_simp
      exact ⟨_, _, _, _, _, _, _, _, _, _, _, _, _, _, ⟨rfl, rfl, rfl, rfl, rfl, rfl, rfl, rfl, rfl, rfl, rfl, rfl, rfl, rfl⟩, hP2⟩
    · have g7 := hP.h7 (haf { on := 7, ground := .data } (by simp) rfl)
      have g6 := hP.h6 (haf { on := 6, ground := .guard } (by simp) rfl)
      subst g7 g6
      refine step_runw rfl (by first | rfl | go_simp) ?_
      have hP2 := hP.t8
      go_simp
      exact ⟨_, _, _, _, _, _, _, _, _, _, _, _, _, _, ⟨rfl, rfl, rfl, rfl, rfl, rfl, rfl, rfl, rfl, rfl, rfl, rfl, rfl, rfl⟩, hP2⟩
    · have g6 := hP.h6 (haf { on := 6, ground := .data } (by simp) rfl)
      have g8 := hP.h8 (haf { on := 8, ground := .data } (by simp) rfl)
      subst g6 g8
      refine step_run rfl rfl ?_
      have hP2 := hP.t9
      go_simp
      exact ⟨_, _, _, _, _, _, _, _, _, _, _, _, _, _, ⟨rfl, rfl, rfl, rfl, rfl, rfl, rfl, rfl, rfl, rfl, rfl, rfl, rfl, rfl⟩, hP2⟩
    · have g9 := hP.h9 (haf { on := 9, ground := .data } (by simp) rfl)
      subst g9
      refine step_run rfl rfl ?_
      have hP2 := hP.t10
      go_simp
      exact ⟨_, _, _, _, _, _, _, _, _, _, _, _, _, _, ⟨rfl, rfl, rfl, rfl, rfl, rfl, rfl, rfl, rfl, rfl, rfl, rfl, rfl, rfl⟩, hP2⟩
    · have g10 := hP.h10 (haf { on := 10, ground := .guard } (by simp) rfl)
      subst g10
      refine step_runw rfl (by first | rfl | go_simp) ?_
      unfold Oper.wp
      rw [run_none cf13 rfl]
      refine (awake_any aF aZ _ (HE.out.below (bl_trans HB.out hP.bl))).mono ?_
      rintro e v2 ⟨rfl, hb⟩
      have hP2 := hP.t11 hb
      go_simp
      exact ⟨_, _, _, _, _, _, _, _, _, _, _, _, _, _, ⟨rfl, rfl, rfl, rfl, rfl, rfl, rfl, rfl, rfl, rfl, rfl, rfl, rfl, rfl⟩, hP2⟩
    · have g10 := hP.h10 (haf { on := 10, ground := .data } (by simp) rfl)
      have g11 := hP.h11 (haf { on := 11, ground := .data } (by simp) rfl)
      subst g10 g11
      refine step_run rfl rfl ?_
      have hP2 := hP.t12
      go_simp
      exact ⟨_, _, _, _, _, _, _, _, _, _, _, _, _, _, ⟨rfl, rfl, rfl, rfl, rfl, rfl, rfl, rfl, rfl, rfl, rfl, rfl, rfl, rfl⟩, hP2⟩
    · have g12 := hP.h12 (haf { on := 12, ground := .data } (by simp) rfl)
      subst g12
      refine step_run rfl rfl ?_
      have hP2 := hP.t13
      go_simp
      exact ⟨_, _, _, _, _, _, _, _, _, _, _, _, _, _, ⟨rfl, rfl, rfl, rfl, rfl, rfl, rfl, rfl, rfl, rfl, rfl, rfl, rfl, rfl⟩, hP2⟩
  · intro L a v hI hr
    obtain ⟨s6, s78, s79, s80, s81, s82, s83, s84, s85, s86, s87, s88, s89, s90, rfl, hP⟩ := hI
    have hno := List.eq_nil_iff_forall_not_mem.1 hr
    have g0 : on L 0 := Decidable.byContradiction fun hc => hno 0 (mem_ready.2 ⟨off (by rw [hP.sz]; decide) hc, _, rfl, fun e he => by simp at he⟩)
    have g1 : on L 1 := Decidable.byContradiction fun hc => hno 1 (mem_ready.2 ⟨off (by rw [hP.sz]; decide) hc, _, rfl, fun e he => by simp at he⟩)
    have g2 : on L 2 := Decidable.byContradiction fun hc => hno 2 (mem_ready.2 ⟨off (by rw [hP.sz]; decide) hc, _, rfl, fun e he => by simp at he⟩)
    have g3 : on L 3 := Decidable.byContradiction fun hc => hno 3 (mem_ready.2 ⟨off (by rw [hP.sz]; decide) hc, _, rfl, fun e he => by simp at he⟩)
    have g4 : on L 4 := by
      refine Decidable.byContradiction fun hc => hno 4 (mem_ready.2 ⟨off (by rw [hP.sz]; decide) hc, _, rfl, ?_⟩)
      intro e he hb
      simp at he
      rcases he with rfl | rfl | rfl
      all_goals first | assumption | exact absurd hb (by decide)
    have g5 : on L 5 := by
      refine Decidable.byContradiction fun hc => hno 5 (mem_ready.2 ⟨off (by rw [hP.sz]; decide) hc, _, rfl, ?_⟩)
      intro e he hb
      simp at he
      rcases he with rfl | rfl | rfl
      all_goals first | assumption | exact absurd hb (by decide)
    have g6 : on L 6 := by
      refine Decidable.byContradiction fun hc => hno 6 (mem_ready.2 ⟨off (by rw [hP.sz]; decide) hc, _, rfl, ?_⟩)
      intro e he hb
      simp at he
      rcases he with rfl | rfl
      all_goals first | assumption | exact absurd hb (by decide)
    have g7 : on L 7 := by
      refine Decidable.byContradiction fun hc => hno 7 (mem_ready.2 ⟨off (by rw [hP.sz]; decide) hc, _, rfl, ?_⟩)
      intro e he hb
      simp at he
      subst he
      all_goals first | assumption | exact absurd hb (by decide)
    have g8 : on L 8 := by
      refine Decidable.byContradiction fun hc => hno 8 (mem_ready.2 ⟨off (by rw [hP.sz]; decide) hc, _, rfl, ?_⟩)
      intro e he hb
      simp at he
      rcases he with rfl | rfl
      all_goals first | assumption | exact absurd hb (by decide)
    have g9 : on L 9 := by
      refine Decidable.byContradiction fun hc => hno 9 (mem_ready.2 ⟨off (by rw [hP.sz]; decide) hc, _, rfl, ?_⟩)
      intro e he hb
      simp at he
      rcases he with rfl | rfl
      all_goals first | assumption | exact absurd hb (by decide)
    have g10 : on L 10 := by
      refine Decidable.byContradiction fun hc => hno 10 (mem_ready.2 ⟨off (by rw [hP.sz]; decide) hc, _, rfl, ?_⟩)
      intro e he hb
      simp at he
      rcases he with rfl | rfl
      all_goals first | assumption | exact absurd hb (by decide)
    have g11 : on L 11 := by
      refine Decidable.byContradiction fun hc => hno 11 (mem_ready.2 ⟨off (by rw [hP.sz]; decide) hc, _, rfl, ?_⟩)
      intro e he hb
      simp at he
      rcases he with rfl | rfl
      all_goals first | assumption | exact absurd hb (by decide)
    have g12 : on L 12 := by
      refine Decidable.byContradiction fun hc => hno 12 (mem_ready.2 ⟨off (by rw [hP.sz]; decide) hc, _, rfl, ?_⟩)
      intro e he hb
      simp at he
      rcases he with rfl | rfl
      all_goals first | assumption | exact absurd hb (by decide)
    have g13 : on L 13 := by
      refine Decidable.byContradiction fun hc => hno 13 (mem_ready.2 ⟨off (by rw [hP.sz]; decide) hc, _, rfl, ?_⟩)
      intro e he hb
      simp at he
      rcases he with rfl | rfl | rfl | rfl | rfl | rfl | rfl | rfl | rfl | rfl | rfl | rfl | rfl | rfl | rfl
      all_goals first | assumption | exact absurd hb (by decide)
    have e0 := hP.h0 g0
    have e1 := hP.h1 g1
    have e2 := hP.h2 g2
    have e3 := hP.h3 g3
    have e5 := hP.h5 g5
    have e6 := hP.h6 g6
    have e7 := hP.h7 g7
    have e8 := hP.h8 g8
    have e9 := hP.h9 g9
    have e10 := hP.h10 g10
    have e11 := hP.h11 g11
    have e12 := hP.h12 g12
    have e13 := hP.h13 g13
    have HBL : Hid (Below w.heap.size w v) := bl_trans HB.out hP.bl
    clear hP g0 g1 g2 g3 g4 g5 g6 g7 g8 g9 g10 g11 g12 g13 hr hno
    subst e0 e1 e2 e3 e5 e6 e7 e8 e9 e10 e11 e12 e13
    clear K10 K11 K20 K21 Kt0 Kt1
    go_wp2
    go_ret
    exact ⟨rfl, HBL.out⟩
  · exact ⟨_, _, _, _, _, _, _, _, _, _, _, _, _, _, rfl, ⟨by simp, bl_drew (Below.refl _ _), fun v u x hb ⟨a9, c9, b9, d9, e, hT⟩ => ⟨a9, c9, b9, d9, e, hT.below hb⟩, fun g => absurd g (by simp [on]), fun g => absurd g (by simp [on]), fun g => absurd g (by simp [on]), fun g => absurd g (by simp [on]), fun g => absurd g (by simp [on]), fun g => absurd g (by simp [on]), fun g => absurd g (by simp [on]), fun g => absurd g (by simp [on]), fun g => absurd g (by simp [on]), fun g => absurd g (by simp [on]), fun g => absurd g (by simp [on]), fun g => absurd g (by simp [on]), fun g => absurd g (by simp [on]), fun g => absurd g (by simp [on])⟩⟩
end Go.Proofs.YtfblgaffkflenaaGreatDoor.Tn
