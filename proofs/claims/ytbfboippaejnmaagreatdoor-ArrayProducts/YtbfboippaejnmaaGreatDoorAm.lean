/-
  PACKAGE array: PRODUCTS, AND ROWS AS COLUMNS: what calls of MatMul and Transpose give, step by step. Conditions: each theorem's own.
-/
import Derived.Test.YtbfboippaejnmaaGreatDoorAr
namespace Go.Proofs.YtbfboippaejnmaaGreatDoor.Tn
set_option maxRecDepth 100000
open Go.RowKit Nm
set_option linter.unusedVariables false

set_option maxHeartbeats 4000000 in
theorem mat_a_no (m1 n1 c1 d1 m2 n2 c2 d2 : Nat) (a1 b1 a2 b2 : Option Addr) (w : World)
    (hR1 : ∀ v, Below w.heap.size w v → Calls Tryz.prog 29 #[.agg #[.slice a1 m1 c1, .slice b1 n1 d1]] v fun e w' => e = .returned (.bool false) ∧ Below v.heap.size v w') :
    Calls Tryz.prog 14 #[.agg #[.slice a1 m1 c1, .slice b1 n1 d1], .agg #[.slice a2 m2 c2, .slice b2 n2 d2]] w fun e w' => e = .returned (noTensor 1) ∧ Below w.heap.size w w' := by
  have hZ : Zb w (((w.alloc (.cells #[.slice a1 m1 c1, .slice b1 n1 d1] 25)).alloc (.cells #[.slice a2 m2 c2, .slice b2 n2 d2] 25)).alloc (.cells #[.slice none 0 0, .slice none 0 0] 25)) (.slice a1 m1 c1) (.slice b1 n1 d1) (.slice a2 m2 c2) (.slice b2 n2 d2) := Zb.of (Below.refl _ _)
  have k0 := hZ.a0
  have k1 := hZ.a1
  have k2 := hZ.b0
  have k3 := hZ.b1
  have HZ : Hid _ := hZ
  clear hZ
  go_enter Tryz.func14, Tryz.ntmps14
  go_wp2_with fail
  refine (hR1 _ HZ.out.bl).mono ?_
  rintro e w1 ⟨rfl, hb⟩
  have hZ := HZ.out.below hb
  clear HZ k0 k1 k2 k3 hR1
  have k0 := hZ.a0
  have k1 := hZ.a1
  have k2 := hZ.b0
  have k3 := hZ.b1
  have HZ : Hid _ := hZ
  clear hb hZ
  have hx0 := HZ.out.bx.c0
  have hx1 := HZ.out.bx.c1
  have hx2 := HZ.out.bx.f0
  have hx3 := HZ.out.bx.f1
  go_wp2
  refine bodyPost_ret (v := noTensor 1) (by simp [results, Tryz.results14, go_sem, (two_set HZ.out.bx.c0 HZ.out.bx.c1 _ _).1, (two_set HZ.out.bx.c0 HZ.out.bx.c1 _ _).2]) rfl ⟨rfl, ?_⟩
  exact bl_set (bl_set HZ.out.bl (by simp <;> omega) _) (by simp <;> omega) _

set_option maxHeartbeats 4000000 in
theorem mat_b_no (m1 n1 c1 d1 m2 n2 c2 d2 : Nat) (a1 b1 a2 b2 : Option Addr) (w : World)
    (hR1 : ∀ v, Below w.heap.size w v → Calls Tryz.prog 29 #[.agg #[.slice a1 m1 c1, .slice b1 n1 d1]] v fun e w' => e = .returned (.bool true) ∧ Below v.heap.size v w')
    (hR2 : ∀ v, Below w.heap.size w v → Calls Tryz.prog 29 #[.agg #[.slice a2 m2 c2, .slice b2 n2 d2]] v fun e w' => e = .returned (.bool false) ∧ Below v.heap.size v w') :
    Calls Tryz.prog 14 #[.agg #[.slice a1 m1 c1, .slice b1 n1 d1], .agg #[.slice a2 m2 c2, .slice b2 n2 d2]] w fun e w' => e = .returned (noTensor 1) ∧ Below w.heap.size w w' := by
  have hZ : Zb w (((w.alloc (.cells #[.slice a1 m1 c1, .slice b1 n1 d1] 25)).alloc (.cells #[.slice a2 m2 c2, .slice b2 n2 d2] 25)).alloc (.cells #[.slice none 0 0, .slice none 0 0] 25)) (.slice a1 m1 c1) (.slice b1 n1 d1) (.slice a2 m2 c2) (.slice b2 n2 d2) := Zb.of (Below.refl _ _)
  have k0 := hZ.a0
  have k1 := hZ.a1
  have k2 := hZ.b0
  have k3 := hZ.b1
  have HZ : Hid _ := hZ
  clear hZ
  go_enter Tryz.func14, Tryz.ntmps14
  go_wp2_with fail
  refine (hR1 _ HZ.out.bl).mono ?_
  rintro e w1 ⟨rfl, hb⟩
  have hZ := HZ.out.below hb
  clear HZ k0 k1 k2 k3 hR1
  have k0 := hZ.a0
  have k1 := hZ.a1
  have k2 := hZ.b0
  have k3 := hZ.b1
  have HZ : Hid _ := hZ
  clear hb hZ
  go_wp2_with fail
  refine (hR2 _ HZ.out.bl).mono ?_
  rintro e w2 ⟨rfl, hb⟩
  have hZ := HZ.out.below hb
  clear HZ k0 k1 k2 k3 hR2
  have k0 := hZ.a0
  have k1 := hZ.a1
  have k2 := hZ.b0
  have k3 := hZ.b1
  have HZ : Hid _ := hZ
  clear hb hZ
  have hx0 := HZ.out.bx.c0
  have hx1 := HZ.out.bx.c1
  have hx2 := HZ.out.bx.f0
  have hx3 := HZ.out.bx.f1
  go_wp2
  refine bodyPost_ret (v := noTensor 1) (by simp [results, Tryz.results14, go_sem, (two_set HZ.out.bx.c0 HZ.out.bx.c1 _ _).1, (two_set HZ.out.bx.c0 HZ.out.bx.c1 _ _).2]) rfl ⟨rfl, ?_⟩
  exact bl_set (bl_set HZ.out.bl (by simp <;> omega) _) (by simp <;> omega) _

set_option maxHeartbeats 4000000 in
theorem mat_r1_no (m1 n1 c1 d1 m2 n2 c2 d2 : Nat) (a1 b1 a2 b2 : Option Addr) (w : World)
    (hR1 : ∀ v, Below w.heap.size w v → Calls Tryz.prog 29 #[.agg #[.slice a1 m1 c1, .slice b1 n1 d1]] v fun e w' => e = .returned (.bool true) ∧ Below v.heap.size v w')
    (hR2 : ∀ v, Below w.heap.size w v → Calls Tryz.prog 29 #[.agg #[.slice a2 m2 c2, .slice b2 n2 d2]] v fun e w' => e = .returned (.bool true) ∧ Below v.heap.size v w') (hm : ((m1 : Int) == 2) = false) :
    Calls Tryz.prog 14 #[.agg #[.slice a1 m1 c1, .slice b1 n1 d1], .agg #[.slice a2 m2 c2, .slice b2 n2 d2]] w fun e w' => e = .returned (noTensor 4) ∧ Below w.heap.size w w' := by
  have hZ : Zb w (((w.alloc (.cells #[.slice a1 m1 c1, .slice b1 n1 d1] 25)).alloc (.cells #[.slice a2 m2 c2, .slice b2 n2 d2] 25)).alloc (.cells #[.slice none 0 0, .slice none 0 0] 25)) (.slice a1 m1 c1) (.slice b1 n1 d1) (.slice a2 m2 c2) (.slice b2 n2 d2) := Zb.of (Below.refl _ _)
  have k0 := hZ.a0
  have k1 := hZ.a1
  have k2 := hZ.b0
  have k3 := hZ.b1
  have HZ : Hid _ := hZ
  clear hZ
  go_enter Tryz.func14, Tryz.ntmps14
  go_wp2_with fail
  refine (hR1 _ HZ.out.bl).mono ?_
  rintro e w1 ⟨rfl, hb⟩
  have hZ := HZ.out.below hb
  clear HZ k0 k1 k2 k3 hR1
  have k0 := hZ.a0
  have k1 := hZ.a1
  have k2 := hZ.b0
  have k3 := hZ.b1
  have HZ : Hid _ := hZ
  clear hb hZ
  go_wp2_with fail
  refine (hR2 _ HZ.out.bl).mono ?_
  rintro e w2 ⟨rfl, hb⟩
  have hZ := HZ.out.below hb
  clear HZ k0 k1 k2 k3 hR2
  have k0 := hZ.a0
  have k1 := hZ.a1
  have k2 := hZ.b0
  have k3 := hZ.b1
  have HZ : Hid _ := hZ
  clear hb hZ
  go_wp2_with fail
  obtain ⟨C, hC⟩ : ∃ C : World → Prop, C = fun v => Zb w v (.slice a1 m1 c1) (.slice b1 n1 d1) (.slice a2 m2 c2) (.slice b2 n2 d2) := ⟨_, rfl⟩
  have e0 : ∀ v, C v → v.cell? ⟨w.heap.size, 0, none⟩ = some (.slice a1 m1 c1) := fun v h => by subst hC; exact h.a0
  have e1 : ∀ v, C v → v.cell? ⟨w.heap.size, 1, none⟩ = some (.slice b1 n1 d1) := fun v h => by subst hC; exact h.a1
  have e2 : ∀ v, C v → v.cell? ⟨w.heap.size + 1, 0, none⟩ = some (.slice a2 m2 c2) := fun v h => by subst hC; exact h.b0
  have e3 : ∀ v, C v → v.cell? ⟨w.heap.size + 1, 1, none⟩ = some (.slice b2 n2 d2) := fun v h => by subst hC; exact h.b1
  have cB : ∀ v, C v → Below w.heap.size w v := fun v h => by subst hC; exact h.bl
  have cT : ∀ u v, C u → Below u.heap.size u v → C v := fun u v h k => by subst hC; exact h.below k
  have cZ : Hid (∀ v, C v → Zb w v (.slice a1 m1 c1) (.slice b1 n1 d1) (.slice a2 m2 c2) (.slice b2 n2 d2)) := fun v h => by subst hC; exact h
  have cI : C w2.drew := by subst hC; exact HZ.out.below (bl_drew (Below.refl _ _))
  clear hC HZ k0 k1 k2 k3
  refine region_calm C (by kernel_rfl) (by kernel_rfl) cI ?_
  clear cI
  with_reducible refine wpQuiet_step (fun K hK => ?_)
  go_simp
  refine ⟨.agg #[.slice a1 m1 c1, .slice b1 n1 d1], fun v hv => ?_, hK _ ?_⟩
  · simp [e0 v hv, e1 v hv]
  clear hK K
  with_reducible refine wpQuiet_step (fun K hK => ?_)
  go_simp
  refine ⟨.bool false, fun v hv => ?_, hK _ ?_⟩
  · exact calm_call cT hv (inRows_no _ _ _ _ _ _ v hm)
  clear hK K
  with_reducible refine wpQuiet_step (fun K hK => ?_)
  go_simp
  refine ⟨_, fun v hv => rfl, hK _ ?_⟩
  clear hK K
  with_reducible refine wpQuiet_step (fun K hK => ?_)
  go_simp
  refine ⟨_, fun v hv => rfl, hK _ ?_⟩
  clear hK K
  with_reducible refine wpQuiet_step (fun K hK => ?_)
  go_simp
  refine hK _ ?_
  clear hK K
  with_reducible refine wpQuiet_step (fun K hK => ?_)
  go_simp
  refine hK _ ?_
  clear hK K
  with_reducible refine wpQuiet_step (fun K hK => ?_)
  go_simp
  refine hK _ ?_
  clear hK K
  with_reducible refine wpQuiet_step (fun K hK => ?_)
  go_simp
  refine ⟨_, fun v hv => rfl, hK _ ?_⟩
  clear hK K
  with_reducible refine wpQuiet_step (fun K hK => ?_)
  go_simp
  refine ⟨_, fun v hv => rfl, hK _ ?_⟩
  clear hK K
  with_reducible refine wpQuiet_step (fun K hK => ?_)
  go_simp
  refine hK _ ?_
  clear hK K
  with_reducible refine wpQuiet_step (fun K hK => ?_)
  go_simp
  refine hK _ ?_
  clear hK K
  with_reducible refine wpQuiet_step (fun K hK => ?_)
  go_simp
  refine hK _ ?_
  clear hK K
  with_reducible refine wpQuiet_step (fun K hK => ?_)
  go_simp
  refine hK _ ?_
  clear hK K
  with_reducible refine wpQuiet_step (fun K hK => ?_)
  go_simp
  refine hK _ ?_
  clear hK K
  with_reducible refine wpQuiet_step (fun K hK => ?_)
  go_simp
  refine hK _ ?_
  clear hK K
  with_reducible refine wpQuiet_step (fun K hK => ?_)
  go_simp
  refine hK _ ?_
  clear hK K
  with_reducible refine wpQuiet_step (fun K hK => ?_)
  go_simp
  refine hK _ ?_
  clear hK K
  with_reducible refine wpQuiet_step (fun K hK => ?_)
  go_simp
  refine hK _ ?_
  clear hK K
  with_reducible refine wpQuiet_step (fun K hK => ?_)
  go_simp
  refine ⟨_, fun v hv => rfl, hK _ ?_⟩
  clear hK K
  refine wpQuiet_nil ?_
  intro w3 C1
  have hZ := cZ.out _ C1
  have k0 := hZ.a0
  have k1 := hZ.a1
  have k2 := hZ.b0
  have k3 := hZ.b1
  have HZ : Hid _ := hZ
  clear hZ C1 cZ e0 e1 e2 e3 cB cT 
  have hx0 := HZ.out.bx.c0
  have hx1 := HZ.out.bx.c1
  have hx2 := HZ.out.bx.f0
  have hx3 := HZ.out.bx.f1
  go_wp2
  refine bodyPost_ret (v := noTensor 4) (by simp [results, Tryz.results14, go_sem, (two_set HZ.out.bx.c0 HZ.out.bx.c1 _ _).1, (two_set HZ.out.bx.c0 HZ.out.bx.c1 _ _).2]) rfl ⟨rfl, ?_⟩
  exact bl_set (bl_set HZ.out.bl (by simp <;> omega) _) (by simp <;> omega) _

set_option maxHeartbeats 4000000 in
theorem mat_r2_no (n1 c1 d1 m2 n2 c2 d2 : Nat) (a1 b1 a2 b2 : Option Addr) (w : World)
    (hR1 : ∀ v, Below w.heap.size w v → Calls Tryz.prog 29 #[.agg #[.slice a1 2 c1, .slice b1 n1 d1]] v fun e w' => e = .returned (.bool true) ∧ Below v.heap.size v w')
    (hR2 : ∀ v, Below w.heap.size w v → Calls Tryz.prog 29 #[.agg #[.slice a2 m2 c2, .slice b2 n2 d2]] v fun e w' => e = .returned (.bool true) ∧ Below v.heap.size v w') (hm : ((m2 : Int) == 2) = false) :
    Calls Tryz.prog 14 #[.agg #[.slice a1 2 c1, .slice b1 n1 d1], .agg #[.slice a2 m2 c2, .slice b2 n2 d2]] w fun e w' => e = .returned (noTensor 4) ∧ Below w.heap.size w w' := by
  have hZ : Zb w (((w.alloc (.cells #[.slice a1 2 c1, .slice b1 n1 d1] 25)).alloc (.cells #[.slice a2 m2 c2, .slice b2 n2 d2] 25)).alloc (.cells #[.slice none 0 0, .slice none 0 0] 25)) (.slice a1 2 c1) (.slice b1 n1 d1) (.slice a2 m2 c2) (.slice b2 n2 d2) := Zb.of (Below.refl _ _)
  have k0 := hZ.a0
  have k1 := hZ.a1
  have k2 := hZ.b0
  have k3 := hZ.b1
  have HZ : Hid _ := hZ
  clear hZ
  go_enter Tryz.func14, Tryz.ntmps14
  go_wp2_with fail
  refine (hR1 _ HZ.out.bl).mono ?_
  rintro e w1 ⟨rfl, hb⟩
  have hZ := HZ.out.below hb
  clear HZ k0 k1 k2 k3 hR1
  have k0 := hZ.a0
  have k1 := hZ.a1
  have k2 := hZ.b0
  have k3 := hZ.b1
  have HZ : Hid _ := hZ
  clear hb hZ
  go_wp2_with fail
  refine (hR2 _ HZ.out.bl).mono ?_
  rintro e w2 ⟨rfl, hb⟩
  have hZ := HZ.out.below hb
  clear HZ k0 k1 k2 k3 hR2
  have k0 := hZ.a0
  have k1 := hZ.a1
  have k2 := hZ.b0
  have k3 := hZ.b1
  have HZ : Hid _ := hZ
  clear hb hZ
  go_wp2_with fail
  obtain ⟨C, hC⟩ : ∃ C : World → Prop, C = fun v => Zb w v (.slice a1 2 c1) (.slice b1 n1 d1) (.slice a2 m2 c2) (.slice b2 n2 d2) := ⟨_, rfl⟩
  have e0 : ∀ v, C v → v.cell? ⟨w.heap.size, 0, none⟩ = some (.slice a1 2 c1) := fun v h => by subst hC; exact h.a0
  have e1 : ∀ v, C v → v.cell? ⟨w.heap.size, 1, none⟩ = some (.slice b1 n1 d1) := fun v h => by subst hC; exact h.a1
  have e2 : ∀ v, C v → v.cell? ⟨w.heap.size + 1, 0, none⟩ = some (.slice a2 m2 c2) := fun v h => by subst hC; exact h.b0
  have e3 : ∀ v, C v → v.cell? ⟨w.heap.size + 1, 1, none⟩ = some (.slice b2 n2 d2) := fun v h => by subst hC; exact h.b1
  have cB : ∀ v, C v → Below w.heap.size w v := fun v h => by subst hC; exact h.bl
  have cT : ∀ u v, C u → Below u.heap.size u v → C v := fun u v h k => by subst hC; exact h.below k
  have cZ : Hid (∀ v, C v → Zb w v (.slice a1 2 c1) (.slice b1 n1 d1) (.slice a2 m2 c2) (.slice b2 n2 d2)) := fun v h => by subst hC; exact h
  have cI : C w2.drew := by subst hC; exact HZ.out.below (bl_drew (Below.refl _ _))
  clear hC HZ k0 k1 k2 k3
  refine region_calm C (by kernel_rfl) (by kernel_rfl) cI ?_
  clear cI
  with_reducible refine wpQuiet_step (fun K hK => ?_)
  go_simp
  refine ⟨.agg #[.slice a1 2 c1, .slice b1 n1 d1], fun v hv => ?_, hK _ ?_⟩
  · simp [e0 v hv, e1 v hv]
  clear hK K
  with_reducible refine wpQuiet_step (fun K hK => ?_)
  go_simp
  refine ⟨.bool true, fun v hv => ?_, hK _ ?_⟩
  · exact calm_call cT hv (inRows_yes _ _ _ _ _ v)
  clear hK K
  with_reducible refine wpQuiet_step (fun K hK => ?_)
  go_simp
  refine ⟨_, fun v hv => rfl, hK _ ?_⟩
  clear hK K
  with_reducible refine wpQuiet_step (fun K hK => ?_)
  go_simp
  refine ⟨_, fun v hv => rfl, hK _ ?_⟩
  clear hK K
  with_reducible refine wpQuiet_step (fun K hK => ?_)
  go_simp
  refine ⟨.agg #[.slice a2 m2 c2, .slice b2 n2 d2], fun v hv => ?_, hK _ ?_⟩
  · simp [e2 v hv, e3 v hv]
  clear hK K
  with_reducible refine wpQuiet_step (fun K hK => ?_)
  go_simp
  refine ⟨.bool false, fun v hv => ?_, hK _ ?_⟩
  · exact calm_call cT hv (inRows_no _ _ _ _ _ _ v hm)
  clear hK K
  with_reducible refine wpQuiet_step (fun K hK => ?_)
  go_simp
  refine ⟨_, fun v hv => rfl, hK _ ?_⟩
  clear hK K
  with_reducible refine wpQuiet_step (fun K hK => ?_)
  go_simp
  refine ⟨_, fun v hv => rfl, hK _ ?_⟩
  clear hK K
  with_reducible refine wpQuiet_step (fun K hK => ?_)
  go_simp
  refine ⟨_, fun v hv => rfl, hK _ ?_⟩
  clear hK K
  with_reducible refine wpQuiet_step (fun K hK => ?_)
  go_simp
  refine hK _ ?_
  clear hK K
  with_reducible refine wpQuiet_step (fun K hK => ?_)
  go_simp
  refine hK _ ?_
  clear hK K
  with_reducible refine wpQuiet_step (fun K hK => ?_)
  go_simp
  refine hK _ ?_
  clear hK K
  with_reducible refine wpQuiet_step (fun K hK => ?_)
  go_simp
  refine hK _ ?_
  clear hK K
  with_reducible refine wpQuiet_step (fun K hK => ?_)
  go_simp
  refine hK _ ?_
  clear hK K
  with_reducible refine wpQuiet_step (fun K hK => ?_)
  go_simp
  refine hK _ ?_
  clear hK K
  with_reducible refine wpQuiet_step (fun K hK => ?_)
  go_simp
  refine hK _ ?_
  clear hK K
  with_reducible refine wpQuiet_step (fun K hK => ?_)
  go_simp
  refine hK _ ?_
  clear hK K
  with_reducible refine wpQuiet_step (fun K hK => ?_)
  go_simp
  refine hK _ ?_
  clear hK K
  with_reducible refine wpQuiet_step (fun K hK => ?_)
  go_simp
  refine ⟨_, fun v hv => rfl, hK _ ?_⟩
  clear hK K
  refine wpQuiet_nil ?_
  intro w3 C1
  have hZ := cZ.out _ C1
  have k0 := hZ.a0
  have k1 := hZ.a1
  have k2 := hZ.b0
  have k3 := hZ.b1
  have HZ : Hid _ := hZ
  clear hZ C1 cZ e0 e1 e2 e3 cB cT 
  have hx0 := HZ.out.bx.c0
  have hx1 := HZ.out.bx.c1
  have hx2 := HZ.out.bx.f0
  have hx3 := HZ.out.bx.f1
  go_wp2
  refine bodyPost_ret (v := noTensor 4) (by simp [results, Tryz.results14, go_sem, (two_set HZ.out.bx.c0 HZ.out.bx.c1 _ _).1, (two_set HZ.out.bx.c0 HZ.out.bx.c1 _ _).2]) rfl ⟨rfl, ?_⟩
  exact bl_set (bl_set HZ.out.bl (by simp <;> omega) _) (by simp <;> omega) _

set_option maxHeartbeats 4000000 in
theorem mat_n_no (p1 q1 n1 c1 d1 p2 q2 n2 c2 d2 p n r q : Nat) (b1 b2 : Option Addr) (w : World)
    (hR1 : ∀ v, Below w.heap.size w v → Calls Tryz.prog 29 #[.agg #[.slice (some ⟨p1, q1, none⟩) 2 c1, .slice b1 n1 d1]] v fun e w' => e = .returned (.bool true) ∧ Below v.heap.size v w')
    (hR2 : ∀ v, Below w.heap.size w v → Calls Tryz.prog 29 #[.agg #[.slice (some ⟨p2, q2, none⟩) 2 c2, .slice b2 n2 d2]] v fun e w' => e = .returned (.bool true) ∧ Below v.heap.size v w')
    (x0 : w.cell? ⟨p1, q1, none⟩ = some (.int .i64 (p : Int))) (x1 : w.cell? ⟨p1, q1 + 1, none⟩ = some (.int .i64 (n : Int))) (y0 : w.cell? ⟨p2, q2, none⟩ = some (.int .i64 (r : Int))) (y1 : w.cell? ⟨p2, q2 + 1, none⟩ = some (.int .i64 (q : Int))) (hne : ((n : Int) != (r : Int)) = true) :
    Calls Tryz.prog 14 #[.agg #[.slice (some ⟨p1, q1, none⟩) 2 c1, .slice b1 n1 d1], .agg #[.slice (some ⟨p2, q2, none⟩) 2 c2, .slice b2 n2 d2]] w fun e w' => e = .returned (noTensor 4) ∧ Below w.heap.size w w' := by
  have hZ : Zb w (((w.alloc (.cells #[.slice (some ⟨p1, q1, none⟩) 2 c1, .slice b1 n1 d1] 25)).alloc (.cells #[.slice (some ⟨p2, q2, none⟩) 2 c2, .slice b2 n2 d2] 25)).alloc (.cells #[.slice none 0 0, .slice none 0 0] 25)) (.slice (some ⟨p1, q1, none⟩) 2 c1) (.slice b1 n1 d1) (.slice (some ⟨p2, q2, none⟩) 2 c2) (.slice b2 n2 d2) := Zb.of (Below.refl _ _)
  have k0 := hZ.a0
  have k1 := hZ.a1
  have k2 := hZ.b0
  have k3 := hZ.b1
  have HZ : Hid _ := hZ
  clear hZ
  go_enter Tryz.func14, Tryz.ntmps14
  go_wp2_with fail
  refine (hR1 _ HZ.out.bl).mono ?_
  rintro e w1 ⟨rfl, hb⟩
  have hZ := HZ.out.below hb
  clear HZ k0 k1 k2 k3 hR1
  have k0 := hZ.a0
  have k1 := hZ.a1
  have k2 := hZ.b0
  have k3 := hZ.b1
  have HZ : Hid _ := hZ
  clear hb hZ
  go_wp2_with fail
  refine (hR2 _ HZ.out.bl).mono ?_
  rintro e w2 ⟨rfl, hb⟩
  have hZ := HZ.out.below hb
  clear HZ k0 k1 k2 k3 hR2
  have k0 := hZ.a0
  have k1 := hZ.a1
  have k2 := hZ.b0
  have k3 := hZ.b1
  have HZ : Hid _ := hZ
  clear hb hZ
  go_wp2_with fail
  obtain ⟨C, hC⟩ : ∃ C : World → Prop, C = fun v => Zb w v (.slice (some ⟨p1, q1, none⟩) 2 c1) (.slice b1 n1 d1) (.slice (some ⟨p2, q2, none⟩) 2 c2) (.slice b2 n2 d2) := ⟨_, rfl⟩
  have e0 : ∀ v, C v → v.cell? ⟨w.heap.size, 0, none⟩ = some (.slice (some ⟨p1, q1, none⟩) 2 c1) := fun v h => by subst hC; exact h.a0
  have e1 : ∀ v, C v → v.cell? ⟨w.heap.size, 1, none⟩ = some (.slice b1 n1 d1) := fun v h => by subst hC; exact h.a1
  have e2 : ∀ v, C v → v.cell? ⟨w.heap.size + 1, 0, none⟩ = some (.slice (some ⟨p2, q2, none⟩) 2 c2) := fun v h => by subst hC; exact h.b0
  have e3 : ∀ v, C v → v.cell? ⟨w.heap.size + 1, 1, none⟩ = some (.slice b2 n2 d2) := fun v h => by subst hC; exact h.b1
  have cB : ∀ v, C v → Below w.heap.size w v := fun v h => by subst hC; exact h.bl
  have cT : ∀ u v, C u → Below u.heap.size u v → C v := fun u v h k => by subst hC; exact h.below k
  have f1 : ∀ v, C v → v.cell? ⟨p1, q1 + 1, none⟩ = some (.int .i64 (n : Int)) := fun v h => cell_below (cB v h) x1
  have f2 : ∀ v, C v → v.cell? ⟨p2, q2, none⟩ = some (.int .i64 (r : Int)) := fun v h => cell_below (cB v h) y0
  have cZ : Hid (∀ v, C v → Zb w v (.slice (some ⟨p1, q1, none⟩) 2 c1) (.slice b1 n1 d1) (.slice (some ⟨p2, q2, none⟩) 2 c2) (.slice b2 n2 d2)) := fun v h => by subst hC; exact h
  have cI : C w2.drew := by subst hC; exact HZ.out.below (bl_drew (Below.refl _ _))
  clear hC HZ k0 k1 k2 k3
  refine region_calm C (by kernel_rfl) (by kernel_rfl) cI ?_
  clear cI
  with_reducible refine wpQuiet_step (fun K hK => ?_)
  go_simp
  refine ⟨.agg #[.slice (some ⟨p1, q1, none⟩) 2 c1, .slice b1 n1 d1], fun v hv => ?_, hK _ ?_⟩
  · simp [e0 v hv, e1 v hv]
  clear hK K
  with_reducible refine wpQuiet_step (fun K hK => ?_)
  go_simp
  refine ⟨.bool true, fun v hv => ?_, hK _ ?_⟩
  · exact calm_call cT hv (inRows_yes _ _ _ _ _ v)
  clear hK K
  with_reducible refine wpQuiet_step (fun K hK => ?_)
  go_simp
  refine ⟨_, fun v hv => rfl, hK _ ?_⟩
  clear hK K
  with_reducible refine wpQuiet_step (fun K hK => ?_)
  go_simp
  refine ⟨_, fun v hv => rfl, hK _ ?_⟩
  clear hK K
  with_reducible refine wpQuiet_step (fun K hK => ?_)
  go_simp
  refine ⟨.agg #[.slice (some ⟨p2, q2, none⟩) 2 c2, .slice b2 n2 d2], fun v hv => ?_, hK _ ?_⟩
  · simp [e2 v hv, e3 v hv]
  clear hK K
  with_reducible refine wpQuiet_step (fun K hK => ?_)
  go_simp
  refine ⟨.bool true, fun v hv => ?_, hK _ ?_⟩
  · exact calm_call cT hv (inRows_yes _ _ _ _ _ v)
  clear hK K
  with_reducible refine wpQuiet_step (fun K hK => ?_)
  go_simp
  refine ⟨_, fun v hv => rfl, hK _ ?_⟩
  clear hK K
  with_reducible refine wpQuiet_step (fun K hK => ?_)
  go_simp
  refine ⟨_, fun v hv => rfl, hK _ ?_⟩
  clear hK K
  with_reducible refine wpQuiet_step (fun K hK => ?_)
  go_simp
  refine ⟨_, fun v hv => rfl, hK _ ?_⟩
  clear hK K
  with_reducible refine wpQuiet_step (fun K hK => ?_)
  go_simp
  refine ⟨_, fun v hv => rfl, hK _ ?_⟩
  clear hK K
  with_reducible refine wpQuiet_step (fun K hK => ?_)
  go_simp
  refine ⟨.slice (some ⟨p1, q1, none⟩) 2 c1, fun v hv => ?_, hK _ ?_⟩
  · simp [e0 v hv]
  clear hK K
  with_reducible refine wpQuiet_step (fun K hK => ?_)
  go_simp
  refine ⟨_, fun v hv => rfl, hK _ ?_⟩
  clear hK K
  with_reducible refine wpQuiet_step (fun K hK => ?_)
  go_simp
  refine ⟨.int .i64 (n : Int), fun v hv => ?_, hK _ ?_⟩
  · simp [f1 v hv]
  clear hK K
  with_reducible refine wpQuiet_step (fun K hK => ?_)
  go_simp
  refine ⟨_, fun v hv => rfl, hK _ ?_⟩
  clear hK K
  with_reducible refine wpQuiet_step (fun K hK => ?_)
  go_simp
  refine ⟨.slice (some ⟨p2, q2, none⟩) 2 c2, fun v hv => ?_, hK _ ?_⟩
  · simp [e2 v hv]
  clear hK K
  with_reducible refine wpQuiet_step (fun K hK => ?_)
  go_simp
  refine ⟨_, fun v hv => rfl, hK _ ?_⟩
  clear hK K
  with_reducible refine wpQuiet_step (fun K hK => ?_)
  go_simp
  refine ⟨.int .i64 (r : Int), fun v hv => ?_, hK _ ?_⟩
  · simp [f2 v hv]
  clear hK K
  with_reducible refine wpQuiet_step (fun K hK => ?_)
  go_simp
  refine ⟨.bool true, fun v hv => ?_, hK _ ?_⟩
  · simp
  clear hK K
  with_reducible refine wpQuiet_step (fun K hK => ?_)
  go_simp
  refine ⟨_, fun v hv => rfl, hK _ ?_⟩
  clear hK K
  refine wpQuiet_nil ?_
  intro w3 C1
  have hZ := cZ.out _ C1
  have k0 := hZ.a0
  have k1 := hZ.a1
  have k2 := hZ.b0
  have k3 := hZ.b1
  have HZ : Hid _ := hZ
  clear hZ C1 cZ e0 e1 e2 e3 cB cT f1 f2
  have hx0 := HZ.out.bx.c0
  have hx1 := HZ.out.bx.c1
  have hx2 := HZ.out.bx.f0
  have hx3 := HZ.out.bx.f1
  go_wp2
  refine bodyPost_ret (v := noTensor 4) (by simp [results, Tryz.results14, go_sem, (two_set HZ.out.bx.c0 HZ.out.bx.c1 _ _).1, (two_set HZ.out.bx.c0 HZ.out.bx.c1 _ _).2]) rfl ⟨rfl, ?_⟩
  exact bl_set (bl_set HZ.out.bl (by simp <;> omega) _) (by simp <;> omega) _

set_option maxHeartbeats 4000000 in
theorem mat_s_no (p1 q1 n1 c1 d1 p2 q2 n2 c2 d2 p n r q : Nat) (b1 b2 : Option Addr) (w : World)
    (hR1 : ∀ v, Below w.heap.size w v → Calls Tryz.prog 29 #[.agg #[.slice (some ⟨p1, q1, none⟩) 2 c1, .slice b1 n1 d1]] v fun e w' => e = .returned (.bool true) ∧ Below v.heap.size v w')
    (hR2 : ∀ v, Below w.heap.size w v → Calls Tryz.prog 29 #[.agg #[.slice (some ⟨p2, q2, none⟩) 2 c2, .slice b2 n2 d2]] v fun e w' => e = .returned (.bool true) ∧ Below v.heap.size v w')
    (x0 : w.cell? ⟨p1, q1, none⟩ = some (.int .i64 (p : Int))) (x1 : w.cell? ⟨p1, q1 + 1, none⟩ = some (.int .i64 (n : Int))) (y0 : w.cell? ⟨p2, q2, none⟩ = some (.int .i64 (r : Int))) (y1 : w.cell? ⟨p2, q2 + 1, none⟩ = some (.int .i64 (q : Int))) (hne : ((n : Int) != (r : Int)) = false)
    (hS : ∀ v b, v.cell? ⟨b, 0, none⟩ = some (.int .i64 (p : Int)) → v.cell? ⟨b, 1, none⟩ = some (.int .i64 (q : Int)) → Calls Tryz.prog 31 #[.slice (some ⟨b, 0, none⟩) 2 2] v fun e w' => e = .returned (.bool false) ∧ w' = v) :
    Calls Tryz.prog 14 #[.agg #[.slice (some ⟨p1, q1, none⟩) 2 c1, .slice b1 n1 d1], .agg #[.slice (some ⟨p2, q2, none⟩) 2 c2, .slice b2 n2 d2]] w fun e w' => e = .returned (noTensor 4) ∧ Below w.heap.size w w' := by
  have hZ : Zb w (((w.alloc (.cells #[.slice (some ⟨p1, q1, none⟩) 2 c1, .slice b1 n1 d1] 25)).alloc (.cells #[.slice (some ⟨p2, q2, none⟩) 2 c2, .slice b2 n2 d2] 25)).alloc (.cells #[.slice none 0 0, .slice none 0 0] 25)) (.slice (some ⟨p1, q1, none⟩) 2 c1) (.slice b1 n1 d1) (.slice (some ⟨p2, q2, none⟩) 2 c2) (.slice b2 n2 d2) := Zb.of (Below.refl _ _)
  have k0 := hZ.a0
  have k1 := hZ.a1
  have k2 := hZ.b0
  have k3 := hZ.b1
  have HZ : Hid _ := hZ
  clear hZ
  go_enter Tryz.func14, Tryz.ntmps14
  go_wp2_with fail
  refine (hR1 _ HZ.out.bl).mono ?_
  rintro e w1 ⟨rfl, hb⟩
  have hZ := HZ.out.below hb
  clear HZ k0 k1 k2 k3 hR1
  have k0 := hZ.a0
  have k1 := hZ.a1
  have k2 := hZ.b0
  have k3 := hZ.b1
  have HZ : Hid _ := hZ
  clear hb hZ
  go_wp2_with fail
  refine (hR2 _ HZ.out.bl).mono ?_
  rintro e w2 ⟨rfl, hb⟩
  have hZ := HZ.out.below hb
  clear HZ k0 k1 k2 k3 hR2
  have k0 := hZ.a0
  have k1 := hZ.a1
  have k2 := hZ.b0
  have k3 := hZ.b1
  have HZ : Hid _ := hZ
  clear hb hZ
  go_wp2_with fail
  obtain ⟨C, hC⟩ : ∃ C : World → Prop, C = fun v => Zb w v (.slice (some ⟨p1, q1, none⟩) 2 c1) (.slice b1 n1 d1) (.slice (some ⟨p2, q2, none⟩) 2 c2) (.slice b2 n2 d2) := ⟨_, rfl⟩
  have e0 : ∀ v, C v → v.cell? ⟨w.heap.size, 0, none⟩ = some (.slice (some ⟨p1, q1, none⟩) 2 c1) := fun v h => by subst hC; exact h.a0
  have e1 : ∀ v, C v → v.cell? ⟨w.heap.size, 1, none⟩ = some (.slice b1 n1 d1) := fun v h => by subst hC; exact h.a1
  have e2 : ∀ v, C v → v.cell? ⟨w.heap.size + 1, 0, none⟩ = some (.slice (some ⟨p2, q2, none⟩) 2 c2) := fun v h => by subst hC; exact h.b0
  have e3 : ∀ v, C v → v.cell? ⟨w.heap.size + 1, 1, none⟩ = some (.slice b2 n2 d2) := fun v h => by subst hC; exact h.b1
  have cB : ∀ v, C v → Below w.heap.size w v := fun v h => by subst hC; exact h.bl
  have cT : ∀ u v, C u → Below u.heap.size u v → C v := fun u v h k => by subst hC; exact h.below k
  have f1 : ∀ v, C v → v.cell? ⟨p1, q1 + 1, none⟩ = some (.int .i64 (n : Int)) := fun v h => cell_below (cB v h) x1
  have f2 : ∀ v, C v → v.cell? ⟨p2, q2, none⟩ = some (.int .i64 (r : Int)) := fun v h => cell_below (cB v h) y0
  have cZ : Hid (∀ v, C v → Zb w v (.slice (some ⟨p1, q1, none⟩) 2 c1) (.slice b1 n1 d1) (.slice (some ⟨p2, q2, none⟩) 2 c2) (.slice b2 n2 d2)) := fun v h => by subst hC; exact h
  have cI : C w2.drew := by subst hC; exact HZ.out.below (bl_drew (Below.refl _ _))
  clear hC HZ k0 k1 k2 k3
  refine region_calm C (by kernel_rfl) (by kernel_rfl) cI ?_
  clear cI
  with_reducible refine wpQuiet_step (fun K hK => ?_)
  go_simp
  refine ⟨.agg #[.slice (some ⟨p1, q1, none⟩) 2 c1, .slice b1 n1 d1], fun v hv => ?_, hK _ ?_⟩
  · simp [e0 v hv, e1 v hv]
  clear hK K
  with_reducible refine wpQuiet_step (fun K hK => ?_)
  go_simp
  refine ⟨.bool true, fun v hv => ?_, hK _ ?_⟩
  · exact calm_call cT hv (inRows_yes _ _ _ _ _ v)
  clear hK K
  with_reducible refine wpQuiet_step (fun K hK => ?_)
  go_simp
  refine ⟨_, fun v hv => rfl, hK _ ?_⟩
  clear hK K
  with_reducible refine wpQuiet_step (fun K hK => ?_)
  go_simp
  refine ⟨_, fun v hv => rfl, hK _ ?_⟩
  clear hK K
  with_reducible refine wpQuiet_step (fun K hK => ?_)
  go_simp
  refine ⟨.agg #[.slice (some ⟨p2, q2, none⟩) 2 c2, .slice b2 n2 d2], fun v hv => ?_, hK _ ?_⟩
  · simp [e2 v hv, e3 v hv]
  clear hK K
  with_reducible refine wpQuiet_step (fun K hK => ?_)
  go_simp
  refine ⟨.bool true, fun v hv => ?_, hK _ ?_⟩
  · exact calm_call cT hv (inRows_yes _ _ _ _ _ v)
  clear hK K
  with_reducible refine wpQuiet_step (fun K hK => ?_)
  go_simp
  refine ⟨_, fun v hv => rfl, hK _ ?_⟩
  clear hK K
  with_reducible refine wpQuiet_step (fun K hK => ?_)
  go_simp
  refine ⟨_, fun v hv => rfl, hK _ ?_⟩
  clear hK K
  with_reducible refine wpQuiet_step (fun K hK => ?_)
  go_simp
  refine ⟨_, fun v hv => rfl, hK _ ?_⟩
  clear hK K
  with_reducible refine wpQuiet_step (fun K hK => ?_)
  go_simp
  refine ⟨_, fun v hv => rfl, hK _ ?_⟩
  clear hK K
  with_reducible refine wpQuiet_step (fun K hK => ?_)
  go_simp
  refine ⟨.slice (some ⟨p1, q1, none⟩) 2 c1, fun v hv => ?_, hK _ ?_⟩
  · simp [e0 v hv]
  clear hK K
  with_reducible refine wpQuiet_step (fun K hK => ?_)
  go_simp
  refine ⟨_, fun v hv => rfl, hK _ ?_⟩
  clear hK K
  with_reducible refine wpQuiet_step (fun K hK => ?_)
  go_simp
  refine ⟨.int .i64 (n : Int), fun v hv => ?_, hK _ ?_⟩
  · simp [f1 v hv]
  clear hK K
  with_reducible refine wpQuiet_step (fun K hK => ?_)
  go_simp
  refine ⟨_, fun v hv => rfl, hK _ ?_⟩
  clear hK K
  with_reducible refine wpQuiet_step (fun K hK => ?_)
  go_simp
  refine ⟨.slice (some ⟨p2, q2, none⟩) 2 c2, fun v hv => ?_, hK _ ?_⟩
  · simp [e2 v hv]
  clear hK K
  with_reducible refine wpQuiet_step (fun K hK => ?_)
  go_simp
  refine ⟨_, fun v hv => rfl, hK _ ?_⟩
  clear hK K
  with_reducible refine wpQuiet_step (fun K hK => ?_)
  go_simp
  refine ⟨.int .i64 (r : Int), fun v hv => ?_, hK _ ?_⟩
  · simp [f2 v hv]
  clear hK K
  with_reducible refine wpQuiet_step (fun K hK => ?_)
  go_simp
  refine ⟨.bool false, fun v hv => ?_, hK _ ?_⟩
  · simp
  clear hK K
  with_reducible refine wpQuiet_step (fun K hK => ?_)
  go_simp
  refine ⟨_, fun v hv => rfl, hK _ ?_⟩
  clear hK K
  refine wpQuiet_nil ?_
  intro w3 C1
  have hZ := cZ.out _ C1
  have k0 := hZ.a0
  have k1 := hZ.a1
  have k2 := hZ.b0
  have k3 := hZ.b1
  have HZ : Hid _ := hZ
  clear hZ C1 cZ e0 e1 e2 e3 cB cT f1 f2
  have l0 := cell_below HZ.out.bl x0
  have l1 := cell_below HZ.out.bl y1
  go_wp2_with fail
  go_region
  go_wp2_with fail
  have hb4 : Below w3.heap.size w3 (w3.alloc (.cells #[.int .i64 (p : Int), .int .i64 (q : Int)] 3)).drew := bl_drew (bl_alloc (Below.refl _ _) _)
  have g0 : ((w3.alloc (.cells #[.int .i64 (p : Int), .int .i64 (q : Int)] 3)).drew).cell? ⟨w3.heap.size, 0, none⟩ = some (.int .i64 (p : Int)) := by simp
  have g1 : ((w3.alloc (.cells #[.int .i64 (p : Int), .int .i64 (q : Int)] 3)).drew).cell? ⟨w3.heap.size, 1, none⟩ = some (.int .i64 (q : Int)) := by simp
  have hlt := HZ.out.bx.lt
  have hZ := HZ.out.below hb4
  generalize (w3.alloc (.cells #[.int .i64 (p : Int), .int .i64 (q : Int)] 3)).drew = w9 at hb4 g0 g1 hZ ⊢
  have HL : Hid _ := hlt
  clear HZ k0 k1 k2 k3 hlt hb4
  have k0 := hZ.a0
  have k1 := hZ.a1
  have k2 := hZ.b0
  have k3 := hZ.b1
  have HZ : Hid _ := hZ
  clear hZ
  refine (hS w9 w3.heap.size g0 g1).mono ?_
  rintro e w10 ⟨rfl, rfl⟩
  clear hS g0 g1 HL
  have hx0 := HZ.out.bx.c0
  have hx1 := HZ.out.bx.c1
  have hx2 := HZ.out.bx.f0
  have hx3 := HZ.out.bx.f1
  go_wp2
  refine bodyPost_ret (v := noTensor 4) (by simp [results, Tryz.results14, go_sem, (two_set HZ.out.bx.c0 HZ.out.bx.c1 _ _).1, (two_set HZ.out.bx.c0 HZ.out.bx.c1 _ _).2]) rfl ⟨rfl, ?_⟩
  exact bl_set (bl_set HZ.out.bl (by simp <;> omega) _) (by simp <;> omega) _

set_option maxHeartbeats 4000000 in
theorem mat_yes (p1 q1 n1 c1 d1 p2 q2 n2 c2 d2 p n r q N : Nat) (b1 b2 : Option Addr) (xs : List ByteArray) (w : World)
    (hR1 : ∀ v, Below w.heap.size w v → Calls Tryz.prog 29 #[.agg #[.slice (some ⟨p1, q1, none⟩) 2 c1, .slice b1 n1 d1]] v fun e w' => e = .returned (.bool true) ∧ Below v.heap.size v w')
    (hR2 : ∀ v, Below w.heap.size w v → Calls Tryz.prog 29 #[.agg #[.slice (some ⟨p2, q2, none⟩) 2 c2, .slice b2 n2 d2]] v fun e w' => e = .returned (.bool true) ∧ Below v.heap.size v w')
    (x0 : w.cell? ⟨p1, q1, none⟩ = some (.int .i64 (p : Int))) (x1 : w.cell? ⟨p1, q1 + 1, none⟩ = some (.int .i64 (n : Int))) (y0 : w.cell? ⟨p2, q2, none⟩ = some (.int .i64 (r : Int))) (y1 : w.cell? ⟨p2, q2 + 1, none⟩ = some (.int .i64 (q : Int))) (hne : ((n : Int) != (r : Int)) = false)
    (hS : ∀ v b, v.cell? ⟨b, 0, none⟩ = some (.int .i64 (p : Int)) → v.cell? ⟨b, 1, none⟩ = some (.int .i64 (q : Int)) → Calls Tryz.prog 31 #[.slice (some ⟨b, 0, none⟩) 2 2] v fun e w' => e = .returned (.bool true) ∧ w' = v)
    (hM : ∀ v b, Zb w v (.slice (some ⟨p1, q1, none⟩) 2 c1) (.slice b1 n1 d1) (.slice (some ⟨p2, q2, none⟩) 2 c2) (.slice b2 n2 d2) → v.cell? ⟨b, 0, none⟩ = some (.int .i64 (p : Int)) → v.cell? ⟨b, 1, none⟩ = some (.int .i64 (q : Int)) →
      Calls Tryz.prog 32 #[.slice (some ⟨b, 0, none⟩) 2 2, .func (.func 33) #[] #[.pointer (some ⟨w.heap.size, 0, none⟩), .pointer (some ⟨w.heap.size + 1, 0, none⟩)]] v fun e v' => ∃ b3 d3, e = .returned (.agg #[.slice (some ⟨b, 0, none⟩) 2 2, .slice b3 N d3]) ∧ Row v' b3 (txts xs) ∧ Fresh v.heap.size b3 ∧ Below v.heap.size v v') :
    Calls Tryz.prog 14 #[.agg #[.slice (some ⟨p1, q1, none⟩) 2 c1, .slice b1 n1 d1], .agg #[.slice (some ⟨p2, q2, none⟩) 2 c2, .slice b2 n2 d2]] w fun e w' => ∃ a3 c3 b3 d3, e = .returned (.tuple #[.agg #[.slice a3 2 c3, .slice b3 N d3], .int .i64 0]) ∧ Tm w' w.heap.size a3 b3 [(p : Int), (q : Int)] xs ∧ Below w.heap.size w w' := by
  have hZ : Zb w (((w.alloc (.cells #[.slice (some ⟨p1, q1, none⟩) 2 c1, .slice b1 n1 d1] 25)).alloc (.cells #[.slice (some ⟨p2, q2, none⟩) 2 c2, .slice b2 n2 d2] 25)).alloc (.cells #[.slice none 0 0, .slice none 0 0] 25)) (.slice (some ⟨p1, q1, none⟩) 2 c1) (.slice b1 n1 d1) (.slice (some ⟨p2, q2, none⟩) 2 c2) (.slice b2 n2 d2) := Zb.of (Below.refl _ _)
  have k0 := hZ.a0
  have k1 := hZ.a1
  have k2 := hZ.b0
  have k3 := hZ.b1
  have HZ : Hid _ := hZ
  clear hZ
  go_enter Tryz.func14, Tryz.ntmps14
  go_wp2_with fail
  refine (hR1 _ HZ.out.bl).mono ?_
  rintro e w1 ⟨rfl, hb⟩
  have hZ := HZ.out.below hb
  clear HZ k0 k1 k2 k3 hR1
  have k0 := hZ.a0
  have k1 := hZ.a1
  have k2 := hZ.b0
  have k3 := hZ.b1
  have HZ : Hid _ := hZ
  clear hb hZ
  go_wp2_with fail
  refine (hR2 _ HZ.out.bl).mono ?_
  rintro e w2 ⟨rfl, hb⟩
  have hZ := HZ.out.below hb
  clear HZ k0 k1 k2 k3 hR2
  have k0 := hZ.a0
  have k1 := hZ.a1
  have k2 := hZ.b0
  have k3 := hZ.b1
  have HZ : Hid _ := hZ
  clear hb hZ
  go_wp2_with fail
  obtain ⟨C, hC⟩ : ∃ C : World → Prop, C = fun v => Zb w v (.slice (some ⟨p1, q1, none⟩) 2 c1) (.slice b1 n1 d1) (.slice (some ⟨p2, q2, none⟩) 2 c2) (.slice b2 n2 d2) := ⟨_, rfl⟩
  have e0 : ∀ v, C v → v.cell? ⟨w.heap.size, 0, none⟩ = some (.slice (some ⟨p1, q1, none⟩) 2 c1) := fun v h => by subst hC; exact h.a0
  have e1 : ∀ v, C v → v.cell? ⟨w.heap.size, 1, none⟩ = some (.slice b1 n1 d1) := fun v h => by subst hC; exact h.a1
  have e2 : ∀ v, C v → v.cell? ⟨w.heap.size + 1, 0, none⟩ = some (.slice (some ⟨p2, q2, none⟩) 2 c2) := fun v h => by subst hC; exact h.b0
  have e3 : ∀ v, C v → v.cell? ⟨w.heap.size + 1, 1, none⟩ = some (.slice b2 n2 d2) := fun v h => by subst hC; exact h.b1
  have cB : ∀ v, C v → Below w.heap.size w v := fun v h => by subst hC; exact h.bl
  have cT : ∀ u v, C u → Below u.heap.size u v → C v := fun u v h k => by subst hC; exact h.below k
  have f1 : ∀ v, C v → v.cell? ⟨p1, q1 + 1, none⟩ = some (.int .i64 (n : Int)) := fun v h => cell_below (cB v h) x1
  have f2 : ∀ v, C v → v.cell? ⟨p2, q2, none⟩ = some (.int .i64 (r : Int)) := fun v h => cell_below (cB v h) y0
  have cZ : Hid (∀ v, C v → Zb w v (.slice (some ⟨p1, q1, none⟩) 2 c1) (.slice b1 n1 d1) (.slice (some ⟨p2, q2, none⟩) 2 c2) (.slice b2 n2 d2)) := fun v h => by subst hC; exact h
  have cI : C w2.drew := by subst hC; exact HZ.out.below (bl_drew (Below.refl _ _))
  clear hC HZ k0 k1 k2 k3
  refine region_calm C (by kernel_rfl) (by kernel_rfl) cI ?_
  clear cI
  with_reducible refine wpQuiet_step (fun K hK => ?_)
  go_simp
  refine ⟨.agg #[.slice (some ⟨p1, q1, none⟩) 2 c1, .slice b1 n1 d1], fun v hv => ?_, hK _ ?_⟩
  · simp [e0 v hv, e1 v hv]
  clear hK K
  with_reducible refine wpQuiet_step (fun K hK => ?_)
  go_simp
  refine ⟨.bool true, fun v hv => ?_, hK _ ?_⟩
  · exact calm_call cT hv (inRows_yes _ _ _ _ _ v)
  clear hK K
  with_reducible refine wpQuiet_step (fun K hK => ?_)
  go_simp
  refine ⟨_, fun v hv => rfl, hK _ ?_⟩
  clear hK K
  with_reducible refine wpQuiet_step (fun K hK => ?_)
  go_simp
  refine ⟨_, fun v hv => rfl, hK _ ?_⟩
  clear hK K
  with_reducible refine wpQuiet_step (fun K hK => ?_)
  go_simp
  refine ⟨.agg #[.slice (some ⟨p2, q2, none⟩) 2 c2, .slice b2 n2 d2], fun v hv => ?_, hK _ ?_⟩
  · simp [e2 v hv, e3 v hv]
  clear hK K
  with_reducible refine wpQuiet_step (fun K hK => ?_)
  go_simp
  refine ⟨.bool true, fun v hv => ?_, hK _ ?_⟩
  · exact calm_call cT hv (inRows_yes _ _ _ _ _ v)
  clear hK K
  with_reducible refine wpQuiet_step (fun K hK => ?_)
  go_simp
  refine ⟨_, fun v hv => rfl, hK _ ?_⟩
  clear hK K
  with_reducible refine wpQuiet_step (fun K hK => ?_)
  go_simp
  refine ⟨_, fun v hv => rfl, hK _ ?_⟩
  clear hK K
  with_reducible refine wpQuiet_step (fun K hK => ?_)
  go_simp
  refine ⟨_, fun v hv => rfl, hK _ ?_⟩
  clear hK K
  with_reducible refine wpQuiet_step (fun K hK => ?_)
  go_simp
  refine ⟨_, fun v hv => rfl, hK _ ?_⟩
  clear hK K
  with_reducible refine wpQuiet_step (fun K hK => ?_)
  go_simp
  refine ⟨.slice (some ⟨p1, q1, none⟩) 2 c1, fun v hv => ?_, hK _ ?_⟩
  · simp [e0 v hv]
  clear hK K
  with_reducible refine wpQuiet_step (fun K hK => ?_)
  go_simp
  refine ⟨_, fun v hv => rfl, hK _ ?_⟩
  clear hK K
  with_reducible refine wpQuiet_step (fun K hK => ?_)
  go_simp
  refine ⟨.int .i64 (n : Int), fun v hv => ?_, hK _ ?_⟩
  · simp [f1 v hv]
  clear hK K
  with_reducible refine wpQuiet_step (fun K hK => ?_)
  go_simp
  refine ⟨_, fun v hv => rfl, hK _ ?_⟩
  clear hK K
  with_reducible refine wpQuiet_step (fun K hK => ?_)
  go_simp
  refine ⟨.slice (some ⟨p2, q2, none⟩) 2 c2, fun v hv => ?_, hK _ ?_⟩
  · simp [e2 v hv]
  clear hK K
  with_reducible refine wpQuiet_step (fun K hK => ?_)
  go_simp
  refine ⟨_, fun v hv => rfl, hK _ ?_⟩
  clear hK K
  with_reducible refine wpQuiet_step (fun K hK => ?_)
  go_simp
  refine ⟨.int .i64 (r : Int), fun v hv => ?_, hK _ ?_⟩
  · simp [f2 v hv]
  clear hK K
  with_reducible refine wpQuiet_step (fun K hK => ?_)
  go_simp
  refine ⟨.bool false, fun v hv => ?_, hK _ ?_⟩
  · simp
  clear hK K
  with_reducible refine wpQuiet_step (fun K hK => ?_)
  go_simp
  refine ⟨_, fun v hv => rfl, hK _ ?_⟩
  clear hK K
  refine wpQuiet_nil ?_
  intro w3 C1
  have hZ := cZ.out _ C1
  have k0 := hZ.a0
  have k1 := hZ.a1
  have k2 := hZ.b0
  have k3 := hZ.b1
  have HZ : Hid _ := hZ
  clear hZ C1 cZ e0 e1 e2 e3 cB cT f1 f2
  have l0 := cell_below HZ.out.bl x0
  have l1 := cell_below HZ.out.bl y1
  go_wp2_with fail
  go_region
  go_wp2_with fail
  have hb4 : Below w3.heap.size w3 (w3.alloc (.cells #[.int .i64 (p : Int), .int .i64 (q : Int)] 3)).drew := bl_drew (bl_alloc (Below.refl _ _) _)
  have g0 : ((w3.alloc (.cells #[.int .i64 (p : Int), .int .i64 (q : Int)] 3)).drew).cell? ⟨w3.heap.size, 0, none⟩ = some (.int .i64 (p : Int)) := by simp
  have g1 : ((w3.alloc (.cells #[.int .i64 (p : Int), .int .i64 (q : Int)] 3)).drew).cell? ⟨w3.heap.size, 1, none⟩ = some (.int .i64 (q : Int)) := by simp
  have hlt := HZ.out.bx.lt
  have hZ := HZ.out.below hb4
  generalize (w3.alloc (.cells #[.int .i64 (p : Int), .int .i64 (q : Int)] 3)).drew = w9 at hb4 g0 g1 hZ ⊢
  have HL : Hid _ := hlt
  clear HZ k0 k1 k2 k3 hlt hb4
  have k0 := hZ.a0
  have k1 := hZ.a1
  have k2 := hZ.b0
  have k3 := hZ.b1
  have HZ : Hid _ := hZ
  clear hZ
  refine (hS w9 w3.heap.size g0 g1).mono ?_
  rintro e w11 ⟨rfl, rfl⟩
  clear hS
  go_wp2_with fail
  refine (hM w11 w3.heap.size HZ.out g0 g1).mono ?_
  rintro e w10 ⟨b3, d3, rfl, hr, hf, hb⟩
  have hZ := HZ.out.below hb
  have HT : Hid (Tm w10 (w.heap.size + 1 + 1 + 1) (some ⟨w3.heap.size, 0, none⟩) b3 [(p : Int), (q : Int)] xs) := ⟨row_sl (Row.two (cell_below hb g0) (cell_below hb g1)), hr, fun b off sp e => by cases e; have := HL.out; omega, fun b off sp e => by have := hf b off sp e; have := HZ.out.bx.lt; omega⟩
  clear HZ k0 k1 k2 k3 hb hr hf hM g0 g1 HL
  have k0 := hZ.a0
  have k1 := hZ.a1
  have k2 := hZ.b0
  have k3 := hZ.b1
  have HZ : Hid _ := hZ
  have hx0 := hZ.bx.c0
  have hx1 := hZ.bx.c1
  have hx2 := hZ.bx.f0
  have hx3 := hZ.bx.f1
  clear hZ
  go_wp2
  refine bodyPost_ret (v := .tuple #[.agg #[.slice (some ⟨w3.heap.size, 0, none⟩) 2 2, .slice b3 N d3], .int .i64 0]) (by simp [results, Tryz.results14, go_sem, (two_set HZ.out.bx.c0 HZ.out.bx.c1 _ _).1, (two_set HZ.out.bx.c0 HZ.out.bx.c1 _ _).2]) rfl ⟨some ⟨w3.heap.size, 0, none⟩, 2, b3, d3, rfl, ?_, ?_⟩
  · exact ((HT.out.set (by simp) _).set (by simp) _).mono (by omega)
  · exact bl_set (bl_set HZ.out.bl (by simp <;> omega) _) (by simp <;> omega) _

/-- own blocks: a tensor, and the answer's place -/
structure Tb (w v : World) (x1 x2 : Value) : Prop where
  a0 : v.cell? ⟨w.heap.size, 0, none⟩ = some x1
  a1 : v.cell? ⟨w.heap.size, 1, none⟩ = some x2
  bx : Bx v (w.heap.size + 1)
  bl : Below w.heap.size w v
theorem Tb.of {w v : World} {x1 x2 : Value} (h : Below ((w.alloc (.cells #[x1, x2] 25)).alloc (.cells #[.slice none 0 0, .slice none 0 0] 25)).heap.size ((w.alloc (.cells #[x1, x2] 25)).alloc (.cells #[.slice none 0 0, .slice none 0 0] 25)) v) : Tb w v x1 x2 := by
  have k := own2 h
  exact ⟨k.1 0, k.1 1, ⟨k.2.1 0, k.2.1 1, k.2.2.2.1 0, k.2.2.2.1 1⟩, k.2.2.2.2⟩
theorem Tb.below {w v u : World} {x1 x2 : Value} (h : Tb w v x1 x2) (k : Below v.heap.size v u) : Tb w u x1 x2 :=
  ⟨cell_below k h.a0, cell_below k h.a1, h.bx.below k, bl_trans h.bl k⟩

set_option maxHeartbeats 4000000 in
theorem tra_a_no (m1 n1 c1 d1 : Nat) (a1 b1 : Option Addr) (w : World)
    (hR1 : ∀ v, Below w.heap.size w v → Calls Tryz.prog 29 #[.agg #[.slice a1 m1 c1, .slice b1 n1 d1]] v fun e w' => e = .returned (.bool false) ∧ Below v.heap.size v w') :
    Calls Tryz.prog 15 #[.agg #[.slice a1 m1 c1, .slice b1 n1 d1]] w fun e w' => e = .returned (noTensor 1) ∧ Below w.heap.size w w' := by
  have hZ : Tb w ((w.alloc (.cells #[.slice a1 m1 c1, .slice b1 n1 d1] 25)).alloc (.cells #[.slice none 0 0, .slice none 0 0] 25)) (.slice a1 m1 c1) (.slice b1 n1 d1) := Tb.of (Below.refl _ _)
  have k0 := hZ.a0
  have k1 := hZ.a1
  have HZ : Hid _ := hZ
  clear hZ
  go_enter Tryz.func15, Tryz.ntmps15
  go_wp2_with fail
  refine (hR1 _ HZ.out.bl).mono ?_
  rintro e w1 ⟨rfl, hb⟩
  have hZ := HZ.out.below hb
  clear HZ k0 k1 hR1
  have k0 := hZ.a0
  have k1 := hZ.a1
  have HZ : Hid _ := hZ
  clear hb hZ
  have hx0 := HZ.out.bx.c0
  have hx1 := HZ.out.bx.c1
  have hx2 := HZ.out.bx.f0
  have hx3 := HZ.out.bx.f1
  go_wp2
  refine bodyPost_ret (v := noTensor 1) (by simp [results, Tryz.results15, go_sem, (two_set HZ.out.bx.c0 HZ.out.bx.c1 _ _).1, (two_set HZ.out.bx.c0 HZ.out.bx.c1 _ _).2]) rfl ⟨rfl, ?_⟩
  exact bl_set (bl_set HZ.out.bl (by simp <;> omega) _) (by simp <;> omega) _

set_option maxHeartbeats 4000000 in
theorem tra_r_no (m1 n1 c1 d1 : Nat) (a1 b1 : Option Addr) (w : World)
    (hR1 : ∀ v, Below w.heap.size w v → Calls Tryz.prog 29 #[.agg #[.slice a1 m1 c1, .slice b1 n1 d1]] v fun e w' => e = .returned (.bool true) ∧ Below v.heap.size v w') (hm : ((m1 : Int) == 2) = false) :
    Calls Tryz.prog 15 #[.agg #[.slice a1 m1 c1, .slice b1 n1 d1]] w fun e w' => e = .returned (noTensor 4) ∧ Below w.heap.size w w' := by
  have hZ : Tb w ((w.alloc (.cells #[.slice a1 m1 c1, .slice b1 n1 d1] 25)).alloc (.cells #[.slice none 0 0, .slice none 0 0] 25)) (.slice a1 m1 c1) (.slice b1 n1 d1) := Tb.of (Below.refl _ _)
  have k0 := hZ.a0
  have k1 := hZ.a1
  have HZ : Hid _ := hZ
  clear hZ
  go_enter Tryz.func15, Tryz.ntmps15
  go_wp2_with fail
  refine (hR1 _ HZ.out.bl).mono ?_
  rintro e w1 ⟨rfl, hb⟩
  have hZ := HZ.out.below hb
  clear HZ k0 k1 hR1
  have k0 := hZ.a0
  have k1 := hZ.a1
  have HZ : Hid _ := hZ
  clear hb hZ
  go_wp2_with fail
  refine (inRows_no _ _ _ _ _ _ _ hm).mono ?_
  rintro e w2 ⟨rfl, hb⟩
  have hZ := HZ.out.below hb
  clear HZ k0 k1
  have k0 := hZ.a0
  have k1 := hZ.a1
  have HZ : Hid _ := hZ
  clear hb hZ
  have hx0 := HZ.out.bx.c0
  have hx1 := HZ.out.bx.c1
  have hx2 := HZ.out.bx.f0
  have hx3 := HZ.out.bx.f1
  go_wp2
  refine bodyPost_ret (v := noTensor 4) (by simp [results, Tryz.results15, go_sem, (two_set HZ.out.bx.c0 HZ.out.bx.c1 _ _).1, (two_set HZ.out.bx.c0 HZ.out.bx.c1 _ _).2]) rfl ⟨rfl, ?_⟩
  exact bl_set (bl_set HZ.out.bl (by simp <;> omega) _) (by simp <;> omega) _

set_option maxHeartbeats 4000000 in
theorem tra_yes (p1 q1 n1 c1 d1 p q N : Nat) (b1 : Option Addr) (xs : List ByteArray) (w : World)
    (hR1 : ∀ v, Below w.heap.size w v → Calls Tryz.prog 29 #[.agg #[.slice (some ⟨p1, q1, none⟩) 2 c1, .slice b1 n1 d1]] v fun e w' => e = .returned (.bool true) ∧ Below v.heap.size v w')
    (x0 : w.cell? ⟨p1, q1, none⟩ = some (.int .i64 (p : Int))) (x1 : w.cell? ⟨p1, q1 + 1, none⟩ = some (.int .i64 (q : Int)))
    (hM : ∀ v b, Tb w v (.slice (some ⟨p1, q1, none⟩) 2 c1) (.slice b1 n1 d1) → v.cell? ⟨b, 0, none⟩ = some (.int .i64 (q : Int)) → v.cell? ⟨b, 1, none⟩ = some (.int .i64 (p : Int)) →
      Calls Tryz.prog 32 #[.slice (some ⟨b, 0, none⟩) 2 2, .func (.func 35) #[] #[.pointer (some ⟨w.heap.size, 0, none⟩)]] v fun e v' => ∃ b3 d3, e = .returned (.agg #[.slice (some ⟨b, 0, none⟩) 2 2, .slice b3 N d3]) ∧ Row v' b3 (txts xs) ∧ Fresh v.heap.size b3 ∧ Below v.heap.size v v') :
    Calls Tryz.prog 15 #[.agg #[.slice (some ⟨p1, q1, none⟩) 2 c1, .slice b1 n1 d1]] w fun e w' => ∃ a3 c3 b3 d3, e = .returned (.tuple #[.agg #[.slice a3 2 c3, .slice b3 N d3], .int .i64 0]) ∧ Tm w' w.heap.size a3 b3 [(q : Int), (p : Int)] xs ∧ Below w.heap.size w w' := by
  have hZ : Tb w ((w.alloc (.cells #[.slice (some ⟨p1, q1, none⟩) 2 c1, .slice b1 n1 d1] 25)).alloc (.cells #[.slice none 0 0, .slice none 0 0] 25)) (.slice (some ⟨p1, q1, none⟩) 2 c1) (.slice b1 n1 d1) := Tb.of (Below.refl _ _)
  have k0 := hZ.a0
  have k1 := hZ.a1
  have HZ : Hid _ := hZ
  clear hZ
  go_enter Tryz.func15, Tryz.ntmps15
  go_wp2_with fail
  refine (hR1 _ HZ.out.bl).mono ?_
  rintro e w1 ⟨rfl, hb⟩
  have hZ := HZ.out.below hb
  clear HZ k0 k1 hR1
  have k0 := hZ.a0
  have k1 := hZ.a1
  have HZ : Hid _ := hZ
  clear hb hZ
  go_wp2_with fail
  refine (inRows_yes _ _ _ _ _ _).mono ?_
  rintro e w2 ⟨rfl, hb⟩
  have hZ := HZ.out.below hb
  clear HZ k0 k1
  have k0 := hZ.a0
  have k1 := hZ.a1
  have HZ : Hid _ := hZ
  clear hb hZ
  have l0 := cell_below HZ.out.bl x0
  have l1 := cell_below HZ.out.bl x1
  go_wp2_with fail
  go_region
  go_wp2_with fail
  have hb4 : Below w2.heap.size w2 (w2.alloc (.cells #[.int .i64 (q : Int), .int .i64 (p : Int)] 3)).drew := bl_drew (bl_alloc (Below.refl _ _) _)
  have g0 : ((w2.alloc (.cells #[.int .i64 (q : Int), .int .i64 (p : Int)] 3)).drew).cell? ⟨w2.heap.size, 0, none⟩ = some (.int .i64 (q : Int)) := by simp
  have g1 : ((w2.alloc (.cells #[.int .i64 (q : Int), .int .i64 (p : Int)] 3)).drew).cell? ⟨w2.heap.size, 1, none⟩ = some (.int .i64 (p : Int)) := by simp
  have hlt := HZ.out.bx.lt
  have hZ := HZ.out.below hb4
  generalize (w2.alloc (.cells #[.int .i64 (q : Int), .int .i64 (p : Int)] 3)).drew = w9 at hb4 g0 g1 hZ ⊢
  have HL : Hid _ := hlt
  clear HZ k0 k1 hlt hb4
  have k0 := hZ.a0
  have k1 := hZ.a1
  have HZ : Hid _ := hZ
  clear hZ
  clear l0 l1
  go_wp2_with fail
  refine (hM w9 w2.heap.size HZ.out g0 g1).mono ?_
  rintro e w10 ⟨b3, d3, rfl, hr, hf, hb⟩
  have hZ := HZ.out.below hb
  have HT : Hid (Tm w10 (w.heap.size + 1 + 1) (some ⟨w2.heap.size, 0, none⟩) b3 [(q : Int), (p : Int)] xs) := ⟨row_sl (Row.two (cell_below hb g0) (cell_below hb g1)), hr, fun b off sp e => by cases e; have := HL.out; omega, fun b off sp e => by have := hf b off sp e; have := HZ.out.bx.lt; omega⟩
  clear HZ k0 k1 hb hr hf hM g0 g1 HL
  have k0 := hZ.a0
  have k1 := hZ.a1
  have HZ : Hid _ := hZ
  have hx0 := hZ.bx.c0
  have hx1 := hZ.bx.c1
  have hx2 := hZ.bx.f0
  have hx3 := hZ.bx.f1
  clear hZ
  go_wp2
  refine bodyPost_ret (v := .tuple #[.agg #[.slice (some ⟨w2.heap.size, 0, none⟩) 2 2, .slice b3 N d3], .int .i64 0]) (by simp [results, Tryz.results15, go_sem, (two_set HZ.out.bx.c0 HZ.out.bx.c1 _ _).1, (two_set HZ.out.bx.c0 HZ.out.bx.c1 _ _).2]) rfl ⟨some ⟨w2.heap.size, 0, none⟩, 2, b3, d3, rfl, ?_, ?_⟩
  · exact ((HT.out.set (by simp) _).set (by simp) _).mono (by omega)
  · exact bl_set (bl_set HZ.out.bl (by simp <;> omega) _) (by simp <;> omega) _
end Go.Proofs.YtbfboippaejnmaaGreatDoor.Tn
