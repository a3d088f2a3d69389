/-
  THE WALK OF ArrayProducts. Conditions: what the arguments hold.
-/
import Derived.Test.YtbfboippaejnmaaGreatDoorLc
namespace Go.Proofs.YtbfboippaejnmaaGreatDoor.Tn
set_option maxRecDepth 100000
open Go.RowKit Nm
set_option linter.unusedVariables false

set_option maxHeartbeats 4000000 in
theorem prod_long1 (a1 b1 a2 b2 : Option Addr) (c1 d1 m1 n1 c2 d2 m2 n2 : Nat) (aF aZ : Addr) (w : World) (hE : Er w aF aZ)
    (hS1 : ∀ v, Below w.heap.size w v → Calls Tryz.prog 12 #[.agg #[.slice a1 m1 c1, .slice b1 n1 d1]] v fun e w' => e = .returned (.bool false) ∧ Below v.heap.size v w') :
    Calls Tryz.prog 3 #[.agg #[.slice a1 m1 c1, .slice b1 n1 d1], .agg #[.slice a2 m2 c2, .slice b2 n2 d2]] w fun e w' => e = .returned (.bool true) ∧ Below w.heap.size w w' := by
  have HE : Hid _ := hE
  clear hE
  have HB : Hid (Below w.heap.size w w) := Below.refl _ _
  have hu := bl_alloc (Below.refl w.heap.size w) (.cells #[.slice a1 m1 c1, .slice b1 n1 d1] 25)
  replace HB : Hid _ := bl_trans HB.out hu
  clear hu
  have K10 : (w.alloc (.cells #[.slice a1 m1 c1, .slice b1 n1 d1] 25)).cell? ⟨w.heap.size, 0, none⟩ = some (.slice a1 m1 c1) := by first | rw [World.cell?_alloc_at _ _ _ _ (by simp)]; rfl | simp
  have K11 : (w.alloc (.cells #[.slice a1 m1 c1, .slice b1 n1 d1] 25)).cell? ⟨w.heap.size, 1, none⟩ = some (.slice b1 n1 d1) := by first | rw [World.cell?_alloc_at _ _ _ _ (by simp)]; rfl | simp
  have hu := bl_alloc (Below.refl (w.alloc (.cells #[.slice a1 m1 c1, .slice b1 n1 d1] 25)).heap.size (w.alloc (.cells #[.slice a1 m1 c1, .slice b1 n1 d1] 25))) (.cells #[.slice a2 m2 c2, .slice b2 n2 d2] 25)
  replace HB : Hid _ := bl_trans HB.out hu
  replace K10 := cell_below hu K10
  replace K11 := cell_below hu K11
  clear hu
  have K20 : ((w.alloc (.cells #[.slice a1 m1 c1, .slice b1 n1 d1] 25)).alloc (.cells #[.slice a2 m2 c2, .slice b2 n2 d2] 25)).cell? ⟨w.heap.size + 1, 0, none⟩ = some (.slice a2 m2 c2) := by first | rw [World.cell?_alloc_at _ _ _ _ (by simp)]; rfl | simp
  have K21 : ((w.alloc (.cells #[.slice a1 m1 c1, .slice b1 n1 d1] 25)).alloc (.cells #[.slice a2 m2 c2, .slice b2 n2 d2] 25)).cell? ⟨w.heap.size + 1, 1, none⟩ = some (.slice b2 n2 d2) := by first | rw [World.cell?_alloc_at _ _ _ _ (by simp)]; rfl | simp
  go_enter Tryz.func3, Tryz.ntmps3
  go_wp2_with fail
  refine (hS1 _ HB.out).mono ?_
  rintro e w1 ⟨rfl, hb⟩
  have hu := hb
  replace HB : Hid _ := bl_trans HB.out hu
  replace K10 := cell_below hu K10
  replace K11 := cell_below hu K11
  replace K20 := cell_below hu K20
  replace K21 := cell_below hu K21
  clear hu
  clear hb
  go_wp2_with fail
  refine (awake_any aF aZ _ (HE.out.below HB.out)).mono ?_
  rintro e w2 ⟨rfl, hb⟩
  have hu := hb
  replace HB : Hid _ := bl_trans HB.out hu
  replace K10 := cell_below hu K10
  replace K11 := cell_below hu K11
  replace K20 := cell_below hu K20
  replace K21 := cell_below hu K21
  clear hu
  clear hb
  go_wp2
  go_ret
  exact ⟨rfl, HB.out⟩

set_option maxHeartbeats 4000000 in
theorem prod_long2 (a1 b1 a2 b2 : Option Addr) (c1 d1 m1 n1 c2 d2 m2 n2 : Nat) (aF aZ : Addr) (w : World) (hE : Er w aF aZ)
    (hS1 : ∀ v, Below w.heap.size w v → Calls Tryz.prog 12 #[.agg #[.slice a1 m1 c1, .slice b1 n1 d1]] v fun e w' => e = .returned (.bool true) ∧ Below v.heap.size v w')
    (hS2 : ∀ v, Below w.heap.size w v → Calls Tryz.prog 12 #[.agg #[.slice a2 m2 c2, .slice b2 n2 d2]] v fun e w' => e = .returned (.bool false) ∧ Below v.heap.size v w') :
    Calls Tryz.prog 3 #[.agg #[.slice a1 m1 c1, .slice b1 n1 d1], .agg #[.slice a2 m2 c2, .slice b2 n2 d2]] w fun e w' => e = .returned (.bool true) ∧ Below w.heap.size w w' := by
  have HE : Hid _ := hE
  clear hE
  have HB : Hid (Below w.heap.size w w) := Below.refl _ _
  have hu := bl_alloc (Below.refl w.heap.size w) (.cells #[.slice a1 m1 c1, .slice b1 n1 d1] 25)
  replace HB : Hid _ := bl_trans HB.out hu
  clear hu
  have K10 : (w.alloc (.cells #[.slice a1 m1 c1, .slice b1 n1 d1] 25)).cell? ⟨w.heap.size, 0, none⟩ = some (.slice a1 m1 c1) := by first | rw [World.cell?_alloc_at _ _ _ _ (by simp)]; rfl | simp
  have K11 : (w.alloc (.cells #[.slice a1 m1 c1, .slice b1 n1 d1] 25)).cell? ⟨w.heap.size, 1, none⟩ = some (.slice b1 n1 d1) := by first | rw [World.cell?_alloc_at _ _ _ _ (by simp)]; rfl | simp
  have hu := bl_alloc (Below.refl (w.alloc (.cells #[.slice a1 m1 c1, .slice b1 n1 d1] 25)).heap.size (w.alloc (.cells #[.slice a1 m1 c1, .slice b1 n1 d1] 25))) (.cells #[.slice a2 m2 c2, .slice b2 n2 d2] 25)
  replace HB : Hid _ := bl_trans HB.out hu
  replace K10 := cell_below hu K10
  replace K11 := cell_below hu K11
  clear hu
  have K20 : ((w.alloc (.cells #[.slice a1 m1 c1, .slice b1 n1 d1] 25)).alloc (.cells #[.slice a2 m2 c2, .slice b2 n2 d2] 25)).cell? ⟨w.heap.size + 1, 0, none⟩ = some (.slice a2 m2 c2) := by first | rw [World.cell?_alloc_at _ _ _ _ (by simp)]; rfl | simp
  have K21 : ((w.alloc (.cells #[.slice a1 m1 c1, .slice b1 n1 d1] 25)).alloc (.cells #[.slice a2 m2 c2, .slice b2 n2 d2] 25)).cell? ⟨w.heap.size + 1, 1, none⟩ = some (.slice b2 n2 d2) := by first | rw [World.cell?_alloc_at _ _ _ _ (by simp)]; rfl | simp
  go_enter Tryz.func3, Tryz.ntmps3
  go_wp2_with fail
  refine (hS1 _ HB.out).mono ?_
  rintro e w1 ⟨rfl, hb⟩
  have hu := hb
  replace HB : Hid _ := bl_trans HB.out hu
  replace K10 := cell_below hu K10
  replace K11 := cell_below hu K11
  replace K20 := cell_below hu K20
  replace K21 := cell_below hu K21
  clear hu
  clear hb
  go_wp2_with fail
  refine (hS2 _ HB.out).mono ?_
  rintro e w2 ⟨rfl, hb⟩
  have hu := hb
  replace HB : Hid _ := bl_trans HB.out hu
  replace K10 := cell_below hu K10
  replace K11 := cell_below hu K11
  replace K20 := cell_below hu K20
  replace K21 := cell_below hu K21
  clear hu
  clear hb
  go_wp2_with fail
  refine (awake_any aF aZ _ (HE.out.below HB.out)).mono ?_
  rintro e w3 ⟨rfl, hb⟩
  have hu := hb
  replace HB : Hid _ := bl_trans HB.out hu
  replace K10 := cell_below hu K10
  replace K11 := cell_below hu K11
  replace K20 := cell_below hu K20
  replace K21 := cell_below hu K21
  clear hu
  clear hb
  go_wp2
  go_ret
  exact ⟨rfl, HB.out⟩

set_option maxHeartbeats 4000000 in
theorem prod_bad (a1 b1 a2 b2 : Option Addr) (c1 d1 m1 n1 c2 d2 m2 n2 : Nat) (yb : Bool) (aF aZ : Addr) (w : World) (hE : Er w aF aZ)
    (hS1 : ∀ v, Below w.heap.size w v → Calls Tryz.prog 12 #[.agg #[.slice a1 m1 c1, .slice b1 n1 d1]] v fun e w' => e = .returned (.bool true) ∧ Below v.heap.size v w')
    (hS2 : ∀ v, Below w.heap.size w v → Calls Tryz.prog 12 #[.agg #[.slice a2 m2 c2, .slice b2 n2 d2]] v fun e w' => e = .returned (.bool true) ∧ Below v.heap.size v w')
    (hM : ∀ v, Below w.heap.size w v → Calls Tryz.prog 14 #[.agg #[.slice a1 m1 c1, .slice b1 n1 d1], .agg #[.slice a2 m2 c2, .slice b2 n2 d2]] v fun e w' => e = .returned (noTensor 1) ∧ Below v.heap.size v w')
    (hTr : ∀ v, Below w.heap.size w v → Calls Tryz.prog 15 #[.agg #[.slice a1 m1 c1, .slice b1 n1 d1]] v fun e w' => e = .returned (noTensor 1) ∧ Below v.heap.size v w')
    (hR1 : ∀ v, Below w.heap.size w v → Calls Tryz.prog 16 #[.agg #[.slice a1 m1 c1, .slice b1 n1 d1]] v fun e w' => e = .returned (.bool false) ∧ Below v.heap.size v w')
    (hR2 : ∀ v, Below w.heap.size w v → Calls Tryz.prog 16 #[.agg #[.slice a2 m2 c2, .slice b2 n2 d2]] v fun e w' => e = .returned (.bool yb) ∧ Below v.heap.size v w') :
    Calls Tryz.prog 3 #[.agg #[.slice a1 m1 c1, .slice b1 n1 d1], .agg #[.slice a2 m2 c2, .slice b2 n2 d2]] w fun e w' => e = .returned (.bool true) ∧ Below w.heap.size w w' := by
  have HE : Hid _ := hE
  clear hE
  have HB : Hid (Below w.heap.size w w) := Below.refl _ _
  have hu := bl_alloc (Below.refl w.heap.size w) (.cells #[.slice a1 m1 c1, .slice b1 n1 d1] 25)
  replace HB : Hid _ := bl_trans HB.out hu
  clear hu
  have K10 : (w.alloc (.cells #[.slice a1 m1 c1, .slice b1 n1 d1] 25)).cell? ⟨w.heap.size, 0, none⟩ = some (.slice a1 m1 c1) := by first | rw [World.cell?_alloc_at _ _ _ _ (by simp)]; rfl | simp
  have K11 : (w.alloc (.cells #[.slice a1 m1 c1, .slice b1 n1 d1] 25)).cell? ⟨w.heap.size, 1, none⟩ = some (.slice b1 n1 d1) := by first | rw [World.cell?_alloc_at _ _ _ _ (by simp)]; rfl | simp
  have hu := bl_alloc (Below.refl (w.alloc (.cells #[.slice a1 m1 c1, .slice b1 n1 d1] 25)).heap.size (w.alloc (.cells #[.slice a1 m1 c1, .slice b1 n1 d1] 25))) (.cells #[.slice a2 m2 c2, .slice b2 n2 d2] 25)
  replace HB : Hid _ := bl_trans HB.out hu
  replace K10 := cell_below hu K10
  replace K11 := cell_below hu K11
  clear hu
  have K20 : ((w.alloc (.cells #[.slice a1 m1 c1, .slice b1 n1 d1] 25)).alloc (.cells #[.slice a2 m2 c2, .slice b2 n2 d2] 25)).cell? ⟨w.heap.size + 1, 0, none⟩ = some (.slice a2 m2 c2) := by first | rw [World.cell?_alloc_at _ _ _ _ (by simp)]; rfl | simp
  have K21 : ((w.alloc (.cells #[.slice a1 m1 c1, .slice b1 n1 d1] 25)).alloc (.cells #[.slice a2 m2 c2, .slice b2 n2 d2] 25)).cell? ⟨w.heap.size + 1, 1, none⟩ = some (.slice b2 n2 d2) := by first | rw [World.cell?_alloc_at _ _ _ _ (by simp)]; rfl | simp
  go_enter Tryz.func3, Tryz.ntmps3
  go_wp2_with fail
  refine (hS1 _ HB.out).mono ?_
  rintro e w1 ⟨rfl, hb⟩
  have hu := hb
  replace HB : Hid _ := bl_trans HB.out hu
  replace K10 := cell_below hu K10
  replace K11 := cell_below hu K11
  replace K20 := cell_below hu K20
  replace K21 := cell_below hu K21
  clear hu
  clear hb
  go_wp2_with fail
  refine (hS2 _ HB.out).mono ?_
  rintro e w2 ⟨rfl, hb⟩
  have hu := hb
  replace HB : Hid _ := bl_trans HB.out hu
  replace K10 := cell_below hu K10
  replace K11 := cell_below hu K11
  replace K20 := cell_below hu K20
  replace K21 := cell_below hu K21
  clear hu
  clear hb
  go_wp2_with fail
  refine (hM _ HB.out).mono ?_
  rintro e w3 ⟨rfl, hb⟩
  have hu := bl_alloc hb (.cells #[.slice none 0 0, .slice none 0 0] 25)
  replace HB : Hid _ := bl_trans HB.out hu
  replace K10 := cell_below hu K10
  replace K11 := cell_below hu K11
  replace K20 := cell_below hu K20
  replace K21 := cell_below hu K21
  clear hu
  have Km0 : (w3.alloc (.cells #[.slice none 0 0, .slice none 0 0] 25)).cell? ⟨w3.heap.size, 0, none⟩ = some (.slice none 0 0) := by simp
  have Km1 : (w3.alloc (.cells #[.slice none 0 0, .slice none 0 0] 25)).cell? ⟨w3.heap.size, 1, none⟩ = some (.slice none 0 0) := by simp
  clear hb
  go_wp2_with fail
  refine (hTr _ HB.out).mono ?_
  rintro e w4 ⟨rfl, hb⟩
  have hu := bl_alloc hb (.cells #[.slice none 0 0, .slice none 0 0] 25)
  replace HB : Hid _ := bl_trans HB.out hu
  replace K10 := cell_below hu K10
  replace K11 := cell_below hu K11
  replace K20 := cell_below hu K20
  replace K21 := cell_below hu K21
  replace Km0 := cell_below hu Km0
  replace Km1 := cell_below hu Km1
  clear hu
  have Kt0 : (w4.alloc (.cells #[.slice none 0 0, .slice none 0 0] 25)).cell? ⟨w4.heap.size, 0, none⟩ = some (.slice none 0 0) := by simp
  have Kt1 : (w4.alloc (.cells #[.slice none 0 0, .slice none 0 0] 25)).cell? ⟨w4.heap.size, 1, none⟩ = some (.slice none 0 0) := by simp
  clear hb
  go_wp2_with fail
  obtain ⟨C, hC⟩ : ∃ C : World → Prop, C = fun v => Below (w4.alloc (.cells #[.slice none 0 0, .slice none 0 0] 25)).heap.size (w4.alloc (.cells #[.slice none 0 0, .slice none 0 0] 25)) v := ⟨_, rfl⟩
  have e10 : ∀ v, C v → v.cell? ⟨w.heap.size, 0, none⟩ = some (.slice a1 m1 c1) := fun v h => by subst hC; exact cell_below h K10
  have e11 : ∀ v, C v → v.cell? ⟨w.heap.size, 1, none⟩ = some (.slice b1 n1 d1) := fun v h => by subst hC; exact cell_below h K11
  have e20 : ∀ v, C v → v.cell? ⟨w.heap.size + 1, 0, none⟩ = some (.slice a2 m2 c2) := fun v h => by subst hC; exact cell_below h K20
  have e21 : ∀ v, C v → v.cell? ⟨w.heap.size + 1, 1, none⟩ = some (.slice b2 n2 d2) := fun v h => by subst hC; exact cell_below h K21
  have cB : ∀ v, C v → Below w.heap.size w v := fun v h => by subst hC; exact bl_trans HB.out h
  have cT : ∀ u v, C u → Below u.heap.size u v → C v := fun u v h k => by subst hC; exact bl_trans h k
  have cI : C (w4.alloc (.cells #[.slice none 0 0, .slice none 0 0] 25)).drew := by subst hC; exact bl_drew (Below.refl _ _)
  have CC : Hid (∀ v, C v → Below (w4.alloc (.cells #[.slice none 0 0, .slice none 0 0] 25)).heap.size (w4.alloc (.cells #[.slice none 0 0, .slice none 0 0] 25)) v) := fun v h => by subst hC; exact h
  clear hC
  refine region_calm C (by kernel_rfl) (by kernel_rfl) cI ?_
  clear cI
  with_reducible refine wpQuiet_step (fun K hK => ?_)
  go_simp
  refine ⟨.agg #[.slice a1 m1 c1, .slice b1 n1 d1], fun v hv => ?_, hK _ ?_⟩
  · simp [e10 v hv, e11 v hv]
  clear hK K
  with_reducible refine wpQuiet_step (fun K hK => ?_)
  go_simp
  refine ⟨.bool false, fun v hv => ?_, hK _ ?_⟩
  · exact calm_call cT hv (hR1 v (cB v hv))
  clear hK K
  with_reducible refine wpQuiet_step (fun K hK => ?_)
  go_simp
  refine ⟨.agg #[.slice a2 m2 c2, .slice b2 n2 d2], fun v hv => ?_, hK _ ?_⟩
  · simp [e20 v hv, e21 v hv]
  clear hK K
  with_reducible refine wpQuiet_step (fun K hK => ?_)
  go_simp
  refine ⟨.bool yb, fun v hv => ?_, hK _ ?_⟩
  · exact calm_call cT hv (hR2 v (cB v hv))
  clear hK K
  with_reducible refine wpQuiet_step (fun K hK => ?_)
  go_simp
  refine ⟨_, fun v hv => rfl, hK _ ?_⟩
  clear hK K
  with_reducible refine wpQuiet_step (fun K hK => ?_)
  go_simp
  refine ⟨_, fun v hv => rfl, hK _ ?_⟩
  clear hK K
  refine wpQuiet_nil ?_
  intro w5 C1
  have hb := CC.out _ C1
  clear C1 CC cB cT e10 e11 e20 e21
  have hu := hb
  replace HB : Hid _ := bl_trans HB.out hu
  replace K10 := cell_below hu K10
  replace K11 := cell_below hu K11
  replace K20 := cell_below hu K20
  replace K21 := cell_below hu K21
  replace Km0 := cell_below hu Km0
  replace Km1 := cell_below hu Km1
  replace Kt0 := cell_below hu Kt0
  replace Kt1 := cell_below hu Kt1
  clear hu
  clear hb
  go_wp2_with fail
  obtain ⟨C, hC⟩ : ∃ C : World → Prop, C = fun v => Below w5.heap.size w5 v := ⟨_, rfl⟩
  have et1 : ∀ v, C v → v.cell? ⟨w4.heap.size, 1, none⟩ = some (.slice none 0 0) := fun v h => by subst hC; exact cell_below h Kt1
  have cB : ∀ v, C v → Below w.heap.size w v := fun v h => by subst hC; exact bl_trans HB.out h
  have cT : ∀ u v, C u → Below u.heap.size u v → C v := fun u v h k => by subst hC; exact bl_trans h k
  have cI : C w5.drew := by subst hC; exact bl_drew (Below.refl _ _)
  have CC : Hid (∀ v, C v → Below w5.heap.size w5 v) := fun v h => by subst hC; exact h
  clear hC
  refine region_calm C (by kernel_rfl) (by kernel_rfl) cI ?_
  clear cI
  with_reducible refine wpQuiet_step (fun K hK => ?_)
  go_simp
  refine ⟨_, fun v hv => rfl, hK _ ?_⟩
  clear hK K
  with_reducible refine wpQuiet_step (fun K hK => ?_)
  go_simp
  refine ⟨_, fun v hv => rfl, hK _ ?_⟩
  clear hK K
  with_reducible refine wpQuiet_step (fun K hK => ?_)
  go_simp
  refine ⟨_, fun v hv => rfl, hK _ ?_⟩
  clear hK K
  with_reducible refine wpQuiet_step (fun K hK => ?_)
  go_simp
  refine ⟨_, fun v hv => rfl, hK _ ?_⟩
  clear hK K
  with_reducible refine wpQuiet_step (fun K hK => ?_)
  go_simp
  refine ⟨_, fun v hv => rfl, hK _ ?_⟩
  clear hK K
  with_reducible refine wpQuiet_step (fun K hK => ?_)
  go_simp
  refine ⟨_, fun v hv => rfl, hK _ ?_⟩
  clear hK K
  with_reducible refine wpQuiet_step (fun K hK => ?_)
  go_simp
  refine ⟨_, fun v hv => rfl, hK _ ?_⟩
  clear hK K
  with_reducible refine wpQuiet_step (fun K hK => ?_)
  go_simp
  refine ⟨.slice none 0 0, fun v hv => ?_, hK _ ?_⟩
  · simp [et1 v hv]
  clear hK K
  with_reducible refine wpQuiet_step (fun K hK => ?_)
  go_simp
  refine ⟨_, fun v hv => rfl, hK _ ?_⟩
  clear hK K
  with_reducible refine wpQuiet_step (fun K hK => ?_)
  go_simp
  refine ⟨_, fun v hv => rfl, hK _ ?_⟩
  clear hK K
  with_reducible refine wpQuiet_step (fun K hK => ?_)
  go_simp
  refine ⟨_, fun v hv => rfl, hK _ ?_⟩
  clear hK K
  with_reducible refine wpQuiet_step (fun K hK => ?_)
  go_simp
  refine ⟨_, fun v hv => rfl, hK _ ?_⟩
  clear hK K
  with_reducible refine wpQuiet_step (fun K hK => ?_)
  go_simp
  refine ⟨_, fun v hv => rfl, hK _ ?_⟩
  clear hK K
  with_reducible refine wpQuiet_step (fun K hK => ?_)
  go_simp
  refine ⟨_, fun v hv => rfl, hK _ ?_⟩
  clear hK K
  with_reducible refine wpQuiet_step (fun K hK => ?_)
  go_simp
  refine ⟨_, fun v hv => rfl, hK _ ?_⟩
  clear hK K
  with_reducible refine wpQuiet_step (fun K hK => ?_)
  go_simp
  refine hK _ ?_
  clear hK K
  with_reducible refine wpQuiet_step (fun K hK => ?_)
  go_simp
  refine hK _ ?_
  clear hK K
  with_reducible refine wpQuiet_step (fun K hK => ?_)
  go_simp
  refine ⟨_, fun v hv => rfl, hK _ ?_⟩
  clear hK K
  with_reducible refine wpQuiet_step (fun K hK => ?_)
  go_simp
  refine ⟨_, fun v hv => rfl, hK _ ?_⟩
  clear hK K
  with_reducible refine wpQuiet_step (fun K hK => ?_)
  go_simp
  refine hK _ ?_
  clear hK K
  with_reducible refine wpQuiet_step (fun K hK => ?_)
  go_simp
  refine hK _ ?_
  clear hK K
  with_reducible refine wpQuiet_step (fun K hK => ?_)
  go_simp
  refine hK _ ?_
  clear hK K
  with_reducible refine wpQuiet_step (fun K hK => ?_)
  go_simp
  refine hK _ ?_
  clear hK K
  with_reducible refine wpQuiet_step (fun K hK => ?_)
  go_simp
  refine hK _ ?_
  clear hK K
  with_reducible refine wpQuiet_step (fun K hK => ?_)
  go_simp
  refine hK _ ?_
  clear hK K
  with_reducible refine wpQuiet_step (fun K hK => ?_)
  go_simp
  refine hK _ ?_
  clear hK K
  with_reducible refine wpQuiet_step (fun K hK => ?_)
  go_simp
  refine hK _ ?_
  clear hK K
  with_reducible refine wpQuiet_step (fun K hK => ?_)
  go_simp
  refine ⟨_, fun v hv => rfl, hK _ ?_⟩
  clear hK K
  with_reducible refine wpQuiet_step (fun K hK => ?_)
  go_simp
  refine ⟨_, fun v hv => rfl, hK _ ?_⟩
  clear hK K
  with_reducible refine wpQuiet_step (fun K hK => ?_)
  go_simp
  refine ⟨_, fun v hv => rfl, hK _ ?_⟩
  clear hK K
  with_reducible refine wpQuiet_step (fun K hK => ?_)
  go_simp
  refine ⟨_, fun v hv => rfl, hK _ ?_⟩
  clear hK K
  with_reducible refine wpQuiet_step (fun K hK => ?_)
  go_simp
  refine ⟨_, fun v hv => rfl, hK _ ?_⟩
  clear hK K
  with_reducible refine wpQuiet_step (fun K hK => ?_)
  go_simp
  refine hK _ ?_
  clear hK K
  with_reducible refine wpQuiet_step (fun K hK => ?_)
  go_simp
  refine hK _ ?_
  clear hK K
  with_reducible refine wpQuiet_step (fun K hK => ?_)
  go_simp
  refine hK _ ?_
  clear hK K
  with_reducible refine wpQuiet_step (fun K hK => ?_)
  go_simp
  refine hK _ ?_
  clear hK K
  with_reducible refine wpQuiet_step (fun K hK => ?_)
  go_simp
  refine hK _ ?_
  clear hK K
  with_reducible refine wpQuiet_step (fun K hK => ?_)
  go_simp
  refine hK _ ?_
  clear hK K
  with_reducible refine wpQuiet_step (fun K hK => ?_)
  go_simp
  refine hK _ ?_
  clear hK K
  with_reducible refine wpQuiet_step (fun K hK => ?_)
  go_simp
  refine hK _ ?_
  clear hK K
  with_reducible refine wpQuiet_step (fun K hK => ?_)
  go_simp
  refine hK _ ?_
  clear hK K
  with_reducible refine wpQuiet_step (fun K hK => ?_)
  go_simp
  refine ⟨_, fun v hv => rfl, hK _ ?_⟩
  clear hK K
  with_reducible refine wpQuiet_step (fun K hK => ?_)
  go_simp
  refine ⟨_, fun v hv => rfl, hK _ ?_⟩
  clear hK K
  refine wpQuiet_nil ?_
  intro w6 C1
  have hb := CC.out _ C1
  clear C1 CC cB cT et1
  have hu := hb
  replace HB : Hid _ := bl_trans HB.out hu
  replace K10 := cell_below hu K10
  replace K11 := cell_below hu K11
  replace K20 := cell_below hu K20
  replace K21 := cell_below hu K21
  replace Km0 := cell_below hu Km0
  replace Km1 := cell_below hu Km1
  replace Kt0 := cell_below hu Kt0
  replace Kt1 := cell_below hu Kt1
  clear hu
  clear hb
  go_wp2_with fail
  refine (awake_any aF aZ _ (HE.out.below HB.out)).mono ?_
  rintro e w7 ⟨rfl, hb⟩
  have hu := hb
  replace HB : Hid _ := bl_trans HB.out hu
  replace K10 := cell_below hu K10
  replace K11 := cell_below hu K11
  replace K20 := cell_below hu K20
  replace K21 := cell_below hu K21
  replace Km0 := cell_below hu Km0
  replace Km1 := cell_below hu Km1
  replace Kt0 := cell_below hu Kt0
  replace Kt1 := cell_below hu Kt1
  clear hu
  clear hb
  go_wp2
  go_ret
  exact ⟨rfl, HB.out⟩

set_option maxHeartbeats 4000000 in
theorem prod_flat_n (a1 b1 a2 b2 : Option Addr) (c1 d1 m1 n1 c2 d2 m2 n2 : Nat) (aF aZ : Addr) (w : World) (hE : Er w aF aZ)
    (hS1 : ∀ v, Below w.heap.size w v → Calls Tryz.prog 12 #[.agg #[.slice a1 m1 c1, .slice b1 n1 d1]] v fun e w' => e = .returned (.bool true) ∧ Below v.heap.size v w')
    (hS2 : ∀ v, Below w.heap.size w v → Calls Tryz.prog 12 #[.agg #[.slice a2 m2 c2, .slice b2 n2 d2]] v fun e w' => e = .returned (.bool true) ∧ Below v.heap.size v w')
    (hM : ∀ v, Below w.heap.size w v → Calls Tryz.prog 14 #[.agg #[.slice a1 m1 c1, .slice b1 n1 d1], .agg #[.slice a2 m2 c2, .slice b2 n2 d2]] v fun e w' => e = .returned (noTensor 1) ∧ Below v.heap.size v w')
    (hTr : ∀ v, Below w.heap.size w v → Calls Tryz.prog 15 #[.agg #[.slice a1 m1 c1, .slice b1 n1 d1]] v fun e w' => e = .returned (noTensor 4) ∧ Below v.heap.size v w')
    (hR1 : ∀ v, Below w.heap.size w v → Calls Tryz.prog 16 #[.agg #[.slice a1 m1 c1, .slice b1 n1 d1]] v fun e w' => e = .returned (.bool true) ∧ Below v.heap.size v w')
    (hR2 : ∀ v, Below w.heap.size w v → Calls Tryz.prog 16 #[.agg #[.slice a2 m2 c2, .slice b2 n2 d2]] v fun e w' => e = .returned (.bool false) ∧ Below v.heap.size v w')
    (hm1 : ((m1 : Int) != 2) = true) (hm2 : ((m1 : Int) == 2) = false) :
    Calls Tryz.prog 3 #[.agg #[.slice a1 m1 c1, .slice b1 n1 d1], .agg #[.slice a2 m2 c2, .slice b2 n2 d2]] w fun e w' => e = .returned (.bool true) ∧ Below w.heap.size w w' := by
  have HE : Hid _ := hE
  clear hE
  have HB : Hid (Below w.heap.size w w) := Below.refl _ _
  have hu := bl_alloc (Below.refl w.heap.size w) (.cells #[.slice a1 m1 c1, .slice b1 n1 d1] 25)
  replace HB : Hid _ := bl_trans HB.out hu
  clear hu
  have K10 : (w.alloc (.cells #[.slice a1 m1 c1, .slice b1 n1 d1] 25)).cell? ⟨w.heap.size, 0, none⟩ = some (.slice a1 m1 c1) := by first | rw [World.cell?_alloc_at _ _ _ _ (by simp)]; rfl | simp
  have K11 : (w.alloc (.cells #[.slice a1 m1 c1, .slice b1 n1 d1] 25)).cell? ⟨w.heap.size, 1, none⟩ = some (.slice b1 n1 d1) := by first | rw [World.cell?_alloc_at _ _ _ _ (by simp)]; rfl | simp
  have hu := bl_alloc (Below.refl (w.alloc (.cells #[.slice a1 m1 c1, .slice b1 n1 d1] 25)).heap.size (w.alloc (.cells #[.slice a1 m1 c1, .slice b1 n1 d1] 25))) (.cells #[.slice a2 m2 c2, .slice b2 n2 d2] 25)
  replace HB : Hid _ := bl_trans HB.out hu
  replace K10 := cell_below hu K10
  replace K11 := cell_below hu K11
  clear hu
  have K20 : ((w.alloc (.cells #[.slice a1 m1 c1, .slice b1 n1 d1] 25)).alloc (.cells #[.slice a2 m2 c2, .slice b2 n2 d2] 25)).cell? ⟨w.heap.size + 1, 0, none⟩ = some (.slice a2 m2 c2) := by first | rw [World.cell?_alloc_at _ _ _ _ (by simp)]; rfl | simp
  have K21 : ((w.alloc (.cells #[.slice a1 m1 c1, .slice b1 n1 d1] 25)).alloc (.cells #[.slice a2 m2 c2, .slice b2 n2 d2] 25)).cell? ⟨w.heap.size + 1, 1, none⟩ = some (.slice b2 n2 d2) := by first | rw [World.cell?_alloc_at _ _ _ _ (by simp)]; rfl | simp
  go_enter Tryz.func3, Tryz.ntmps3
  go_wp2_with fail
  refine (hS1 _ HB.out).mono ?_
  rintro e w1 ⟨rfl, hb⟩
  have hu := hb
  replace HB : Hid _ := bl_trans HB.out hu
  replace K10 := cell_below hu K10
  replace K11 := cell_below hu K11
  replace K20 := cell_below hu K20
  replace K21 := cell_below hu K21
  clear hu
  clear hb
  go_wp2_with fail
  refine (hS2 _ HB.out).mono ?_
  rintro e w2 ⟨rfl, hb⟩
  have hu := hb
  replace HB : Hid _ := bl_trans HB.out hu
  replace K10 := cell_below hu K10
  replace K11 := cell_below hu K11
  replace K20 := cell_below hu K20
  replace K21 := cell_below hu K21
  clear hu
  clear hb
  go_wp2_with fail
  refine (hM _ HB.out).mono ?_
  rintro e w3 ⟨rfl, hb⟩
  have hu := bl_alloc hb (.cells #[.slice none 0 0, .slice none 0 0] 25)
  replace HB : Hid _ := bl_trans HB.out hu
  replace K10 := cell_below hu K10
  replace K11 := cell_below hu K11
  replace K20 := cell_below hu K20
  replace K21 := cell_below hu K21
  clear hu
  have Km0 : (w3.alloc (.cells #[.slice none 0 0, .slice none 0 0] 25)).cell? ⟨w3.heap.size, 0, none⟩ = some (.slice none 0 0) := by simp
  have Km1 : (w3.alloc (.cells #[.slice none 0 0, .slice none 0 0] 25)).cell? ⟨w3.heap.size, 1, none⟩ = some (.slice none 0 0) := by simp
  clear hb
  go_wp2_with fail
  refine (hTr _ HB.out).mono ?_
  rintro e w4 ⟨rfl, hb⟩
  have hu := bl_alloc hb (.cells #[.slice none 0 0, .slice none 0 0] 25)
  replace HB : Hid _ := bl_trans HB.out hu
  replace K10 := cell_below hu K10
  replace K11 := cell_below hu K11
  replace K20 := cell_below hu K20
  replace K21 := cell_below hu K21
  replace Km0 := cell_below hu Km0
  replace Km1 := cell_below hu Km1
  clear hu
  have Kt0 : (w4.alloc (.cells #[.slice none 0 0, .slice none 0 0] 25)).cell? ⟨w4.heap.size, 0, none⟩ = some (.slice none 0 0) := by simp
  have Kt1 : (w4.alloc (.cells #[.slice none 0 0, .slice none 0 0] 25)).cell? ⟨w4.heap.size, 1, none⟩ = some (.slice none 0 0) := by simp
  clear hb
  go_wp2_with fail
  obtain ⟨C, hC⟩ : ∃ C : World → Prop, C = fun v => Below (w4.alloc (.cells #[.slice none 0 0, .slice none 0 0] 25)).heap.size (w4.alloc (.cells #[.slice none 0 0, .slice none 0 0] 25)) v := ⟨_, rfl⟩
  have e10 : ∀ v, C v → v.cell? ⟨w.heap.size, 0, none⟩ = some (.slice a1 m1 c1) := fun v h => by subst hC; exact cell_below h K10
  have e11 : ∀ v, C v → v.cell? ⟨w.heap.size, 1, none⟩ = some (.slice b1 n1 d1) := fun v h => by subst hC; exact cell_below h K11
  have e20 : ∀ v, C v → v.cell? ⟨w.heap.size + 1, 0, none⟩ = some (.slice a2 m2 c2) := fun v h => by subst hC; exact cell_below h K20
  have e21 : ∀ v, C v → v.cell? ⟨w.heap.size + 1, 1, none⟩ = some (.slice b2 n2 d2) := fun v h => by subst hC; exact cell_below h K21
  have cB : ∀ v, C v → Below w.heap.size w v := fun v h => by subst hC; exact bl_trans HB.out h
  have cT : ∀ u v, C u → Below u.heap.size u v → C v := fun u v h k => by subst hC; exact bl_trans h k
  have cI : C (w4.alloc (.cells #[.slice none 0 0, .slice none 0 0] 25)).drew := by subst hC; exact bl_drew (Below.refl _ _)
  have CC : Hid (∀ v, C v → Below (w4.alloc (.cells #[.slice none 0 0, .slice none 0 0] 25)).heap.size (w4.alloc (.cells #[.slice none 0 0, .slice none 0 0] 25)) v) := fun v h => by subst hC; exact h
  clear hC
  refine region_calm C (by kernel_rfl) (by kernel_rfl) cI ?_
  clear cI
  with_reducible refine wpQuiet_step (fun K hK => ?_)
  go_simp
  refine ⟨.agg #[.slice a1 m1 c1, .slice b1 n1 d1], fun v hv => ?_, hK _ ?_⟩
  · simp [e10 v hv, e11 v hv]
  clear hK K
  with_reducible refine wpQuiet_step (fun K hK => ?_)
  go_simp
  refine ⟨.bool true, fun v hv => ?_, hK _ ?_⟩
  · exact calm_call cT hv (hR1 v (cB v hv))
  clear hK K
  with_reducible refine wpQuiet_step (fun K hK => ?_)
  go_simp
  refine ⟨.agg #[.slice a2 m2 c2, .slice b2 n2 d2], fun v hv => ?_, hK _ ?_⟩
  · simp [e20 v hv, e21 v hv]
  clear hK K
  with_reducible refine wpQuiet_step (fun K hK => ?_)
  go_simp
  refine ⟨.bool false, fun v hv => ?_, hK _ ?_⟩
  · exact calm_call cT hv (hR2 v (cB v hv))
  clear hK K
  with_reducible refine wpQuiet_step (fun K hK => ?_)
  go_simp
  refine ⟨_, fun v hv => rfl, hK _ ?_⟩
  clear hK K
  with_reducible refine wpQuiet_step (fun K hK => ?_)
  go_simp
  refine ⟨_, fun v hv => rfl, hK _ ?_⟩
  clear hK K
  refine wpQuiet_nil ?_
  intro w5 C1
  have hb := CC.out _ C1
  clear C1 CC cB cT e10 e11 e20 e21
  have hu := hb
  replace HB : Hid _ := bl_trans HB.out hu
  replace K10 := cell_below hu K10
  replace K11 := cell_below hu K11
  replace K20 := cell_below hu K20
  replace K21 := cell_below hu K21
  replace Km0 := cell_below hu Km0
  replace Km1 := cell_below hu Km1
  replace Kt0 := cell_below hu Kt0
  replace Kt1 := cell_below hu Kt1
  clear hu
  clear hb
  go_wp2_with fail
  obtain ⟨C, hC⟩ : ∃ C : World → Prop, C = fun v => Below w5.heap.size w5 v := ⟨_, rfl⟩
  have et1 : ∀ v, C v → v.cell? ⟨w4.heap.size, 1, none⟩ = some (.slice none 0 0) := fun v h => by subst hC; exact cell_below h Kt1
  have cB : ∀ v, C v → Below w.heap.size w v := fun v h => by subst hC; exact bl_trans HB.out h
  have cT : ∀ u v, C u → Below u.heap.size u v → C v := fun u v h k => by subst hC; exact bl_trans h k
  have cI : C w5.drew := by subst hC; exact bl_drew (Below.refl _ _)
  have CC : Hid (∀ v, C v → Below w5.heap.size w5 v) := fun v h => by subst hC; exact h
  clear hC
  refine region_calm C (by kernel_rfl) (by kernel_rfl) cI ?_
  clear cI
  with_reducible refine wpQuiet_step (fun K hK => ?_)
  go_simp
  refine ⟨_, fun v hv => rfl, hK _ ?_⟩
  clear hK K
  with_reducible refine wpQuiet_step (fun K hK => ?_)
  go_simp
  refine ⟨_, fun v hv => rfl, hK _ ?_⟩
  clear hK K
  with_reducible refine wpQuiet_step (fun K hK => ?_)
  go_simp
  refine ⟨_, fun v hv => rfl, hK _ ?_⟩
  clear hK K
  with_reducible refine wpQuiet_step (fun K hK => ?_)
  go_simp
  refine hK _ ?_
  clear hK K
  with_reducible refine wpQuiet_step (fun K hK => ?_)
  go_simp
  refine hK _ ?_
  clear hK K
  with_reducible refine wpQuiet_step (fun K hK => ?_)
  go_simp
  refine hK _ ?_
  clear hK K
  with_reducible refine wpQuiet_step (fun K hK => ?_)
  go_simp
  refine hK _ ?_
  clear hK K
  with_reducible refine wpQuiet_step (fun K hK => ?_)
  go_simp
  refine hK _ ?_
  clear hK K
  with_reducible refine wpQuiet_step (fun K hK => ?_)
  go_simp
  refine hK _ ?_
  clear hK K
  with_reducible refine wpQuiet_step (fun K hK => ?_)
  go_simp
  refine hK _ ?_
  clear hK K
  with_reducible refine wpQuiet_step (fun K hK => ?_)
  go_simp
  refine hK _ ?_
  clear hK K
  with_reducible refine wpQuiet_step (fun K hK => ?_)
  go_simp
  refine ⟨_, fun v hv => rfl, hK _ ?_⟩
  clear hK K
  with_reducible refine wpQuiet_step (fun K hK => ?_)
  go_simp
  refine ⟨_, fun v hv => rfl, hK _ ?_⟩
  clear hK K
  with_reducible refine wpQuiet_step (fun K hK => ?_)
  go_simp
  refine ⟨_, fun v hv => rfl, hK _ ?_⟩
  clear hK K
  with_reducible refine wpQuiet_step (fun K hK => ?_)
  go_simp
  refine ⟨_, fun v hv => rfl, hK _ ?_⟩
  clear hK K
  with_reducible refine wpQuiet_step (fun K hK => ?_)
  go_simp
  refine ⟨_, fun v hv => rfl, hK _ ?_⟩
  clear hK K
  with_reducible refine wpQuiet_step (fun K hK => ?_)
  go_simp
  refine ⟨_, fun v hv => rfl, hK _ ?_⟩
  clear hK K
  with_reducible refine wpQuiet_step (fun K hK => ?_)
  go_simp
  refine ⟨_, fun v hv => rfl, hK _ ?_⟩
  clear hK K
  with_reducible refine wpQuiet_step (fun K hK => ?_)
  go_simp
  refine ⟨_, fun v hv => rfl, hK _ ?_⟩
  clear hK K
  with_reducible refine wpQuiet_step (fun K hK => ?_)
  go_simp
  refine ⟨_, fun v hv => rfl, hK _ ?_⟩
  clear hK K
  with_reducible refine wpQuiet_step (fun K hK => ?_)
  go_simp
  refine ⟨_, fun v hv => rfl, hK _ ?_⟩
  clear hK K
  with_reducible refine wpQuiet_step (fun K hK => ?_)
  go_simp
  refine ⟨_, fun v hv => rfl, hK _ ?_⟩
  clear hK K
  with_reducible refine wpQuiet_step (fun K hK => ?_)
  go_simp
  refine ⟨_, fun v hv => rfl, hK _ ?_⟩
  clear hK K
  with_reducible refine wpQuiet_step (fun K hK => ?_)
  go_simp
  refine ⟨.slice none 0 0, fun v hv => ?_, hK _ ?_⟩
  · simp [et1 v hv]
  clear hK K
  with_reducible refine wpQuiet_step (fun K hK => ?_)
  go_simp
  refine ⟨_, fun v hv => rfl, hK _ ?_⟩
  clear hK K
  with_reducible refine wpQuiet_step (fun K hK => ?_)
  go_simp
  refine ⟨_, fun v hv => rfl, hK _ ?_⟩
  clear hK K
  with_reducible refine wpQuiet_step (fun K hK => ?_)
  go_simp
  refine ⟨_, fun v hv => rfl, hK _ ?_⟩
  clear hK K
  with_reducible refine wpQuiet_step (fun K hK => ?_)
  go_simp
  refine ⟨_, fun v hv => rfl, hK _ ?_⟩
  clear hK K
  with_reducible refine wpQuiet_step (fun K hK => ?_)
  go_simp
  refine ⟨_, fun v hv => rfl, hK _ ?_⟩
  clear hK K
  with_reducible refine wpQuiet_step (fun K hK => ?_)
  go_simp
  refine ⟨_, fun v hv => rfl, hK _ ?_⟩
  clear hK K
  with_reducible refine wpQuiet_step (fun K hK => ?_)
  go_simp
  refine ⟨_, fun v hv => rfl, hK _ ?_⟩
  clear hK K
  with_reducible refine wpQuiet_step (fun K hK => ?_)
  go_simp
  refine ⟨_, fun v hv => rfl, hK _ ?_⟩
  clear hK K
  with_reducible refine wpQuiet_step (fun K hK => ?_)
  go_simp
  refine hK _ ?_
  clear hK K
  with_reducible refine wpQuiet_step (fun K hK => ?_)
  go_simp
  refine hK _ ?_
  clear hK K
  with_reducible refine wpQuiet_step (fun K hK => ?_)
  go_simp
  refine hK _ ?_
  clear hK K
  with_reducible refine wpQuiet_step (fun K hK => ?_)
  go_simp
  refine hK _ ?_
  clear hK K
  with_reducible refine wpQuiet_step (fun K hK => ?_)
  go_simp
  refine hK _ ?_
  clear hK K
  with_reducible refine wpQuiet_step (fun K hK => ?_)
  go_simp
  refine hK _ ?_
  clear hK K
  with_reducible refine wpQuiet_step (fun K hK => ?_)
  go_simp
  refine hK _ ?_
  clear hK K
  with_reducible refine wpQuiet_step (fun K hK => ?_)
  go_simp
  refine hK _ ?_
  clear hK K
  with_reducible refine wpQuiet_step (fun K hK => ?_)
  go_simp
  refine hK _ ?_
  clear hK K
  with_reducible refine wpQuiet_step (fun K hK => ?_)
  go_simp
  refine ⟨_, fun v hv => rfl, hK _ ?_⟩
  clear hK K
  with_reducible refine wpQuiet_step (fun K hK => ?_)
  go_simp
  refine ⟨_, fun v hv => rfl, hK _ ?_⟩
  clear hK K
  refine wpQuiet_nil ?_
  intro w6 C1
  have hb := CC.out _ C1
  clear C1 CC cB cT et1
  have hu := hb
  replace HB : Hid _ := bl_trans HB.out hu
  replace K10 := cell_below hu K10
  replace K11 := cell_below hu K11
  replace K20 := cell_below hu K20
  replace K21 := cell_below hu K21
  replace Km0 := cell_below hu Km0
  replace Km1 := cell_below hu Km1
  replace Kt0 := cell_below hu Kt0
  replace Kt1 := cell_below hu Kt1
  clear hu
  clear hb
  go_wp2_with fail
  refine (awake_any aF aZ _ (HE.out.below HB.out)).mono ?_
  rintro e w7 ⟨rfl, hb⟩
  have hu := hb
  replace HB : Hid _ := bl_trans HB.out hu
  replace K10 := cell_below hu K10
  replace K11 := cell_below hu K11
  replace K20 := cell_below hu K20
  replace K21 := cell_below hu K21
  replace Km0 := cell_below hu Km0
  replace Km1 := cell_below hu Km1
  replace Kt0 := cell_below hu Kt0
  replace Kt1 := cell_below hu Kt1
  clear hu
  clear hb
  go_wp2
  go_ret
  exact ⟨rfl, HB.out⟩

set_option maxHeartbeats 4000000 in
theorem prod_flat_y (a1 b1 a2 b2 : Option Addr) (c1 d1 m1 n1 c2 d2 m2 n2 : Nat) (aF aZ : Addr) (w : World) (hE : Er w aF aZ)
    (hS1 : ∀ v, Below w.heap.size w v → Calls Tryz.prog 12 #[.agg #[.slice a1 m1 c1, .slice b1 n1 d1]] v fun e w' => e = .returned (.bool true) ∧ Below v.heap.size v w')
    (hS2 : ∀ v, Below w.heap.size w v → Calls Tryz.prog 12 #[.agg #[.slice a2 m2 c2, .slice b2 n2 d2]] v fun e w' => e = .returned (.bool true) ∧ Below v.heap.size v w')
    (hM : ∀ v, Below w.heap.size w v → Calls Tryz.prog 14 #[.agg #[.slice a1 m1 c1, .slice b1 n1 d1], .agg #[.slice a2 m2 c2, .slice b2 n2 d2]] v fun e w' => e = .returned (noTensor 4) ∧ Below v.heap.size v w')
    (hTr : ∀ v, Below w.heap.size w v → Calls Tryz.prog 15 #[.agg #[.slice a1 m1 c1, .slice b1 n1 d1]] v fun e w' => e = .returned (noTensor 4) ∧ Below v.heap.size v w')
    (hR1 : ∀ v, Below w.heap.size w v → Calls Tryz.prog 16 #[.agg #[.slice a1 m1 c1, .slice b1 n1 d1]] v fun e w' => e = .returned (.bool true) ∧ Below v.heap.size v w')
    (hR2 : ∀ v, Below w.heap.size w v → Calls Tryz.prog 16 #[.agg #[.slice a2 m2 c2, .slice b2 n2 d2]] v fun e w' => e = .returned (.bool true) ∧ Below v.heap.size v w')
    (hm1 : ((m1 : Int) != 2) = true) (hm2 : ((m1 : Int) == 2) = false) :
    Calls Tryz.prog 3 #[.agg #[.slice a1 m1 c1, .slice b1 n1 d1], .agg #[.slice a2 m2 c2, .slice b2 n2 d2]] w fun e w' => e = .returned (.bool true) ∧ Below w.heap.size w w' := by
  have HE : Hid _ := hE
  clear hE
  have HB : Hid (Below w.heap.size w w) := Below.refl _ _
  have hu := bl_alloc (Below.refl w.heap.size w) (.cells #[.slice a1 m1 c1, .slice b1 n1 d1] 25)
  replace HB : Hid _ := bl_trans HB.out hu
  clear hu
  have K10 : (w.alloc (.cells #[.slice a1 m1 c1, .slice b1 n1 d1] 25)).cell? ⟨w.heap.size, 0, none⟩ = some (.slice a1 m1 c1) := by first | rw [World.cell?_alloc_at _ _ _ _ (by simp)]; rfl | simp
  have K11 : (w.alloc (.cells #[.slice a1 m1 c1, .slice b1 n1 d1] 25)).cell? ⟨w.heap.size, 1, none⟩ = some (.slice b1 n1 d1) := by first | rw [World.cell?_alloc_at _ _ _ _ (by simp)]; rfl | simp
  have hu := bl_alloc (Below.refl (w.alloc (.cells #[.slice a1 m1 c1, .slice b1 n1 d1] 25)).heap.size (w.alloc (.cells #[.slice a1 m1 c1, .slice b1 n1 d1] 25))) (.cells #[.slice a2 m2 c2, .slice b2 n2 d2] 25)
  replace HB : Hid _ := bl_trans HB.out hu
  replace K10 := cell_below hu K10
  replace K11 := cell_below hu K11
  clear hu
  have K20 : ((w.alloc (.cells #[.slice a1 m1 c1, .slice b1 n1 d1] 25)).alloc (.cells #[.slice a2 m2 c2, .slice b2 n2 d2] 25)).cell? ⟨w.heap.size + 1, 0, none⟩ = some (.slice a2 m2 c2) := by first | rw [World.cell?_alloc_at _ _ _ _ (by simp)]; rfl | simp
  have K21 : ((w.alloc (.cells #[.slice a1 m1 c1, .slice b1 n1 d1] 25)).alloc (.cells #[.slice a2 m2 c2, .slice b2 n2 d2] 25)).cell? ⟨w.heap.size + 1, 1, none⟩ = some (.slice b2 n2 d2) := by first | rw [World.cell?_alloc_at _ _ _ _ (by simp)]; rfl | simp
  go_enter Tryz.func3, Tryz.ntmps3
  go_wp2_with fail
  refine (hS1 _ HB.out).mono ?_
  rintro e w1 ⟨rfl, hb⟩
  have hu := hb
  replace HB : Hid _ := bl_trans HB.out hu
  replace K10 := cell_below hu K10
  replace K11 := cell_below hu K11
  replace K20 := cell_below hu K20
  replace K21 := cell_below hu K21
  clear hu
  clear hb
  go_wp2_with fail
  refine (hS2 _ HB.out).mono ?_
  rintro e w2 ⟨rfl, hb⟩
  have hu := hb
  replace HB : Hid _ := bl_trans HB.out hu
  replace K10 := cell_below hu K10
  replace K11 := cell_below hu K11
  replace K20 := cell_below hu K20
  replace K21 := cell_below hu K21
  clear hu
  clear hb
  go_wp2_with fail
  refine (hM _ HB.out).mono ?_
  rintro e w3 ⟨rfl, hb⟩
  have hu := bl_alloc hb (.cells #[.slice none 0 0, .slice none 0 0] 25)
  replace HB : Hid _ := bl_trans HB.out hu
  replace K10 := cell_below hu K10
  replace K11 := cell_below hu K11
  replace K20 := cell_below hu K20
  replace K21 := cell_below hu K21
  clear hu
  have Km0 : (w3.alloc (.cells #[.slice none 0 0, .slice none 0 0] 25)).cell? ⟨w3.heap.size, 0, none⟩ = some (.slice none 0 0) := by simp
  have Km1 : (w3.alloc (.cells #[.slice none 0 0, .slice none 0 0] 25)).cell? ⟨w3.heap.size, 1, none⟩ = some (.slice none 0 0) := by simp
  clear hb
  go_wp2_with fail
  refine (hTr _ HB.out).mono ?_
  rintro e w4 ⟨rfl, hb⟩
  have hu := bl_alloc hb (.cells #[.slice none 0 0, .slice none 0 0] 25)
  replace HB : Hid _ := bl_trans HB.out hu
  replace K10 := cell_below hu K10
  replace K11 := cell_below hu K11
  replace K20 := cell_below hu K20
  replace K21 := cell_below hu K21
  replace Km0 := cell_below hu Km0
  replace Km1 := cell_below hu Km1
  clear hu
  have Kt0 : (w4.alloc (.cells #[.slice none 0 0, .slice none 0 0] 25)).cell? ⟨w4.heap.size, 0, none⟩ = some (.slice none 0 0) := by simp
  have Kt1 : (w4.alloc (.cells #[.slice none 0 0, .slice none 0 0] 25)).cell? ⟨w4.heap.size, 1, none⟩ = some (.slice none 0 0) := by simp
  clear hb
  go_wp2_with fail
  obtain ⟨C, hC⟩ : ∃ C : World → Prop, C = fun v => Below (w4.alloc (.cells #[.slice none 0 0, .slice none 0 0] 25)).heap.size (w4.alloc (.cells #[.slice none 0 0, .slice none 0 0] 25)) v := ⟨_, rfl⟩
  have e10 : ∀ v, C v → v.cell? ⟨w.heap.size, 0, none⟩ = some (.slice a1 m1 c1) := fun v h => by subst hC; exact cell_below h K10
  have e11 : ∀ v, C v → v.cell? ⟨w.heap.size, 1, none⟩ = some (.slice b1 n1 d1) := fun v h => by subst hC; exact cell_below h K11
  have e20 : ∀ v, C v → v.cell? ⟨w.heap.size + 1, 0, none⟩ = some (.slice a2 m2 c2) := fun v h => by subst hC; exact cell_below h K20
  have e21 : ∀ v, C v → v.cell? ⟨w.heap.size + 1, 1, none⟩ = some (.slice b2 n2 d2) := fun v h => by subst hC; exact cell_below h K21
  have cB : ∀ v, C v → Below w.heap.size w v := fun v h => by subst hC; exact bl_trans HB.out h
  have cT : ∀ u v, C u → Below u.heap.size u v → C v := fun u v h k => by subst hC; exact bl_trans h k
  have cI : C (w4.alloc (.cells #[.slice none 0 0, .slice none 0 0] 25)).drew := by subst hC; exact bl_drew (Below.refl _ _)
  have CC : Hid (∀ v, C v → Below (w4.alloc (.cells #[.slice none 0 0, .slice none 0 0] 25)).heap.size (w4.alloc (.cells #[.slice none 0 0, .slice none 0 0] 25)) v) := fun v h => by subst hC; exact h
  clear hC
  refine region_calm C (by kernel_rfl) (by kernel_rfl) cI ?_
  clear cI
  with_reducible refine wpQuiet_step (fun K hK => ?_)
  go_simp
  refine ⟨.agg #[.slice a1 m1 c1, .slice b1 n1 d1], fun v hv => ?_, hK _ ?_⟩
  · simp [e10 v hv, e11 v hv]
  clear hK K
  with_reducible refine wpQuiet_step (fun K hK => ?_)
  go_simp
  refine ⟨.bool true, fun v hv => ?_, hK _ ?_⟩
  · exact calm_call cT hv (hR1 v (cB v hv))
  clear hK K
  with_reducible refine wpQuiet_step (fun K hK => ?_)
  go_simp
  refine ⟨.agg #[.slice a2 m2 c2, .slice b2 n2 d2], fun v hv => ?_, hK _ ?_⟩
  · simp [e20 v hv, e21 v hv]
  clear hK K
  with_reducible refine wpQuiet_step (fun K hK => ?_)
  go_simp
  refine ⟨.bool true, fun v hv => ?_, hK _ ?_⟩
  · exact calm_call cT hv (hR2 v (cB v hv))
  clear hK K
  with_reducible refine wpQuiet_step (fun K hK => ?_)
  go_simp
  refine ⟨_, fun v hv => rfl, hK _ ?_⟩
  clear hK K
  with_reducible refine wpQuiet_step (fun K hK => ?_)
  go_simp
  refine ⟨_, fun v hv => rfl, hK _ ?_⟩
  clear hK K
  refine wpQuiet_nil ?_
  intro w5 C1
  have hb := CC.out _ C1
  clear C1 CC cB cT e10 e11 e20 e21
  have hu := hb
  replace HB : Hid _ := bl_trans HB.out hu
  replace K10 := cell_below hu K10
  replace K11 := cell_below hu K11
  replace K20 := cell_below hu K20
  replace K21 := cell_below hu K21
  replace Km0 := cell_below hu Km0
  replace Km1 := cell_below hu Km1
  replace Kt0 := cell_below hu Kt0
  replace Kt1 := cell_below hu Kt1
  clear hu
  clear hb
  go_wp2_with fail
  obtain ⟨C, hC⟩ : ∃ C : World → Prop, C = fun v => Below w5.heap.size w5 v := ⟨_, rfl⟩
  have et1 : ∀ v, C v → v.cell? ⟨w4.heap.size, 1, none⟩ = some (.slice none 0 0) := fun v h => by subst hC; exact cell_below h Kt1
  have cB : ∀ v, C v → Below w.heap.size w v := fun v h => by subst hC; exact bl_trans HB.out h
  have cT : ∀ u v, C u → Below u.heap.size u v → C v := fun u v h k => by subst hC; exact bl_trans h k
  have cI : C w5.drew := by subst hC; exact bl_drew (Below.refl _ _)
  have CC : Hid (∀ v, C v → Below w5.heap.size w5 v) := fun v h => by subst hC; exact h
  clear hC
  refine region_calm C (by kernel_rfl) (by kernel_rfl) cI ?_
  clear cI
  with_reducible refine wpQuiet_step (fun K hK => ?_)
  go_simp
  refine ⟨_, fun v hv => rfl, hK _ ?_⟩
  clear hK K
  with_reducible refine wpQuiet_step (fun K hK => ?_)
  go_simp
  refine ⟨_, fun v hv => rfl, hK _ ?_⟩
  clear hK K
  with_reducible refine wpQuiet_step (fun K hK => ?_)
  go_simp
  refine ⟨_, fun v hv => rfl, hK _ ?_⟩
  clear hK K
  with_reducible refine wpQuiet_step (fun K hK => ?_)
  go_simp
  refine hK _ ?_
  clear hK K
  with_reducible refine wpQuiet_step (fun K hK => ?_)
  go_simp
  refine hK _ ?_
  clear hK K
  with_reducible refine wpQuiet_step (fun K hK => ?_)
  go_simp
  refine hK _ ?_
  clear hK K
  with_reducible refine wpQuiet_step (fun K hK => ?_)
  go_simp
  refine hK _ ?_
  clear hK K
  with_reducible refine wpQuiet_step (fun K hK => ?_)
  go_simp
  refine hK _ ?_
  clear hK K
  with_reducible refine wpQuiet_step (fun K hK => ?_)
  go_simp
  refine hK _ ?_
  clear hK K
  with_reducible refine wpQuiet_step (fun K hK => ?_)
  go_simp
  refine hK _ ?_
  clear hK K
  with_reducible refine wpQuiet_step (fun K hK => ?_)
  go_simp
  refine hK _ ?_
  clear hK K
  with_reducible refine wpQuiet_step (fun K hK => ?_)
  go_simp
  refine ⟨_, fun v hv => rfl, hK _ ?_⟩
  clear hK K
  with_reducible refine wpQuiet_step (fun K hK => ?_)
  go_simp
  refine ⟨_, fun v hv => rfl, hK _ ?_⟩
  clear hK K
  with_reducible refine wpQuiet_step (fun K hK => ?_)
  go_simp
  refine ⟨_, fun v hv => rfl, hK _ ?_⟩
  clear hK K
  with_reducible refine wpQuiet_step (fun K hK => ?_)
  go_simp
  refine ⟨_, fun v hv => rfl, hK _ ?_⟩
  clear hK K
  with_reducible refine wpQuiet_step (fun K hK => ?_)
  go_simp
  refine ⟨_, fun v hv => rfl, hK _ ?_⟩
  clear hK K
  with_reducible refine wpQuiet_step (fun K hK => ?_)
  go_simp
  refine ⟨_, fun v hv => rfl, hK _ ?_⟩
  clear hK K
  with_reducible refine wpQuiet_step (fun K hK => ?_)
  go_simp
  refine ⟨_, fun v hv => rfl, hK _ ?_⟩
  clear hK K
  with_reducible refine wpQuiet_step (fun K hK => ?_)
  go_simp
  refine ⟨_, fun v hv => rfl, hK _ ?_⟩
  clear hK K
  with_reducible refine wpQuiet_step (fun K hK => ?_)
  go_simp
  refine ⟨_, fun v hv => rfl, hK _ ?_⟩
  clear hK K
  with_reducible refine wpQuiet_step (fun K hK => ?_)
  go_simp
  refine ⟨_, fun v hv => rfl, hK _ ?_⟩
  clear hK K
  with_reducible refine wpQuiet_step (fun K hK => ?_)
  go_simp
  refine ⟨_, fun v hv => rfl, hK _ ?_⟩
  clear hK K
  with_reducible refine wpQuiet_step (fun K hK => ?_)
  go_simp
  refine ⟨_, fun v hv => rfl, hK _ ?_⟩
  clear hK K
  with_reducible refine wpQuiet_step (fun K hK => ?_)
  go_simp
  refine ⟨.slice none 0 0, fun v hv => ?_, hK _ ?_⟩
  · simp [et1 v hv]
  clear hK K
  with_reducible refine wpQuiet_step (fun K hK => ?_)
  go_simp
  refine ⟨_, fun v hv => rfl, hK _ ?_⟩
  clear hK K
  with_reducible refine wpQuiet_step (fun K hK => ?_)
  go_simp
  refine ⟨_, fun v hv => rfl, hK _ ?_⟩
  clear hK K
  with_reducible refine wpQuiet_step (fun K hK => ?_)
  go_simp
  refine ⟨_, fun v hv => rfl, hK _ ?_⟩
  clear hK K
  with_reducible refine wpQuiet_step (fun K hK => ?_)
  go_simp
  refine ⟨_, fun v hv => rfl, hK _ ?_⟩
  clear hK K
  with_reducible refine wpQuiet_step (fun K hK => ?_)
  go_simp
  refine ⟨_, fun v hv => rfl, hK _ ?_⟩
  clear hK K
  with_reducible refine wpQuiet_step (fun K hK => ?_)
  go_simp
  refine ⟨_, fun v hv => rfl, hK _ ?_⟩
  clear hK K
  with_reducible refine wpQuiet_step (fun K hK => ?_)
  go_simp
  refine ⟨_, fun v hv => rfl, hK _ ?_⟩
  clear hK K
  with_reducible refine wpQuiet_step (fun K hK => ?_)
  go_simp
  refine ⟨_, fun v hv => rfl, hK _ ?_⟩
  clear hK K
  with_reducible refine wpQuiet_step (fun K hK => ?_)
  go_simp
  refine hK _ ?_
  clear hK K
  with_reducible refine wpQuiet_step (fun K hK => ?_)
  go_simp
  refine hK _ ?_
  clear hK K
  with_reducible refine wpQuiet_step (fun K hK => ?_)
  go_simp
  refine hK _ ?_
  clear hK K
  with_reducible refine wpQuiet_step (fun K hK => ?_)
  go_simp
  refine hK _ ?_
  clear hK K
  with_reducible refine wpQuiet_step (fun K hK => ?_)
  go_simp
  refine hK _ ?_
  clear hK K
  with_reducible refine wpQuiet_step (fun K hK => ?_)
  go_simp
  refine hK _ ?_
  clear hK K
  with_reducible refine wpQuiet_step (fun K hK => ?_)
  go_simp
  refine hK _ ?_
  clear hK K
  with_reducible refine wpQuiet_step (fun K hK => ?_)
  go_simp
  refine hK _ ?_
  clear hK K
  with_reducible refine wpQuiet_step (fun K hK => ?_)
  go_simp
  refine hK _ ?_
  clear hK K
  with_reducible refine wpQuiet_step (fun K hK => ?_)
  go_simp
  refine ⟨_, fun v hv => rfl, hK _ ?_⟩
  clear hK K
  with_reducible refine wpQuiet_step (fun K hK => ?_)
  go_simp
  refine ⟨_, fun v hv => rfl, hK _ ?_⟩
  clear hK K
  refine wpQuiet_nil ?_
  intro w6 C1
  have hb := CC.out _ C1
  clear C1 CC cB cT et1
  have hu := hb
  replace HB : Hid _ := bl_trans HB.out hu
  replace K10 := cell_below hu K10
  replace K11 := cell_below hu K11
  replace K20 := cell_below hu K20
  replace K21 := cell_below hu K21
  replace Km0 := cell_below hu Km0
  replace Km1 := cell_below hu Km1
  replace Kt0 := cell_below hu Kt0
  replace Kt1 := cell_below hu Kt1
  clear hu
  clear hb
  go_wp2_with fail
  obtain ⟨C, hC⟩ : ∃ C : World → Prop, C = fun v => Below w6.heap.size w6 v := ⟨_, rfl⟩
  have cB : ∀ v, C v → Below w.heap.size w v := fun v h => by subst hC; exact bl_trans HB.out h
  have cT : ∀ u v, C u → Below u.heap.size u v → C v := fun u v h k => by subst hC; exact bl_trans h k
  have cI : C w6.drew := by subst hC; exact bl_drew (Below.refl _ _)
  have CC : Hid (∀ v, C v → Below w6.heap.size w6 v) := fun v h => by subst hC; exact h
  clear hC
  refine region_calm C (by kernel_rfl) (by kernel_rfl) cI ?_
  clear cI
  with_reducible refine wpQuiet_step (fun K hK => ?_)
  go_simp
  refine ⟨_, fun v hv => rfl, hK _ ?_⟩
  clear hK K
  with_reducible refine wpQuiet_step (fun K hK => ?_)
  go_simp
  refine ⟨_, fun v hv => rfl, hK _ ?_⟩
  clear hK K
  with_reducible refine wpQuiet_step (fun K hK => ?_)
  go_simp
  refine ⟨_, fun v hv => rfl, hK _ ?_⟩
  clear hK K
  with_reducible refine wpQuiet_step (fun K hK => ?_)
  go_simp
  refine hK _ ?_
  clear hK K
  with_reducible refine wpQuiet_step (fun K hK => ?_)
  go_simp
  refine hK _ ?_
  clear hK K
  with_reducible refine wpQuiet_step (fun K hK => ?_)
  go_simp
  refine hK _ ?_
  clear hK K
  with_reducible refine wpQuiet_step (fun K hK => ?_)
  go_simp
  refine hK _ ?_
  clear hK K
  with_reducible refine wpQuiet_step (fun K hK => ?_)
  go_simp
  refine ⟨_, fun v hv => rfl, hK _ ?_⟩
  clear hK K
  with_reducible refine wpQuiet_step (fun K hK => ?_)
  go_simp
  refine ⟨_, fun v hv => rfl, hK _ ?_⟩
  clear hK K
  with_reducible refine wpQuiet_step (fun K hK => ?_)
  go_simp
  refine hK _ ?_
  clear hK K
  with_reducible refine wpQuiet_step (fun K hK => ?_)
  go_simp
  refine hK _ ?_
  clear hK K
  with_reducible refine wpQuiet_step (fun K hK => ?_)
  go_simp
  refine hK _ ?_
  clear hK K
  with_reducible refine wpQuiet_step (fun K hK => ?_)
  go_simp
  refine hK _ ?_
  clear hK K
  with_reducible refine wpQuiet_step (fun K hK => ?_)
  go_simp
  refine hK _ ?_
  clear hK K
  with_reducible refine wpQuiet_step (fun K hK => ?_)
  go_simp
  refine hK _ ?_
  clear hK K
  with_reducible refine wpQuiet_step (fun K hK => ?_)
  go_simp
  refine hK _ ?_
  clear hK K
  with_reducible refine wpQuiet_step (fun K hK => ?_)
  go_simp
  refine hK _ ?_
  clear hK K
  with_reducible refine wpQuiet_step (fun K hK => ?_)
  go_simp
  refine hK _ ?_
  clear hK K
  with_reducible refine wpQuiet_step (fun K hK => ?_)
  go_simp
  refine ⟨_, fun v hv => rfl, hK _ ?_⟩
  clear hK K
  with_reducible refine wpQuiet_step (fun K hK => ?_)
  go_simp
  refine ⟨_, fun v hv => rfl, hK _ ?_⟩
  clear hK K
  with_reducible refine wpQuiet_step (fun K hK => ?_)
  go_simp
  refine hK _ ?_
  clear hK K
  with_reducible refine wpQuiet_step (fun K hK => ?_)
  go_simp
  refine hK _ ?_
  clear hK K
  with_reducible refine wpQuiet_step (fun K hK => ?_)
  go_simp
  refine hK _ ?_
  clear hK K
  with_reducible refine wpQuiet_step (fun K hK => ?_)
  go_simp
  refine hK _ ?_
  clear hK K
  with_reducible refine wpQuiet_step (fun K hK => ?_)
  go_simp
  refine hK _ ?_
  clear hK K
  with_reducible refine wpQuiet_step (fun K hK => ?_)
  go_simp
  refine hK _ ?_
  clear hK K
  with_reducible refine wpQuiet_step (fun K hK => ?_)
  go_simp
  refine hK _ ?_
  clear hK K
  with_reducible refine wpQuiet_step (fun K hK => ?_)
  go_simp
  refine hK _ ?_
  clear hK K
  with_reducible refine wpQuiet_step (fun K hK => ?_)
  go_simp
  refine hK _ ?_
  clear hK K
  with_reducible refine wpQuiet_step (fun K hK => ?_)
  go_simp
  refine hK _ ?_
  clear hK K
  with_reducible refine wpQuiet_step (fun K hK => ?_)
  go_simp
  refine ⟨_, fun v hv => rfl, hK _ ?_⟩
  clear hK K
  refine wpQuiet_nil ?_
  intro w7 C1
  have hb := CC.out _ C1
  clear C1 CC cB cT 
  have hu := hb
  replace HB : Hid _ := bl_trans HB.out hu
  replace K10 := cell_below hu K10
  replace K11 := cell_below hu K11
  replace K20 := cell_below hu K20
  replace K21 := cell_below hu K21
  replace Km0 := cell_below hu Km0
  replace Km1 := cell_below hu Km1
  replace Kt0 := cell_below hu Kt0
  replace Kt1 := cell_below hu Kt1
  clear hu
  clear hb
  go_wp2_with fail
  refine (awake_any aF aZ _ (HE.out.below HB.out)).mono ?_
  rintro e w8 ⟨rfl, hb⟩
  have hu := hb
  replace HB : Hid _ := bl_trans HB.out hu
  replace K10 := cell_below hu K10
  replace K11 := cell_below hu K11
  replace K20 := cell_below hu K20
  replace K21 := cell_below hu K21
  replace Km0 := cell_below hu Km0
  replace Km1 := cell_below hu Km1
  replace Kt0 := cell_below hu Kt0
  replace Kt1 := cell_below hu Kt1
  clear hu
  clear hb
  go_wp2
  go_ret
  exact ⟨rfl, HB.out⟩
end Go.Proofs.YtbfboippaejnmaaGreatDoor.Tn
