/-
  THE WALK OF ArrayProducts, TWO NUMBERS IN THE FIRST SHAPE, no product. Conditions: what the arguments hold.
-/
import Derived.Test.YtbfboippaejnmaaGreatDoorLc
import Derived.Test.YtbfboippaejnmaaGreatDoorTp
import Derived.Test.YtbfboippaejnmaaGreatDoorBar
namespace Go.Proofs.YtbfboippaejnmaaGreatDoor.Tn
set_option maxRecDepth 100000
open Go.RowKit Nm
set_option linter.unusedVariables false

set_option maxHeartbeats 4000000 in
theorem prod_two_no (x y g f : Nat) (a2 b2 : Option Addr) (c1 d1 n1 c2 d2 m2 n2 : Nat) (p q : Nat) (qs : List Rat) (yb : Bool) (er : Int) (aF aZ : Addr) (w : World) (hE : Er w aF aZ)
    (hS1 : ∀ v, Below w.heap.size w v → Calls Tryz.prog 12 #[.agg #[.slice (some ⟨x, y, none⟩) 2 c1, .slice (some ⟨g, f, none⟩) n1 d1]] v fun e w' => e = .returned (.bool true) ∧ Below v.heap.size v w')
    (hS2 : ∀ v, Below w.heap.size w v → Calls Tryz.prog 12 #[.agg #[.slice a2 m2 c2, .slice b2 n2 d2]] v fun e w' => e = .returned (.bool true) ∧ Below v.heap.size v w')
    (hR1 : ∀ v, Below w.heap.size w v → Calls Tryz.prog 16 #[.agg #[.slice (some ⟨x, y, none⟩) 2 c1, .slice (some ⟨g, f, none⟩) n1 d1]] v fun e w' => e = .returned (.bool true) ∧ Below v.heap.size v w')
    (hR2 : ∀ v, Below w.heap.size w v → Calls Tryz.prog 16 #[.agg #[.slice a2 m2 c2, .slice b2 n2 d2]] v fun e w' => e = .returned (.bool yb) ∧ Below v.heap.size v w')
    (hT : Tt w 0 (some ⟨x, y, none⟩) (some ⟨g, f, none⟩) [(p : Int), (q : Int)] 2 n1 qs 40)
    (x0 : w.cell? ⟨x, y, none⟩ = some (.int .i64 (p : Int))) (x1 : w.cell? ⟨x, y + 1, none⟩ = some (.int .i64 (q : Int)))
    (hM : ∀ v, Below w.heap.size w v → Calls Tryz.prog 14 #[.agg #[.slice (some ⟨x, y, none⟩) 2 c1, .slice (some ⟨g, f, none⟩) n1 d1], .agg #[.slice a2 m2 c2, .slice b2 n2 d2]] v fun e w' => e = .returned (noTensor er) ∧ Below v.heap.size v w')
    (H : (yb = false ∧ er = 1) ∨ (yb = true ∧ er = 4 ∧ ((m2 : Int) != 2) = true ∧ ((m2 : Int) == 2) = false) ∨ (yb = true ∧ er = 4 ∧ m2 = 2 ∧ ∃ x2 y2 r s : Nat, a2 = some ⟨x2, y2, none⟩ ∧ Hid (∀ v, Below w.heap.size w v → v.cell? ⟨x2, y2, none⟩ = some (.int .i64 (r : Int)) ∧ v.cell? ⟨x2, y2 + 1, none⟩ = some (.int .i64 (s : Int))) ∧ s ≤ 64 ∧ (¬ q = r ∨ (q = r ∧ 64 < p * s)))) :
    Calls Tryz.prog 3 #[.agg #[.slice (some ⟨x, y, none⟩) 2 c1, .slice (some ⟨g, f, none⟩) n1 d1], .agg #[.slice a2 m2 c2, .slice b2 n2 d2]] w fun e w' => e = .returned (.bool true) ∧ Below w.heap.size w w' := by
  have HE : Hid _ := hE
  clear hE
  have HB : Hid (Below w.heap.size w w) := Below.refl _ _
  have HH : Hid _ := H
  clear H
  have HTa0 : Hid _ := hT
  have X0 : Hid (∀ v, Below w.heap.size w v → v.cell? ⟨x, y, none⟩ = some (.int .i64 (p : Int)) ∧ v.cell? ⟨x, y + 1, none⟩ = some (.int .i64 (q : Int))) := fun v hv => ⟨cell_below hv x0, cell_below hv x1⟩
  clear hT x0 x1
  have HTa : Hid _ := HTa0.out
  have hu := bl_alloc (Below.refl w.heap.size w) (.cells #[.slice (some ⟨x, y, none⟩) 2 c1, .slice (some ⟨g, f, none⟩) n1 d1] 25)
  replace HB : Hid _ := bl_trans HB.out hu
  replace HTa : Hid _ := HTa.out.below hu
  clear hu
  have K10 : (w.alloc (.cells #[.slice (some ⟨x, y, none⟩) 2 c1, .slice (some ⟨g, f, none⟩) n1 d1] 25)).cell? ⟨w.heap.size, 0, none⟩ = some (.slice (some ⟨x, y, none⟩) 2 c1) := by first | rw [World.cell?_alloc_at _ _ _ _ (by simp)]; rfl | simp
  have K11 : (w.alloc (.cells #[.slice (some ⟨x, y, none⟩) 2 c1, .slice (some ⟨g, f, none⟩) n1 d1] 25)).cell? ⟨w.heap.size, 1, none⟩ = some (.slice (some ⟨g, f, none⟩) n1 d1) := by first | rw [World.cell?_alloc_at _ _ _ _ (by simp)]; rfl | simp
  have hu := bl_alloc (Below.refl (w.alloc (.cells #[.slice (some ⟨x, y, none⟩) 2 c1, .slice (some ⟨g, f, none⟩) n1 d1] 25)).heap.size (w.alloc (.cells #[.slice (some ⟨x, y, none⟩) 2 c1, .slice (some ⟨g, f, none⟩) n1 d1] 25))) (.cells #[.slice a2 m2 c2, .slice b2 n2 d2] 25)
  replace HB : Hid _ := bl_trans HB.out hu
  replace HTa : Hid _ := HTa.out.below hu
  replace K10 := cell_below hu K10
  replace K11 := cell_below hu K11
  clear hu
  have K20 : ((w.alloc (.cells #[.slice (some ⟨x, y, none⟩) 2 c1, .slice (some ⟨g, f, none⟩) n1 d1] 25)).alloc (.cells #[.slice a2 m2 c2, .slice b2 n2 d2] 25)).cell? ⟨w.heap.size + 1, 0, none⟩ = some (.slice a2 m2 c2) := by first | rw [World.cell?_alloc_at _ _ _ _ (by simp)]; rfl | simp
  have K21 : ((w.alloc (.cells #[.slice (some ⟨x, y, none⟩) 2 c1, .slice (some ⟨g, f, none⟩) n1 d1] 25)).alloc (.cells #[.slice a2 m2 c2, .slice b2 n2 d2] 25)).cell? ⟨w.heap.size + 1, 1, none⟩ = some (.slice b2 n2 d2) := by first | rw [World.cell?_alloc_at _ _ _ _ (by simp)]; rfl | simp
  go_enter Tryz.func3, Tryz.ntmps3
  go_wp2_with fail
  refine (hS1 _ HB.out).mono ?_
  rintro e w1 ⟨rfl, hb⟩
  have hu := hb
  replace HB : Hid _ := bl_trans HB.out hu
  replace HTa : Hid _ := HTa.out.below hu
  replace K10 := cell_below hu K10
  replace K11 := cell_below hu K11
  replace K20 := cell_below hu K20
  replace K21 := cell_below hu K21
  clear hu
  clear hb
  go_wp2_with fail
  refine (hS2 _ HB.out).mono ?_
  rintro e w2 ⟨rfl, hb⟩
  have hu := hb
  replace HB : Hid _ := bl_trans HB.out hu
  replace HTa : Hid _ := HTa.out.below hu
  replace K10 := cell_below hu K10
  replace K11 := cell_below hu K11
  replace K20 := cell_below hu K20
  replace K21 := cell_below hu K21
  clear hu
  clear hb
  go_wp2_with fail
  refine (hM _ HB.out).mono ?_
  rintro e w3 ⟨rfl, hb⟩
  have hu := bl_alloc hb (.cells #[.slice none 0 0, .slice none 0 0] 25)
  replace HB : Hid _ := bl_trans HB.out hu
  replace HTa : Hid _ := HTa.out.below hu
  replace K10 := cell_below hu K10
  replace K11 := cell_below hu K11
  replace K20 := cell_below hu K20
  replace K21 := cell_below hu K21
  clear hu
  have Km0 : (w3.alloc (.cells #[.slice none 0 0, .slice none 0 0] 25)).cell? ⟨w3.heap.size, 0, none⟩ = some (.slice none 0 0) := by simp
  have Km1 : (w3.alloc (.cells #[.slice none 0 0, .slice none 0 0] 25)).cell? ⟨w3.heap.size, 1, none⟩ = some (.slice none 0 0) := by simp
  clear hb
  go_wp2_with fail
  refine (ztr c1 d1 (HE.out.below HB.out) HTa.out (by omega)).mono ?_
  rintro e w4 ⟨a4', c4', b4', d4', rfl, hT, hb⟩
  have hu := bl_alloc hb (.cells #[.slice a4' 2 c4', .slice b4' n1 d4'] 25)
  replace HB : Hid _ := bl_trans HB.out hu
  replace HTa : Hid _ := HTa.out.below hu
  replace K10 := cell_below hu K10
  replace K11 := cell_below hu K11
  replace K20 := cell_below hu K20
  replace K21 := cell_below hu K21
  replace Km0 := cell_below hu Km0
  replace Km1 := cell_below hu Km1
  clear hu
  have HTt : Hid _ := hT.below (bl_alloc (Below.refl w4.heap.size w4) (.cells #[.slice a4' 2 c4', .slice b4' n1 d4'] 25))
  have Kt0 : (w4.alloc (.cells #[.slice a4' 2 c4', .slice b4' n1 d4'] 25)).cell? ⟨w4.heap.size, 0, none⟩ = some (.slice a4' 2 c4') := by simp
  have Kt1 : (w4.alloc (.cells #[.slice a4' 2 c4', .slice b4' n1 d4'] 25)).cell? ⟨w4.heap.size, 1, none⟩ = some (.slice b4' n1 d4') := by simp
  clear hb hT
  go_wp2_with fail
  obtain ⟨C, hC⟩ : ∃ C : World → Prop, C = fun v => Below (w4.alloc (.cells #[.slice a4' 2 c4', .slice b4' n1 d4'] 25)).heap.size (w4.alloc (.cells #[.slice a4' 2 c4', .slice b4' n1 d4'] 25)) v := ⟨_, rfl⟩
  have e10 : ∀ v, C v → v.cell? ⟨w.heap.size, 0, none⟩ = some (.slice (some ⟨x, y, none⟩) 2 c1) := fun v h => by subst hC; exact cell_below h K10
  have e11 : ∀ v, C v → v.cell? ⟨w.heap.size, 1, none⟩ = some (.slice (some ⟨g, f, none⟩) n1 d1) := fun v h => by subst hC; exact cell_below h K11
  have e20 : ∀ v, C v → v.cell? ⟨w.heap.size + 1, 0, none⟩ = some (.slice a2 m2 c2) := fun v h => by subst hC; exact cell_below h K20
  have e21 : ∀ v, C v → v.cell? ⟨w.heap.size + 1, 1, none⟩ = some (.slice b2 n2 d2) := fun v h => by subst hC; exact cell_below h K21
  have cB : ∀ v, C v → Below w.heap.size w v := fun v h => by subst hC; exact bl_trans HB.out h
  have cT : ∀ u v, C u → Below u.heap.size u v → C v := fun u v h k => by subst hC; exact bl_trans h k
  have cI : C (w4.alloc (.cells #[.slice a4' 2 c4', .slice b4' n1 d4'] 25)).drew := by subst hC; exact bl_drew (Below.refl _ _)
  have CC : Hid (∀ v, C v → Below (w4.alloc (.cells #[.slice a4' 2 c4', .slice b4' n1 d4'] 25)).heap.size (w4.alloc (.cells #[.slice a4' 2 c4', .slice b4' n1 d4'] 25)) v) := fun v h => by subst hC; exact h
  clear hC
  refine region_calm C (by kernel_rfl) (by kernel_rfl) cI ?_
  clear cI
  with_reducible refine wpQuiet_step (fun K hK => ?_)
  go_simp
  refine ⟨.agg #[.slice (some ⟨x, y, none⟩) 2 c1, .slice (some ⟨g, f, none⟩) n1 d1], fun v hv => ?_, hK _ ?_⟩
  · simp [e10 v hv, e11 v hv]
  clear hK K
  with_reducible refine wpQuiet_step (fun K hK => ?_)
  go_simp
  refine ⟨.bool true, fun v hv => ?_, hK _ ?_⟩
  · exact calm_call cT hv (hR1 v (cB v hv))
  clear hK K
  with_reducible refine wpQuiet_step (fun K hK => ?_)
  go_simp
  refine ⟨.agg #[.slice a2 m2 c2, .slice b2 n2 d2], fun v hv => ?_, hK _ ?_⟩
  · simp [e20 v hv, e21 v hv]
  clear hK K
  with_reducible refine wpQuiet_step (fun K hK => ?_)
  go_simp
  refine ⟨.bool yb, fun v hv => ?_, hK _ ?_⟩
  · exact calm_call cT hv (hR2 v (cB v hv))
  clear hK K
  with_reducible refine wpQuiet_step (fun K hK => ?_)
  go_simp
  refine ⟨_, fun v hv => rfl, hK _ ?_⟩
  clear hK K
  with_reducible refine wpQuiet_step (fun K hK => ?_)
  go_simp
  refine ⟨_, fun v hv => rfl, hK _ ?_⟩
  clear hK K
  refine wpQuiet_nil ?_
  intro w5 C1
  have hb := CC.out _ C1
  clear C1 CC cB cT e10 e11 e20 e21
  have hu := hb
  replace HB : Hid _ := bl_trans HB.out hu
  replace HTa : Hid _ := HTa.out.below hu
  replace HTt : Hid _ := HTt.out.below hu
  replace K10 := cell_below hu K10
  replace K11 := cell_below hu K11
  replace K20 := cell_below hu K20
  replace K21 := cell_below hu K21
  replace Km0 := cell_below hu Km0
  replace Km1 := cell_below hu Km1
  replace Kt0 := cell_below hu Kt0
  replace Kt1 := cell_below hu Kt1
  clear hu
  clear hb
  go_wp2_with fail
  obtain ⟨C, hC⟩ : ∃ C : World → Prop, C = fun v => Below w5.heap.size w5 v := ⟨_, rfl⟩
  have e10 : ∀ v, C v → v.cell? ⟨w.heap.size, 0, none⟩ = some (.slice (some ⟨x, y, none⟩) 2 c1) := fun v h => by subst hC; exact cell_below h K10
  have e11 : ∀ v, C v → v.cell? ⟨w.heap.size, 1, none⟩ = some (.slice (some ⟨g, f, none⟩) n1 d1) := fun v h => by subst hC; exact cell_below h K11
  have et0 : ∀ v, C v → v.cell? ⟨w4.heap.size, 0, none⟩ = some (.slice a4' 2 c4') := fun v h => by subst hC; exact cell_below h Kt0
  have et1 : ∀ v, C v → v.cell? ⟨w4.heap.size, 1, none⟩ = some (.slice b4' n1 d4') := fun v h => by subst hC; exact cell_below h Kt1
  have cB : ∀ v, C v → Below w.heap.size w v := fun v h => by subst hC; exact bl_trans HB.out h
  have cT : ∀ u v, C u → Below u.heap.size u v → C v := fun u v h k => by subst hC; exact bl_trans h k
  have cI : C w5.drew := by subst hC; exact bl_drew (Below.refl _ _)
  have CC : Hid (∀ v, C v → Below w5.heap.size w5 v) := fun v h => by subst hC; exact h
  clear hC
  refine region_bar 35 C (by kernel_rfl) (by kernel_rfl) (by kernel_rfl) cI ?_
  clear cI
  simp only [List.take_succ_cons, List.take_zero]
  with_reducible refine wpQuiet_step (fun K hK => ?_)
  go_simp
  refine ⟨_, fun v hv => rfl, hK _ ?_⟩
  clear hK K
  with_reducible refine wpQuiet_step (fun K hK => ?_)
  go_simp
  refine ⟨_, fun v hv => rfl, hK _ ?_⟩
  clear hK K
  with_reducible refine wpQuiet_step (fun K hK => ?_)
  go_simp
  refine ⟨_, fun v hv => rfl, hK _ ?_⟩
  clear hK K
  with_reducible refine wpQuiet_step (fun K hK => ?_)
  go_simp
  refine hK _ ?_
  clear hK K
  with_reducible refine wpQuiet_step (fun K hK => ?_)
  go_simp
  refine hK _ ?_
  clear hK K
  with_reducible refine wpQuiet_step (fun K hK => ?_)
  go_simp
  refine hK _ ?_
  clear hK K
  with_reducible refine wpQuiet_step (fun K hK => ?_)
  go_simp
  refine hK _ ?_
  clear hK K
  with_reducible refine wpQuiet_step (fun K hK => ?_)
  go_simp
  refine hK _ ?_
  clear hK K
  with_reducible refine wpQuiet_step (fun K hK => ?_)
  go_simp
  refine hK _ ?_
  clear hK K
  with_reducible refine wpQuiet_step (fun K hK => ?_)
  go_simp
  refine hK _ ?_
  clear hK K
  with_reducible refine wpQuiet_step (fun K hK => ?_)
  go_simp
  refine hK _ ?_
  clear hK K
  with_reducible refine wpQuiet_step (fun K hK => ?_)
  go_simp
  refine ⟨_, fun v hv => rfl, hK _ ?_⟩
  clear hK K
  with_reducible refine wpQuiet_step (fun K hK => ?_)
  go_simp
  refine ⟨_, fun v hv => rfl, hK _ ?_⟩
  clear hK K
  with_reducible refine wpQuiet_step (fun K hK => ?_)
  go_simp
  refine ⟨_, fun v hv => rfl, hK _ ?_⟩
  clear hK K
  with_reducible refine wpQuiet_step (fun K hK => ?_)
  go_simp
  refine ⟨_, fun v hv => rfl, hK _ ?_⟩
  clear hK K
  with_reducible refine wpQuiet_step (fun K hK => ?_)
  go_simp
  refine ⟨_, fun v hv => rfl, hK _ ?_⟩
  clear hK K
  with_reducible refine wpQuiet_step (fun K hK => ?_)
  go_simp
  refine ⟨_, fun v hv => rfl, hK _ ?_⟩
  clear hK K
  with_reducible refine wpQuiet_step (fun K hK => ?_)
  go_simp
  refine ⟨_, fun v hv => rfl, hK _ ?_⟩
  clear hK K
  with_reducible refine wpQuiet_step (fun K hK => ?_)
  go_simp
  refine ⟨_, fun v hv => rfl, hK _ ?_⟩
  clear hK K
  with_reducible refine wpQuiet_step (fun K hK => ?_)
  go_simp
  refine hK _ ?_
  clear hK K
  with_reducible refine wpQuiet_step (fun K hK => ?_)
  go_simp
  refine hK _ ?_
  clear hK K
  with_reducible refine wpQuiet_step (fun K hK => ?_)
  go_simp
  refine hK _ ?_
  clear hK K
  with_reducible refine wpQuiet_step (fun K hK => ?_)
  go_simp
  refine hK _ ?_
  clear hK K
  with_reducible refine wpQuiet_step (fun K hK => ?_)
  go_simp
  refine hK _ ?_
  clear hK K
  with_reducible refine wpQuiet_step (fun K hK => ?_)
  go_simp
  refine hK _ ?_
  clear hK K
  with_reducible refine wpQuiet_step (fun K hK => ?_)
  go_simp
  refine hK _ ?_
  clear hK K
  with_reducible refine wpQuiet_step (fun K hK => ?_)
  go_simp
  refine hK _ ?_
  clear hK K
  with_reducible refine wpQuiet_step (fun K hK => ?_)
  go_simp
  refine ⟨_, fun v hv => rfl, hK _ ?_⟩
  clear hK K
  with_reducible refine wpQuiet_step (fun K hK => ?_)
  go_simp
  refine ⟨_, fun v hv => rfl, hK _ ?_⟩
  clear hK K
  with_reducible refine wpQuiet_step (fun K hK => ?_)
  go_simp
  refine ⟨_, fun v hv => rfl, hK _ ?_⟩
  clear hK K
  with_reducible refine wpQuiet_step (fun K hK => ?_)
  go_simp
  refine ⟨_, fun v hv => rfl, hK _ ?_⟩
  clear hK K
  with_reducible refine wpQuiet_step (fun K hK => ?_)
  go_simp
  refine ⟨_, fun v hv => rfl, hK _ ?_⟩
  clear hK K
  with_reducible refine wpQuiet_step (fun K hK => ?_)
  go_simp
  refine ⟨_, fun v hv => rfl, hK _ ?_⟩
  clear hK K
  with_reducible refine wpQuiet_step (fun K hK => ?_)
  go_simp
  refine ⟨_, fun v hv => rfl, hK _ ?_⟩
  clear hK K
  with_reducible refine wpQuiet_step (fun K hK => ?_)
  go_simp
  refine ⟨_, fun v hv => rfl, hK _ ?_⟩
  clear hK K
  refine wpQuiet_nil ?_
  intro w6 C1
  have hb := CC.out _ C1
  clear C1 CC cB cT e10 e11 et0 et1
  have hu := hb
  replace HB : Hid _ := bl_trans HB.out hu
  replace HTa : Hid _ := HTa.out.below hu
  replace HTt : Hid _ := HTt.out.below hu
  replace K10 := cell_below hu K10
  replace K11 := cell_below hu K11
  replace K20 := cell_below hu K20
  replace K21 := cell_below hu K21
  replace Km0 := cell_below hu Km0
  replace Km1 := cell_below hu Km1
  replace Kt0 := cell_below hu Kt0
  replace Kt1 := cell_below hu Kt1
  clear hu
  clear hb

  have hTr := fun (v : World) (hv : Below w6.heap.size w6 v) => rtr_any x y g f c1 d1 n1 p q 40 qs v (HTa.out.below hv) (X0.out v (bl_trans HB.out hv)).1 (X0.out v (bl_trans HB.out hv)).2
  refine any_fork 35 36 37 ((((pad (Array.replicate 35 true) 8).setIfInBounds 35 true).setIfInBounds 36 true).setIfInBounds 37 true) (by kernel_rfl) (by kernel_rfl) (by kernel_rfl) (by kernel_rfl) (by kernel_rfl) (by kernel_rfl) rfl (by kernel_rfl) (by kernel_rfl) (fun K hK => ?_)
  have fin : ∀ (a9 : Option Addr) (c9 : Nat) (b9 : Option Addr) (d9 : Nat) (v : World), Below w6.heap.size w6 v → Tt v 0 a9 b9 [(q : Int), (p : Int)] 2 n1 (tr p q qs) 40 → K ⟨#[Value.agg #[Value.slice (some { block := x, off := y }) 2 c1, Value.slice (some { block := g, off := f }) n1 d1], Value.agg #[Value.slice a2 m2 c2, Value.slice b2 n2 d2], Value.pointer (some { block := w.heap.size, off := 0 }), Value.pointer (some { block := w.heap.size + 1, off := 0 }), Value.bool false, Value.pointer (some { block := w3.heap.size, off := 0 }), Value.int IntKind.i64 er, Value.pointer (some { block := w4.heap.size, off := 0 }), Value.int IntKind.i64 0, Value.bool true, Value.bool yb, Value.bool true, Value.agg #[Value.slice (some { block := x, off := y }) 2 c1, Value.slice (some { block := g, off := f }) n1 d1], Value.bool true, Value.bool false, Value.bool false, Value.agg #[Value.slice a2 m2 c2, Value.slice b2 n2 d2], Value.bool true, Value.bool false, Value.bool false, undef, noTensor er, Value.agg #[Value.slice (some { block := x, off := y }) 2 c1, Value.slice (some { block := g, off := f }) n1 d1], Value.agg #[Value.slice a2 m2 c2, Value.slice b2 n2 d2], noTensor er, Value.agg #[Value.slice none 0 0, Value.slice none 0 0], Value.int IntKind.i64 er, Value.tuple #[Value.agg #[Value.slice a4' 2 c4', Value.slice b4' n1 d4'], Value.int IntKind.i64 0], Value.agg #[Value.slice (some { block := x, off := y }) 2 c1, Value.slice (some { block := g, off := f }) n1 d1], Value.tuple #[Value.agg #[Value.slice a4' 2 c4', Value.slice b4' n1 d4'], Value.int IntKind.i64 0], Value.agg #[Value.slice a4' 2 c4', Value.slice b4' n1 d4'], Value.int IntKind.i64 0, Value.agg #[Value.slice (some { block := x, off := y }) 2 c1, Value.slice (some { block := g, off := f }) n1 d1], Value.bool true, Value.agg #[Value.slice a2 m2 c2, Value.slice b2 n2 d2], Value.bool yb, Value.bool true, Value.bool true, Value.pointer (some { block := w.heap.size, off := 0 }), Value.slice (some { block := x, off := y }) 2 c1, Value.int IntKind.i64 2, Value.bool true, Value.bool true, Value.bool true, Value.bool false, Value.bool false, undef, undef, undef, undef, undef, undef, undef, undef, Value.bool false, Value.bool false, Value.bool true, Value.bool true, Value.bool true, Value.bool false, Value.bool false, Value.bool false, undef, undef, undef, undef, undef, undef, undef, undef, Value.bool false, Value.bool false, Value.bool false, Value.bool true, Value.bool true, Value.int IntKind.i64 0, Value.bool false, Value.bool false, Value.agg #[Value.slice a4' 2 c4', Value.slice b4' n1 d4'], Value.agg #[Value.slice (some { block := x, off := y }) 2 c1, Value.slice (some { block := g, off := f }) n1 d1], (.agg #[.slice a9 2 c9, .slice b9 n1 d9]), undef, undef, undef, undef, undef, undef, undef, undef, undef, undef, undef, undef, undef, undef, undef, undef, undef, undef, undef, undef, undef, undef, undef, undef, undef, undef, undef, undef, undef, undef, undef, undef, undef, undef, undef, undef, undef, undef, undef, undef, undef, undef, undef, undef, undef, undef, undef, undef, undef, undef, undef, undef, undef, undef, undef, undef, undef, undef, undef, undef, undef, undef, undef, undef, undef, undef, undef, undef, undef, undef, undef, undef, undef, undef, undef, undef], []⟩ v := by
    intro a9 c9 b9 d9 v hb h9
    clear hTr
    have HTz : Hid _ := h9
    have hu := hb
    replace HB : Hid _ := bl_trans HB.out hu
    replace HTa : Hid _ := HTa.out.below hu
    replace HTt : Hid _ := HTt.out.below hu
    replace K10 := cell_below hu K10
    replace K11 := cell_below hu K11
    replace K20 := cell_below hu K20
    replace K21 := cell_below hu K21
    replace Km0 := cell_below hu Km0
    replace Km1 := cell_below hu Km1
    replace Kt0 := cell_below hu Kt0
    replace Kt1 := cell_below hu Kt1
    clear hu
    clear hb h9
    refine hK _ _ ?_
    clear hK K
    refine any_one 38 _ (by kernel_rfl) rfl (fun K hK => ?_)
    go_simp
    refine (zeq c4' d4' c9 d9 HTt.out HTz.out rfl).mono ?_
    rintro e v2 ⟨rfl, hb⟩
    have hu := hb
    replace HB : Hid _ := bl_trans HB.out hu
    replace HTa : Hid _ := HTa.out.below hu
    replace HTt : Hid _ := HTt.out.below hu
    replace HTz : Hid _ := HTz.out.below hu
    replace K10 := cell_below hu K10
    replace K11 := cell_below hu K11
    replace K20 := cell_below hu K20
    replace K21 := cell_below hu K21
    replace Km0 := cell_below hu Km0
    replace Km1 := cell_below hu Km1
    replace Kt0 := cell_below hu Kt0
    replace Kt1 := cell_below hu Kt1
    clear hu
    clear hb
    refine hK _ _ ?_
    clear hK K
    refine any_one 39 _ (by kernel_rfl) rfl (fun K hK => ?_)
    go_simp
    refine hK _ _ ?_
    clear hK K
    refine any_one 40 _ (by kernel_rfl) rfl (fun K hK => ?_)
    go_simp
    refine hK _ _ ?_
    clear hK K
    refine any_one 41 _ (by kernel_rfl) rfl (fun K hK => ?_)
    go_simp
    refine hK _ _ ?_
    clear hK K
    refine any_one 42 _ (by kernel_rfl) rfl (fun K hK => ?_)
    go_simp
    refine hK _ _ ?_
    clear hK K
    refine any_end (by kernel_rfl) ?_
    have hp64 := (two_le ⟨HTa0.out.two.2.2.1, HTa0.out.two.2.2.2.1, HTa0.out.two.2.2.2.2⟩).1
    have H := HH.out
    clear HH
    rcases H with ⟨rfl, rfl⟩ | ⟨rfl, rfl, hm1, hm2⟩ | ⟨rfl, rfl, rfl, x2, y2, r, s, rfl, hC, hs64, hD⟩
    · skip
      go_wp2_with fail
      refine (awake_any aF aZ _ (HE.out.below HB.out)).mono ?_
      rintro e w7 ⟨rfl, hb⟩
      have hu := hb
      replace HB : Hid _ := bl_trans HB.out hu
      replace HTa : Hid _ := HTa.out.below hu
      replace HTt : Hid _ := HTt.out.below hu
      replace HTz : Hid _ := HTz.out.below hu
      replace K10 := cell_below hu K10
      replace K11 := cell_below hu K11
      replace K20 := cell_below hu K20
      replace K21 := cell_below hu K21
      replace Km0 := cell_below hu Km0
      replace Km1 := cell_below hu Km1
      replace Kt0 := cell_below hu Kt0
      replace Kt1 := cell_below hu Kt1
      clear hu
      clear hb
      go_wp2
      go_ret
      exact ⟨rfl, HB.out⟩
    · skip
      go_wp2_with fail
      obtain ⟨C, hC⟩ : ∃ C : World → Prop, C = fun v => Below v2.heap.size v2 v := ⟨_, rfl⟩
      have e20 : ∀ v, C v → v.cell? ⟨w.heap.size + 1, 0, none⟩ = some (.slice a2 m2 c2) := fun v h => by subst hC; exact cell_below h K20
      have cB : ∀ v, C v → Below w.heap.size w v := fun v h => by subst hC; exact bl_trans HB.out h
      have cT : ∀ u v, C u → Below u.heap.size u v → C v := fun u v h k => by subst hC; exact bl_trans h k
      have cI : C v2.drew := by subst hC; exact bl_drew (Below.refl _ _)
      have CC : Hid (∀ v, C v → Below v2.heap.size v2 v) := fun v h => by subst hC; exact h
      clear hC
      refine region_calm C (by kernel_rfl) (by kernel_rfl) cI ?_
      clear cI
      with_reducible refine wpQuiet_step (fun K hK => ?_)
      go_simp
      refine ⟨_, fun v hv => rfl, hK _ ?_⟩
      clear hK K
      with_reducible refine wpQuiet_step (fun K hK => ?_)
      go_simp
      refine ⟨_, fun v hv => rfl, hK _ ?_⟩
      clear hK K
      with_reducible refine wpQuiet_step (fun K hK => ?_)
      go_simp
      refine ⟨_, fun v hv => rfl, hK _ ?_⟩
      clear hK K
      with_reducible refine wpQuiet_step (fun K hK => ?_)
      go_simp
      refine ⟨_, fun v hv => rfl, hK _ ?_⟩
      clear hK K
      with_reducible refine wpQuiet_step (fun K hK => ?_)
      go_simp
      refine ⟨.slice a2 m2 c2, fun v hv => ?_, hK _ ?_⟩
      · simp [e20 v hv]
      clear hK K
      with_reducible refine wpQuiet_step (fun K hK => ?_)
      go_simp
      refine ⟨_, fun v hv => rfl, hK _ ?_⟩
      clear hK K
      with_reducible refine wpQuiet_step (fun K hK => ?_)
      go_simp
      refine ⟨_, fun v hv => rfl, hK _ ?_⟩
      clear hK K
      with_reducible refine wpQuiet_step (fun K hK => ?_)
      go_simp
      refine ⟨_, fun v hv => rfl, hK _ ?_⟩
      clear hK K
      with_reducible refine wpQuiet_step (fun K hK => ?_)
      go_simp
      refine ⟨_, fun v hv => rfl, hK _ ?_⟩
      clear hK K
      with_reducible refine wpQuiet_step (fun K hK => ?_)
      go_simp
      refine hK _ ?_
      clear hK K
      with_reducible refine wpQuiet_step (fun K hK => ?_)
      go_simp
      refine hK _ ?_
      clear hK K
      with_reducible refine wpQuiet_step (fun K hK => ?_)
      go_simp
      refine hK _ ?_
      clear hK K
      with_reducible refine wpQuiet_step (fun K hK => ?_)
      go_simp
      refine hK _ ?_
      clear hK K
      with_reducible refine wpQuiet_step (fun K hK => ?_)
      go_simp
      refine hK _ ?_
      clear hK K
      with_reducible refine wpQuiet_step (fun K hK => ?_)
      go_simp
      refine hK _ ?_
      clear hK K
      with_reducible refine wpQuiet_step (fun K hK => ?_)
      go_simp
      refine hK _ ?_
      clear hK K
      with_reducible refine wpQuiet_step (fun K hK => ?_)
      go_simp
      refine hK _ ?_
      clear hK K
      with_reducible refine wpQuiet_step (fun K hK => ?_)
      go_simp
      refine hK _ ?_
      clear hK K
      with_reducible refine wpQuiet_step (fun K hK => ?_)
      go_simp
      refine ⟨_, fun v hv => rfl, hK _ ?_⟩
      clear hK K
      with_reducible refine wpQuiet_step (fun K hK => ?_)
      go_simp
      refine ⟨_, fun v hv => rfl, hK _ ?_⟩
      clear hK K
      with_reducible refine wpQuiet_step (fun K hK => ?_)
      go_simp
      refine hK _ ?_
      clear hK K
      with_reducible refine wpQuiet_step (fun K hK => ?_)
      go_simp
      refine hK _ ?_
      clear hK K
      with_reducible refine wpQuiet_step (fun K hK => ?_)
      go_simp
      refine hK _ ?_
      clear hK K
      with_reducible refine wpQuiet_step (fun K hK => ?_)
      go_simp
      refine hK _ ?_
      clear hK K
      with_reducible refine wpQuiet_step (fun K hK => ?_)
      go_simp
      refine hK _ ?_
      clear hK K
      with_reducible refine wpQuiet_step (fun K hK => ?_)
      go_simp
      refine hK _ ?_
      clear hK K
      with_reducible refine wpQuiet_step (fun K hK => ?_)
      go_simp
      refine hK _ ?_
      clear hK K
      with_reducible refine wpQuiet_step (fun K hK => ?_)
      go_simp
      refine hK _ ?_
      clear hK K
      with_reducible refine wpQuiet_step (fun K hK => ?_)
      go_simp
      refine hK _ ?_
      clear hK K
      with_reducible refine wpQuiet_step (fun K hK => ?_)
      go_simp
      refine hK _ ?_
      clear hK K
      with_reducible refine wpQuiet_step (fun K hK => ?_)
      go_simp
      refine ⟨_, fun v hv => rfl, hK _ ?_⟩
      clear hK K
      refine wpQuiet_nil ?_
      intro w7 C1
      have hb := CC.out _ C1
      clear C1 CC cB cT e20
      have hu := hb
      replace HB : Hid _ := bl_trans HB.out hu
      replace HTa : Hid _ := HTa.out.below hu
      replace HTt : Hid _ := HTt.out.below hu
      replace HTz : Hid _ := HTz.out.below hu
      replace K10 := cell_below hu K10
      replace K11 := cell_below hu K11
      replace K20 := cell_below hu K20
      replace K21 := cell_below hu K21
      replace Km0 := cell_below hu Km0
      replace Km1 := cell_below hu Km1
      replace Kt0 := cell_below hu Kt0
      replace Kt1 := cell_below hu Kt1
      clear hu
      clear hb
      go_wp2_with fail
      refine (awake_any aF aZ _ (HE.out.below HB.out)).mono ?_
      rintro e w8 ⟨rfl, hb⟩
      have hu := hb
      replace HB : Hid _ := bl_trans HB.out hu
      replace HTa : Hid _ := HTa.out.below hu
      replace HTt : Hid _ := HTt.out.below hu
      replace HTz : Hid _ := HTz.out.below hu
      replace K10 := cell_below hu K10
      replace K11 := cell_below hu K11
      replace K20 := cell_below hu K20
      replace K21 := cell_below hu K21
      replace Km0 := cell_below hu Km0
      replace Km1 := cell_below hu Km1
      replace Kt0 := cell_below hu Kt0
      replace Kt1 := cell_below hu Kt1
      clear hu
      clear hb
      go_wp2
      go_ret
      exact ⟨rfl, HB.out⟩
    · skip
      rcases hD with hD | ⟨rfl, hD⟩
      · skip
        have c0 := (X0.out _ HB.out).1
        have c1' := (X0.out _ HB.out).2
        have c2' := (hC.out _ HB.out).1
        have c3 := (hC.out _ HB.out).2
        clear hC
        have hne := int_no hD
        have hne' := int_ne hD
        go_wp2_with fail
        obtain ⟨C, hC⟩ : ∃ C : World → Prop, C = fun v => Below v2.heap.size v2 v := ⟨_, rfl⟩
        have e10 : ∀ v, C v → v.cell? ⟨w.heap.size, 0, none⟩ = some (.slice (some ⟨x, y, none⟩) 2 c1) := fun v h => by subst hC; exact cell_below h K10
        have e20 : ∀ v, C v → v.cell? ⟨w.heap.size + 1, 0, none⟩ = some (.slice (some ⟨x2, y2, none⟩) 2 c2) := fun v h => by subst hC; exact cell_below h K20
        have x0 : ∀ v, C v → v.cell? ⟨x, y, none⟩ = some (.int .i64 (p : Int)) := fun v h => by subst hC; exact cell_below h c0
        have x1 : ∀ v, C v → v.cell? ⟨x, y + 1, none⟩ = some (.int .i64 (q : Int)) := fun v h => by subst hC; exact cell_below h c1'
        have y0 : ∀ v, C v → v.cell? ⟨x2, y2, none⟩ = some (.int .i64 (r : Int)) := fun v h => by subst hC; exact cell_below h c2'
        have y1 : ∀ v, C v → v.cell? ⟨x2, y2 + 1, none⟩ = some (.int .i64 (s : Int)) := fun v h => by subst hC; exact cell_below h c3
        have cB : ∀ v, C v → Below w.heap.size w v := fun v h => by subst hC; exact bl_trans HB.out h
        have cT : ∀ u v, C u → Below u.heap.size u v → C v := fun u v h k => by subst hC; exact bl_trans h k
        have cI : C v2.drew := by subst hC; exact bl_drew (Below.refl _ _)
        have CC : Hid (∀ v, C v → Below v2.heap.size v2 v) := fun v h => by subst hC; exact h
        clear hC
        refine region_calm C (by kernel_rfl) (by kernel_rfl) cI ?_
        clear cI
        with_reducible refine wpQuiet_step (fun K hK => ?_)
        go_simp
        refine ⟨_, fun v hv => rfl, hK _ ?_⟩
        clear hK K
        with_reducible refine wpQuiet_step (fun K hK => ?_)
        go_simp
        refine ⟨_, fun v hv => rfl, hK _ ?_⟩
        clear hK K
        with_reducible refine wpQuiet_step (fun K hK => ?_)
        go_simp
        refine ⟨_, fun v hv => rfl, hK _ ?_⟩
        clear hK K
        with_reducible refine wpQuiet_step (fun K hK => ?_)
        go_simp
        refine ⟨_, fun v hv => rfl, hK _ ?_⟩
        clear hK K
        with_reducible refine wpQuiet_step (fun K hK => ?_)
        go_simp
        refine ⟨.slice (some ⟨x2, y2, none⟩) 2 c2, fun v hv => ?_, hK _ ?_⟩
        · simp [e20 v hv]
        clear hK K
        with_reducible refine wpQuiet_step (fun K hK => ?_)
        go_simp
        refine ⟨_, fun v hv => rfl, hK _ ?_⟩
        clear hK K
        with_reducible refine wpQuiet_step (fun K hK => ?_)
        go_simp
        refine ⟨_, fun v hv => rfl, hK _ ?_⟩
        clear hK K
        with_reducible refine wpQuiet_step (fun K hK => ?_)
        go_simp
        refine ⟨_, fun v hv => rfl, hK _ ?_⟩
        clear hK K
        with_reducible refine wpQuiet_step (fun K hK => ?_)
        go_simp
        refine ⟨_, fun v hv => rfl, hK _ ?_⟩
        clear hK K
        with_reducible refine wpQuiet_step (fun K hK => ?_)
        go_simp
        refine ⟨_, fun v hv => rfl, hK _ ?_⟩
        clear hK K
        with_reducible refine wpQuiet_step (fun K hK => ?_)
        go_simp
        refine ⟨.slice (some ⟨x, y, none⟩) 2 c1, fun v hv => ?_, hK _ ?_⟩
        · simp [e10 v hv]
        clear hK K
        with_reducible refine wpQuiet_step (fun K hK => ?_)
        go_simp
        refine ⟨_, fun v hv => rfl, hK _ ?_⟩
        clear hK K
        with_reducible refine wpQuiet_step (fun K hK => ?_)
        go_simp
        refine ⟨.int .i64 (q : Int), fun v hv => ?_, hK _ ?_⟩
        · simp [x1 v hv]
        clear hK K
        with_reducible refine wpQuiet_step (fun K hK => ?_)
        go_simp
        refine ⟨_, fun v hv => rfl, hK _ ?_⟩
        clear hK K
        with_reducible refine wpQuiet_step (fun K hK => ?_)
        go_simp
        refine ⟨.slice (some ⟨x2, y2, none⟩) 2 c2, fun v hv => ?_, hK _ ?_⟩
        · simp [e20 v hv]
        clear hK K
        with_reducible refine wpQuiet_step (fun K hK => ?_)
        go_simp
        refine ⟨_, fun v hv => rfl, hK _ ?_⟩
        clear hK K
        with_reducible refine wpQuiet_step (fun K hK => ?_)
        go_simp
        refine ⟨.int .i64 (r : Int), fun v hv => ?_, hK _ ?_⟩
        · simp [y0 v hv]
        clear hK K
        with_reducible refine wpQuiet_step (fun K hK => ?_)
        go_simp
        refine ⟨_, fun v hv => rfl, hK _ ?_⟩
        clear hK K
        with_reducible refine wpQuiet_step (fun K hK => ?_)
        go_simp
        refine ⟨_, fun v hv => rfl, hK _ ?_⟩
        clear hK K
        with_reducible refine wpQuiet_step (fun K hK => ?_)
        go_simp
        refine ⟨_, fun v hv => rfl, hK _ ?_⟩
        clear hK K
        with_reducible refine wpQuiet_step (fun K hK => ?_)
        go_simp
        refine hK _ ?_
        clear hK K
        with_reducible refine wpQuiet_step (fun K hK => ?_)
        go_simp
        refine hK _ ?_
        clear hK K
        with_reducible refine wpQuiet_step (fun K hK => ?_)
        go_simp
        refine hK _ ?_
        clear hK K
        with_reducible refine wpQuiet_step (fun K hK => ?_)
        go_simp
        refine hK _ ?_
        clear hK K
        with_reducible refine wpQuiet_step (fun K hK => ?_)
        go_simp
        refine hK _ ?_
        clear hK K
        with_reducible refine wpQuiet_step (fun K hK => ?_)
        go_simp
        refine hK _ ?_
        clear hK K
        with_reducible refine wpQuiet_step (fun K hK => ?_)
        go_simp
        refine hK _ ?_
        clear hK K
        with_reducible refine wpQuiet_step (fun K hK => ?_)
        go_simp
        refine hK _ ?_
        clear hK K
        with_reducible refine wpQuiet_step (fun K hK => ?_)
        go_simp
        refine hK _ ?_
        clear hK K
        with_reducible refine wpQuiet_step (fun K hK => ?_)
        go_simp
        refine hK _ ?_
        clear hK K
        with_reducible refine wpQuiet_step (fun K hK => ?_)
        go_simp
        refine ⟨_, fun v hv => rfl, hK _ ?_⟩
        clear hK K
        refine wpQuiet_nil ?_
        intro w7 C1
        have hb := CC.out _ C1
        clear C1 CC cB cT e10 e20 x0 x1 y0 y1
        have hu := hb
        replace HB : Hid _ := bl_trans HB.out hu
        replace HTa : Hid _ := HTa.out.below hu
        replace HTt : Hid _ := HTt.out.below hu
        replace HTz : Hid _ := HTz.out.below hu
        replace K10 := cell_below hu K10
        replace K11 := cell_below hu K11
        replace K20 := cell_below hu K20
        replace K21 := cell_below hu K21
        replace Km0 := cell_below hu Km0
        replace Km1 := cell_below hu Km1
        replace Kt0 := cell_below hu Kt0
        replace Kt1 := cell_below hu Kt1
        clear hu
        clear hb
        go_wp2_with fail
        refine (awake_any aF aZ _ (HE.out.below HB.out)).mono ?_
        rintro e w8 ⟨rfl, hb⟩
        have hu := hb
        replace HB : Hid _ := bl_trans HB.out hu
        replace HTa : Hid _ := HTa.out.below hu
        replace HTt : Hid _ := HTt.out.below hu
        replace HTz : Hid _ := HTz.out.below hu
        replace K10 := cell_below hu K10
        replace K11 := cell_below hu K11
        replace K20 := cell_below hu K20
        replace K21 := cell_below hu K21
        replace Km0 := cell_below hu Km0
        replace Km1 := cell_below hu Km1
        replace Kt0 := cell_below hu Kt0
        replace Kt1 := cell_below hu Kt1
        clear hu
        clear hb
        go_wp2
        go_ret
        exact ⟨rfl, HB.out⟩
      · skip
        have c0 := (X0.out _ HB.out).1
        have c1' := (X0.out _ HB.out).2
        have c2' := (hC.out _ HB.out).1
        have c3 := (hC.out _ HB.out).2
        clear hC
        obtain ⟨PS, hPS⟩ : ∃ PS, p * s = PS := ⟨_, rfl⟩
        have e5 : IntKind.i64.wrap ((p : Int) * (s : Int)) = (PS : Int) := by
          have := Nat.mul_le_mul hp64 hs64
          rw [← Int.natCast_mul, hPS, IntKind.wrap_i64]; omega
        rw [hPS] at hD
        clear hPS
        go_wp2_with fail
        obtain ⟨C, hC⟩ : ∃ C : World → Prop, C = fun v => Below v2.heap.size v2 v := ⟨_, rfl⟩
        have e10 : ∀ v, C v → v.cell? ⟨w.heap.size, 0, none⟩ = some (.slice (some ⟨x, y, none⟩) 2 c1) := fun v h => by subst hC; exact cell_below h K10
        have e20 : ∀ v, C v → v.cell? ⟨w.heap.size + 1, 0, none⟩ = some (.slice (some ⟨x2, y2, none⟩) 2 c2) := fun v h => by subst hC; exact cell_below h K20
        have x0 : ∀ v, C v → v.cell? ⟨x, y, none⟩ = some (.int .i64 (p : Int)) := fun v h => by subst hC; exact cell_below h c0
        have x1 : ∀ v, C v → v.cell? ⟨x, y + 1, none⟩ = some (.int .i64 (q : Int)) := fun v h => by subst hC; exact cell_below h c1'
        have y0 : ∀ v, C v → v.cell? ⟨x2, y2, none⟩ = some (.int .i64 (q : Int)) := fun v h => by subst hC; exact cell_below h c2'
        have y1 : ∀ v, C v → v.cell? ⟨x2, y2 + 1, none⟩ = some (.int .i64 (s : Int)) := fun v h => by subst hC; exact cell_below h c3
        have cB : ∀ v, C v → Below w.heap.size w v := fun v h => by subst hC; exact bl_trans HB.out h
        have cT : ∀ u v, C u → Below u.heap.size u v → C v := fun u v h k => by subst hC; exact bl_trans h k
        have cI : C v2.drew := by subst hC; exact bl_drew (Below.refl _ _)
        have CC : Hid (∀ v, C v → Below v2.heap.size v2 v) := fun v h => by subst hC; exact h
        clear hC
        refine region_calm C (by kernel_rfl) (by kernel_rfl) cI ?_
        clear cI
        with_reducible refine wpQuiet_step (fun K hK => ?_)
        go_simp
        refine ⟨_, fun v hv => rfl, hK _ ?_⟩
        clear hK K
        with_reducible refine wpQuiet_step (fun K hK => ?_)
        go_simp
        refine ⟨_, fun v hv => rfl, hK _ ?_⟩
        clear hK K
        with_reducible refine wpQuiet_step (fun K hK => ?_)
        go_simp
        refine ⟨_, fun v hv => rfl, hK _ ?_⟩
        clear hK K
        with_reducible refine wpQuiet_step (fun K hK => ?_)
        go_simp
        refine ⟨_, fun v hv => rfl, hK _ ?_⟩
        clear hK K
        with_reducible refine wpQuiet_step (fun K hK => ?_)
        go_simp
        refine ⟨.slice (some ⟨x2, y2, none⟩) 2 c2, fun v hv => ?_, hK _ ?_⟩
        · simp [e20 v hv]
        clear hK K
        with_reducible refine wpQuiet_step (fun K hK => ?_)
        go_simp
        refine ⟨_, fun v hv => rfl, hK _ ?_⟩
        clear hK K
        with_reducible refine wpQuiet_step (fun K hK => ?_)
        go_simp
        refine ⟨_, fun v hv => rfl, hK _ ?_⟩
        clear hK K
        with_reducible refine wpQuiet_step (fun K hK => ?_)
        go_simp
        refine ⟨_, fun v hv => rfl, hK _ ?_⟩
        clear hK K
        with_reducible refine wpQuiet_step (fun K hK => ?_)
        go_simp
        refine ⟨_, fun v hv => rfl, hK _ ?_⟩
        clear hK K
        with_reducible refine wpQuiet_step (fun K hK => ?_)
        go_simp
        refine ⟨_, fun v hv => rfl, hK _ ?_⟩
        clear hK K
        with_reducible refine wpQuiet_step (fun K hK => ?_)
        go_simp
        refine ⟨.slice (some ⟨x, y, none⟩) 2 c1, fun v hv => ?_, hK _ ?_⟩
        · simp [e10 v hv]
        clear hK K
        with_reducible refine wpQuiet_step (fun K hK => ?_)
        go_simp
        refine ⟨_, fun v hv => rfl, hK _ ?_⟩
        clear hK K
        with_reducible refine wpQuiet_step (fun K hK => ?_)
        go_simp
        refine ⟨.int .i64 (q : Int), fun v hv => ?_, hK _ ?_⟩
        · simp [x1 v hv]
        clear hK K
        with_reducible refine wpQuiet_step (fun K hK => ?_)
        go_simp
        refine ⟨_, fun v hv => rfl, hK _ ?_⟩
        clear hK K
        with_reducible refine wpQuiet_step (fun K hK => ?_)
        go_simp
        refine ⟨.slice (some ⟨x2, y2, none⟩) 2 c2, fun v hv => ?_, hK _ ?_⟩
        · simp [e20 v hv]
        clear hK K
        with_reducible refine wpQuiet_step (fun K hK => ?_)
        go_simp
        refine ⟨_, fun v hv => rfl, hK _ ?_⟩
        clear hK K
        with_reducible refine wpQuiet_step (fun K hK => ?_)
        go_simp
        refine ⟨.int .i64 (q : Int), fun v hv => ?_, hK _ ?_⟩
        · simp [y0 v hv]
        clear hK K
        with_reducible refine wpQuiet_step (fun K hK => ?_)
        go_simp
        refine ⟨_, fun v hv => rfl, hK _ ?_⟩
        clear hK K
        with_reducible refine wpQuiet_step (fun K hK => ?_)
        go_simp
        refine ⟨_, fun v hv => rfl, hK _ ?_⟩
        clear hK K
        with_reducible refine wpQuiet_step (fun K hK => ?_)
        go_simp
        refine ⟨_, fun v hv => rfl, hK _ ?_⟩
        clear hK K
        with_reducible refine wpQuiet_step (fun K hK => ?_)
        go_simp
        refine ⟨_, fun v hv => rfl, hK _ ?_⟩
        clear hK K
        with_reducible refine wpQuiet_step (fun K hK => ?_)
        go_simp
        refine ⟨.slice (some ⟨x, y, none⟩) 2 c1, fun v hv => ?_, hK _ ?_⟩
        · simp [e10 v hv]
        clear hK K
        with_reducible refine wpQuiet_step (fun K hK => ?_)
        go_simp
        refine ⟨_, fun v hv => rfl, hK _ ?_⟩
        clear hK K
        with_reducible refine wpQuiet_step (fun K hK => ?_)
        go_simp
        refine ⟨.int .i64 (p : Int), fun v hv => ?_, hK _ ?_⟩
        · simp [x0 v hv]
        clear hK K
        with_reducible refine wpQuiet_step (fun K hK => ?_)
        go_simp
        refine ⟨_, fun v hv => rfl, hK _ ?_⟩
        clear hK K
        with_reducible refine wpQuiet_step (fun K hK => ?_)
        go_simp
        refine ⟨.slice (some ⟨x2, y2, none⟩) 2 c2, fun v hv => ?_, hK _ ?_⟩
        · simp [e20 v hv]
        clear hK K
        with_reducible refine wpQuiet_step (fun K hK => ?_)
        go_simp
        refine ⟨_, fun v hv => rfl, hK _ ?_⟩
        clear hK K
        with_reducible refine wpQuiet_step (fun K hK => ?_)
        go_simp
        refine ⟨.int .i64 (s : Int), fun v hv => ?_, hK _ ?_⟩
        · simp [y1 v hv]
        clear hK K
        with_reducible refine wpQuiet_step (fun K hK => ?_)
        go_simp
        refine ⟨_, fun v hv => rfl, hK _ ?_⟩
        clear hK K
        with_reducible refine wpQuiet_step (fun K hK => ?_)
        go_simp
        refine ⟨_, fun v hv => rfl, hK _ ?_⟩
        clear hK K
        with_reducible refine wpQuiet_step (fun K hK => ?_)
        go_simp
        refine ⟨_, fun v hv => rfl, hK _ ?_⟩
        clear hK K
        refine wpQuiet_nil ?_
        intro w7 C1
        have hb := CC.out _ C1
        clear C1 CC cB cT e10 e20 x0 x1 y0 y1
        have hu := hb
        replace HB : Hid _ := bl_trans HB.out hu
        replace HTa : Hid _ := HTa.out.below hu
        replace HTt : Hid _ := HTt.out.below hu
        replace HTz : Hid _ := HTz.out.below hu
        replace K10 := cell_below hu K10
        replace K11 := cell_below hu K11
        replace K20 := cell_below hu K20
        replace K21 := cell_below hu K21
        replace Km0 := cell_below hu Km0
        replace Km1 := cell_below hu Km1
        replace Kt0 := cell_below hu Kt0
        replace Kt1 := cell_below hu Kt1
        clear hu
        clear hb
        go_wp2_with fail
        refine (awake_any aF aZ _ (HE.out.below HB.out)).mono ?_
        rintro e w8 ⟨rfl, hb⟩
        have hu := hb
        replace HB : Hid _ := bl_trans HB.out hu
        replace HTa : Hid _ := HTa.out.below hu
        replace HTt : Hid _ := HTt.out.below hu
        replace HTz : Hid _ := HTz.out.below hu
        replace K10 := cell_below hu K10
        replace K11 := cell_below hu K11
        replace K20 := cell_below hu K20
        replace K21 := cell_below hu K21
        replace Km0 := cell_below hu Km0
        replace Km1 := cell_below hu Km1
        replace Kt0 := cell_below hu Kt0
        replace Kt1 := cell_below hu Kt1
        clear hu
        clear hb
        go_wp2
        go_ret
        exact ⟨rfl, HB.out⟩
  clear hK
  refine ⟨?_, ?_⟩
  · skip
    refine op_step 35 _ rfl (fun K1 hK1 => ?_)
    go_simp
    refine hK1 _ _ ?_
    clear hK1 K1
    refine op_step 36 _ rfl (fun K1 hK1 => ?_)
    go_simp
    refine hK1 _ _ ?_
    clear hK1 K1
    refine op_step 37 _ rfl (fun K1 hK1 => ?_)
    go_simp
    refine (hTr _ (Below.refl _ _)).mono ?_
    rintro e v9 ⟨z, rfl, ⟨a9, c9, b9, d9, rfl, h9⟩, hb9⟩
    refine hK1 _ _ ?_
    clear hK1 K1
    exact fin a9 c9 b9 d9 v9 hb9 h9
  · skip
    refine op_step 36 _ rfl (fun K1 hK1 => ?_)
    go_simp
    refine hK1 _ _ ?_
    clear hK1 K1
    refine ⟨?_, ?_⟩
    · skip
      refine op_step 35 _ rfl (fun K1 hK1 => ?_)
      go_simp
      refine hK1 _ _ ?_
      clear hK1 K1
      refine op_step 37 _ rfl (fun K1 hK1 => ?_)
      go_simp
      refine (hTr _ (Below.refl _ _)).mono ?_
      rintro e v9 ⟨z, rfl, ⟨a9, c9, b9, d9, rfl, h9⟩, hb9⟩
      refine hK1 _ _ ?_
      clear hK1 K1
      exact fin a9 c9 b9 d9 v9 hb9 h9
    · skip
      refine op_step 37 _ rfl (fun K1 hK1 => ?_)
      go_simp
      refine (hTr _ (Below.refl _ _)).mono ?_
      rintro e v9 ⟨z, rfl, ⟨a9, c9, b9, d9, rfl, h9⟩, hb9⟩
      refine hK1 _ _ ?_
      clear hK1 K1
      replace Kt0 := cell_below hb9 Kt0
      replace Kt1 := cell_below hb9 Kt1
      refine op_step 35 _ rfl (fun K1 hK1 => ?_)
      go_simp
      refine hK1 _ _ ?_
      clear hK1 K1
      exact fin a9 c9 b9 d9 v9 hb9 h9

end Go.Proofs.YtbfboippaejnmaaGreatDoor.Tn
