/-
  THE WALK OF KinkTwo. Conditions: what the arguments hold.
-/
import Derived.Test.YtjkobbpebnkimaaGreatDoorKl
import Derived.Test.YtjkobbpebnkimaaGreatDoorKw
import Derived.Test.YtjkobbpebnkimaaGreatDoorSg
namespace Go.Proofs.YtjkobbpebnkimaaGreatDoor.Tn
set_option maxRecDepth 100000
open Go.RowKit Nm
set_option linter.unusedVariables false

set_option maxHeartbeats 4000000 in
theorem ltwo_long1 (a1 b1 a2 b2 : Option Addr) (c1 d1 m1 n1 c2 d2 m2 n2 : Nat) (aF aZ : Addr) (w : World) (hE : Er w aF aZ)
    (hS1 : ∀ v, Below w.heap.size w v → Calls Tryz.prog 11 #[.agg #[.slice a1 m1 c1, .slice b1 n1 d1]] v fun e w' => e = .returned (.bool false) ∧ Below v.heap.size v w') :
    Calls Tryz.prog 4 #[.agg #[.slice a1 m1 c1, .slice b1 n1 d1], .agg #[.slice a2 m2 c2, .slice b2 n2 d2]] w fun e w' => e = .returned (.bool true) ∧ Below w.heap.size w w' := by
  have HE : Hid _ := hE
  clear hE
  have HB : Hid (Below w.heap.size w w) := Below.refl _ _
  have hu := bl_alloc (Below.refl w.heap.size w) (.cells #[.slice a1 m1 c1, .slice b1 n1 d1] 25)
  replace HB : Hid _ := bl_trans HB.out hu
  clear hu
  have K10 : (w.alloc (.cells #[.slice a1 m1 c1, .slice b1 n1 d1] 25)).cell? ⟨w.heap.size, 0, none⟩ = some (.slice a1 m1 c1) := by first | rw [World.cell?_alloc_at _ _ _ _ (by simp)]; rfl | simp
  have K11 : (w.alloc (.cells #[.slice a1 m1 c1, .slice b1 n1 d1] 25)).cell? ⟨w.heap.size, 1, none⟩ = some (.slice b1 n1 d1) := by first | rw [World.cell?_alloc_at _ _ _ _ (by simp)]; rfl | simp
  have hu := bl_alloc (Below.refl (w.alloc (.cells #[.slice a1 m1 c1, .slice b1 n1 d1] 25)).heap.size (w.alloc (.cells #[.slice a1 m1 c1, .slice b1 n1 d1] 25))) (.cells #[.slice a2 m2 c2, .slice b2 n2 d2] 25)
  replace HB : Hid _ := bl_trans HB.out hu
  replace K10 := cell_below hu K10
  replace K11 := cell_below hu K11
  clear hu
  have K20 : ((w.alloc (.cells #[.slice a1 m1 c1, .slice b1 n1 d1] 25)).alloc (.cells #[.slice a2 m2 c2, .slice b2 n2 d2] 25)).cell? ⟨w.heap.size + 1, 0, none⟩ = some (.slice a2 m2 c2) := by first | rw [World.cell?_alloc_at _ _ _ _ (by simp)]; rfl | simp
  have K21 : ((w.alloc (.cells #[.slice a1 m1 c1, .slice b1 n1 d1] 25)).alloc (.cells #[.slice a2 m2 c2, .slice b2 n2 d2] 25)).cell? ⟨w.heap.size + 1, 1, none⟩ = some (.slice b2 n2 d2) := by first | rw [World.cell?_alloc_at _ _ _ _ (by simp)]; rfl | simp
  go_enter Tryz.func4, Tryz.ntmps4
  go_wp2_with fail
  refine (hS1 _ HB.out).mono ?_
  rintro e w1 ⟨rfl, hb⟩
  have hu := hb
  replace HB : Hid _ := bl_trans HB.out hu
  replace K10 := cell_below hu K10
  replace K11 := cell_below hu K11
  replace K20 := cell_below hu K20
  replace K21 := cell_below hu K21
  clear hu
  clear hb
  go_wp2_with fail
  refine (awake_any aF aZ _ (HE.out.below HB.out)).mono ?_
  rintro e w2 ⟨rfl, hb⟩
  have hu := hb
  replace HB : Hid _ := bl_trans HB.out hu
  replace K10 := cell_below hu K10
  replace K11 := cell_below hu K11
  replace K20 := cell_below hu K20
  replace K21 := cell_below hu K21
  clear hu
  clear hb
  go_wp2
  go_ret
  exact ⟨rfl, HB.out⟩

set_option maxHeartbeats 4000000 in
theorem ltwo_long2 (a1 b1 a2 b2 : Option Addr) (c1 d1 m1 n1 c2 d2 m2 n2 : Nat) (aF aZ : Addr) (w : World) (hE : Er w aF aZ)
    (hS1 : ∀ v, Below w.heap.size w v → Calls Tryz.prog 11 #[.agg #[.slice a1 m1 c1, .slice b1 n1 d1]] v fun e w' => e = .returned (.bool true) ∧ Below v.heap.size v w')
    (hS2 : ∀ v, Below w.heap.size w v → Calls Tryz.prog 11 #[.agg #[.slice a2 m2 c2, .slice b2 n2 d2]] v fun e w' => e = .returned (.bool false) ∧ Below v.heap.size v w') :
    Calls Tryz.prog 4 #[.agg #[.slice a1 m1 c1, .slice b1 n1 d1], .agg #[.slice a2 m2 c2, .slice b2 n2 d2]] w fun e w' => e = .returned (.bool true) ∧ Below w.heap.size w w' := by
  have HE : Hid _ := hE
  clear hE
  have HB : Hid (Below w.heap.size w w) := Below.refl _ _
  have hu := bl_alloc (Below.refl w.heap.size w) (.cells #[.slice a1 m1 c1, .slice b1 n1 d1] 25)
  replace HB : Hid _ := bl_trans HB.out hu
  clear hu
  have K10 : (w.alloc (.cells #[.slice a1 m1 c1, .slice b1 n1 d1] 25)).cell? ⟨w.heap.size, 0, none⟩ = some (.slice a1 m1 c1) := by first | rw [World.cell?_alloc_at _ _ _ _ (by simp)]; rfl | simp
  have K11 : (w.alloc (.cells #[.slice a1 m1 c1, .slice b1 n1 d1] 25)).cell? ⟨w.heap.size, 1, none⟩ = some (.slice b1 n1 d1) := by first | rw [World.cell?_alloc_at _ _ _ _ (by simp)]; rfl | simp
  have hu := bl_alloc (Below.refl (w.alloc (.cells #[.slice a1 m1 c1, .slice b1 n1 d1] 25)).heap.size (w.alloc (.cells #[.slice a1 m1 c1, .slice b1 n1 d1] 25))) (.cells #[.slice a2 m2 c2, .slice b2 n2 d2] 25)
  replace HB : Hid _ := bl_trans HB.out hu
  replace K10 := cell_below hu K10
  replace K11 := cell_below hu K11
  clear hu
  have K20 : ((w.alloc (.cells #[.slice a1 m1 c1, .slice b1 n1 d1] 25)).alloc (.cells #[.slice a2 m2 c2, .slice b2 n2 d2] 25)).cell? ⟨w.heap.size + 1, 0, none⟩ = some (.slice a2 m2 c2) := by first | rw [World.cell?_alloc_at _ _ _ _ (by simp)]; rfl | simp
  have K21 : ((w.alloc (.cells #[.slice a1 m1 c1, .slice b1 n1 d1] 25)).alloc (.cells #[.slice a2 m2 c2, .slice b2 n2 d2] 25)).cell? ⟨w.heap.size + 1, 1, none⟩ = some (.slice b2 n2 d2) := by first | rw [World.cell?_alloc_at _ _ _ _ (by simp)]; rfl | simp
  go_enter Tryz.func4, Tryz.ntmps4
  go_wp2_with fail
  refine (hS1 _ HB.out).mono ?_
  rintro e w1 ⟨rfl, hb⟩
  have hu := hb
  replace HB : Hid _ := bl_trans HB.out hu
  replace K10 := cell_below hu K10
  replace K11 := cell_below hu K11
  replace K20 := cell_below hu K20
  replace K21 := cell_below hu K21
  clear hu
  clear hb
  go_wp2_with fail
  refine (hS2 _ HB.out).mono ?_
  rintro e w2 ⟨rfl, hb⟩
  have hu := hb
  replace HB : Hid _ := bl_trans HB.out hu
  replace K10 := cell_below hu K10
  replace K11 := cell_below hu K11
  replace K20 := cell_below hu K20
  replace K21 := cell_below hu K21
  clear hu
  clear hb
  go_wp2_with fail
  refine (awake_any aF aZ _ (HE.out.below HB.out)).mono ?_
  rintro e w3 ⟨rfl, hb⟩
  have hu := hb
  replace HB : Hid _ := bl_trans HB.out hu
  replace K10 := cell_below hu K10
  replace K11 := cell_below hu K11
  replace K20 := cell_below hu K20
  replace K21 := cell_below hu K21
  clear hu
  clear hb
  go_wp2
  go_ret
  exact ⟨rfl, HB.out⟩

set_option maxHeartbeats 4000000 in
theorem ltwo_a (a1 b1 a2 b2 : Option Addr) (c1 d1 m1 n1 c2 d2 m2 n2 : Nat) (aF aZ : Addr) (w : World) (hE : Er w aF aZ)
    (hS1 : ∀ v, Below w.heap.size w v → Calls Tryz.prog 11 #[.agg #[.slice a1 m1 c1, .slice b1 n1 d1]] v fun e w' => e = .returned (.bool true) ∧ Below v.heap.size v w')
    (hS2 : ∀ v, Below w.heap.size w v → Calls Tryz.prog 11 #[.agg #[.slice a2 m2 c2, .slice b2 n2 d2]] v fun e w' => e = .returned (.bool true) ∧ Below v.heap.size v w')
    (hZ : ∀ v, Below w.heap.size w v → Calls Tryz.prog 21 #[.agg #[.slice a1 m1 c1, .slice b1 n1 d1], .agg #[.slice a2 m2 c2, .slice b2 n2 d2]] v fun e w' => e = .returned (noTensor 1) ∧ Below v.heap.size v w')
    (hY : ∀ v, Below w.heap.size w v → Calls Tryz.prog 22 #[.agg #[.slice a1 m1 c1, .slice b1 n1 d1], .agg #[.slice a2 m2 c2, .slice b2 n2 d2]] v fun e w' => e = .returned (noTensor 1) ∧ Below v.heap.size v w')
    (hR1 : ∀ v, Below w.heap.size w v → Calls Tryz.prog 18 #[.agg #[.slice a1 m1 c1, .slice b1 n1 d1]] v fun e w' => e = .returned (.bool false) ∧ Below v.heap.size v w') :
    Calls Tryz.prog 4 #[.agg #[.slice a1 m1 c1, .slice b1 n1 d1], .agg #[.slice a2 m2 c2, .slice b2 n2 d2]] w fun e w' => e = .returned (.bool true) ∧ Below w.heap.size w w' := by
  have HE : Hid _ := hE
  clear hE
  have HB : Hid (Below w.heap.size w w) := Below.refl _ _
  have hu := bl_alloc (Below.refl w.heap.size w) (.cells #[.slice a1 m1 c1, .slice b1 n1 d1] 25)
  replace HB : Hid _ := bl_trans HB.out hu
  clear hu
  have K10 : (w.alloc (.cells #[.slice a1 m1 c1, .slice b1 n1 d1] 25)).cell? ⟨w.heap.size, 0, none⟩ = some (.slice a1 m1 c1) := by first | rw [World.cell?_alloc_at _ _ _ _ (by simp)]; rfl | simp
  have K11 : (w.alloc (.cells #[.slice a1 m1 c1, .slice b1 n1 d1] 25)).cell? ⟨w.heap.size, 1, none⟩ = some (.slice b1 n1 d1) := by first | rw [World.cell?_alloc_at _ _ _ _ (by simp)]; rfl | simp
  have hu := bl_alloc (Below.refl (w.alloc (.cells #[.slice a1 m1 c1, .slice b1 n1 d1] 25)).heap.size (w.alloc (.cells #[.slice a1 m1 c1, .slice b1 n1 d1] 25))) (.cells #[.slice a2 m2 c2, .slice b2 n2 d2] 25)
  replace HB : Hid _ := bl_trans HB.out hu
  replace K10 := cell_below hu K10
  replace K11 := cell_below hu K11
  clear hu
  have K20 : ((w.alloc (.cells #[.slice a1 m1 c1, .slice b1 n1 d1] 25)).alloc (.cells #[.slice a2 m2 c2, .slice b2 n2 d2] 25)).cell? ⟨w.heap.size + 1, 0, none⟩ = some (.slice a2 m2 c2) := by first | rw [World.cell?_alloc_at _ _ _ _ (by simp)]; rfl | simp
  have K21 : ((w.alloc (.cells #[.slice a1 m1 c1, .slice b1 n1 d1] 25)).alloc (.cells #[.slice a2 m2 c2, .slice b2 n2 d2] 25)).cell? ⟨w.heap.size + 1, 1, none⟩ = some (.slice b2 n2 d2) := by first | rw [World.cell?_alloc_at _ _ _ _ (by simp)]; rfl | simp
  go_enter Tryz.func4, Tryz.ntmps4
  go_wp2_with fail
  refine (hS1 _ HB.out).mono ?_
  rintro e w1 ⟨rfl, hb⟩
  have hu := hb
  replace HB : Hid _ := bl_trans HB.out hu
  replace K10 := cell_below hu K10
  replace K11 := cell_below hu K11
  replace K20 := cell_below hu K20
  replace K21 := cell_below hu K21
  clear hu
  clear hb
  go_wp2_with fail
  refine (hS2 _ HB.out).mono ?_
  rintro e w2 ⟨rfl, hb⟩
  have hu := hb
  replace HB : Hid _ := bl_trans HB.out hu
  replace K10 := cell_below hu K10
  replace K11 := cell_below hu K11
  replace K20 := cell_below hu K20
  replace K21 := cell_below hu K21
  clear hu
  clear hb
  go_wp2_with fail
  refine (hZ _ HB.out).mono ?_
  rintro e w3 ⟨rfl, hb⟩
  have hu := bl_alloc hb (.cells #[.slice none 0 0, .slice none 0 0] 25)
  replace HB : Hid _ := bl_trans HB.out hu
  replace K10 := cell_below hu K10
  replace K11 := cell_below hu K11
  replace K20 := cell_below hu K20
  replace K21 := cell_below hu K21
  clear hu
  have Km0 : (w3.alloc (.cells #[.slice none 0 0, .slice none 0 0] 25)).cell? ⟨w3.heap.size, 0, none⟩ = some (.slice none 0 0) := by simp
  have Km1 : (w3.alloc (.cells #[.slice none 0 0, .slice none 0 0] 25)).cell? ⟨w3.heap.size, 1, none⟩ = some (.slice none 0 0) := by simp
  clear hb
  go_wp2_with fail
  refine (hY _ HB.out).mono ?_
  rintro e w4 ⟨rfl, hb⟩
  have hu := bl_alloc hb (.cells #[.slice none 0 0, .slice none 0 0] 25)
  replace HB : Hid _ := bl_trans HB.out hu
  replace K10 := cell_below hu K10
  replace K11 := cell_below hu K11
  replace K20 := cell_below hu K20
  replace K21 := cell_below hu K21
  replace Km0 := cell_below hu Km0
  replace Km1 := cell_below hu Km1
  clear hu
  have Kv0 : (w4.alloc (.cells #[.slice none 0 0, .slice none 0 0] 25)).cell? ⟨w4.heap.size, 0, none⟩ = some (.slice none 0 0) := by simp
  have Kv1 : (w4.alloc (.cells #[.slice none 0 0, .slice none 0 0] 25)).cell? ⟨w4.heap.size, 1, none⟩ = some (.slice none 0 0) := by simp
  clear hb
  go_wp2_with fail
  refine (hR1 _ HB.out).mono ?_
  rintro e w5 ⟨rfl, hb⟩
  have hu := hb
  replace HB : Hid _ := bl_trans HB.out hu
  replace K10 := cell_below hu K10
  replace K11 := cell_below hu K11
  replace K20 := cell_below hu K20
  replace K21 := cell_below hu K21
  replace Km0 := cell_below hu Km0
  replace Km1 := cell_below hu Km1
  replace Kv0 := cell_below hu Kv0
  replace Kv1 := cell_below hu Kv1
  clear hu
  clear hb
  go_wp2_with fail
  refine (awake_any aF aZ _ (HE.out.below HB.out)).mono ?_
  rintro e w6 ⟨rfl, hb⟩
  have hu := hb
  replace HB : Hid _ := bl_trans HB.out hu
  replace K10 := cell_below hu K10
  replace K11 := cell_below hu K11
  replace K20 := cell_below hu K20
  replace K21 := cell_below hu K21
  replace Km0 := cell_below hu Km0
  replace Km1 := cell_below hu Km1
  replace Kv0 := cell_below hu Kv0
  replace Kv1 := cell_below hu Kv1
  clear hu
  clear hb
  go_wp2
  go_ret
  exact ⟨rfl, HB.out⟩

set_option maxHeartbeats 4000000 in
theorem ltwo_b (a1 b1 a2 b2 : Option Addr) (c1 d1 m1 n1 c2 d2 m2 n2 : Nat) (aF aZ : Addr) (w : World) (hE : Er w aF aZ)
    (hS1 : ∀ v, Below w.heap.size w v → Calls Tryz.prog 11 #[.agg #[.slice a1 m1 c1, .slice b1 n1 d1]] v fun e w' => e = .returned (.bool true) ∧ Below v.heap.size v w')
    (hS2 : ∀ v, Below w.heap.size w v → Calls Tryz.prog 11 #[.agg #[.slice a2 m2 c2, .slice b2 n2 d2]] v fun e w' => e = .returned (.bool true) ∧ Below v.heap.size v w')
    (hZ : ∀ v, Below w.heap.size w v → Calls Tryz.prog 21 #[.agg #[.slice a1 m1 c1, .slice b1 n1 d1], .agg #[.slice a2 m2 c2, .slice b2 n2 d2]] v fun e w' => e = .returned (noTensor 1) ∧ Below v.heap.size v w')
    (hY : ∀ v, Below w.heap.size w v → Calls Tryz.prog 22 #[.agg #[.slice a1 m1 c1, .slice b1 n1 d1], .agg #[.slice a2 m2 c2, .slice b2 n2 d2]] v fun e w' => e = .returned (noTensor 1) ∧ Below v.heap.size v w')
    (hR1 : ∀ v, Below w.heap.size w v → Calls Tryz.prog 18 #[.agg #[.slice a1 m1 c1, .slice b1 n1 d1]] v fun e w' => e = .returned (.bool true) ∧ Below v.heap.size v w')
    (hR2 : ∀ v, Below w.heap.size w v → Calls Tryz.prog 18 #[.agg #[.slice a2 m2 c2, .slice b2 n2 d2]] v fun e w' => e = .returned (.bool false) ∧ Below v.heap.size v w') :
    Calls Tryz.prog 4 #[.agg #[.slice a1 m1 c1, .slice b1 n1 d1], .agg #[.slice a2 m2 c2, .slice b2 n2 d2]] w fun e w' => e = .returned (.bool true) ∧ Below w.heap.size w w' := by
  have HE : Hid _ := hE
  clear hE
  have HB : Hid (Below w.heap.size w w) := Below.refl _ _
  have hu := bl_alloc (Below.refl w.heap.size w) (.cells #[.slice a1 m1 c1, .slice b1 n1 d1] 25)
  replace HB : Hid _ := bl_trans HB.out hu
  clear hu
  have K10 : (w.alloc (.cells #[.slice a1 m1 c1, .slice b1 n1 d1] 25)).cell? ⟨w.heap.size, 0, none⟩ = some (.slice a1 m1 c1) := by first | rw [World.cell?_alloc_at _ _ _ _ (by simp)]; rfl | simp
  have K11 : (w.alloc (.cells #[.slice a1 m1 c1, .slice b1 n1 d1] 25)).cell? ⟨w.heap.size, 1, none⟩ = some (.slice b1 n1 d1) := by first | rw [World.cell?_alloc_at _ _ _ _ (by simp)]; rfl | simp
  have hu := bl_alloc (Below.refl (w.alloc (.cells #[.slice a1 m1 c1, .slice b1 n1 d1] 25)).heap.size (w.alloc (.cells #[.slice a1 m1 c1, .slice b1 n1 d1] 25))) (.cells #[.slice a2 m2 c2, .slice b2 n2 d2] 25)
  replace HB : Hid _ := bl_trans HB.out hu
  replace K10 := cell_below hu K10
  replace K11 := cell_below hu K11
  clear hu
  have K20 : ((w.alloc (.cells #[.slice a1 m1 c1, .slice b1 n1 d1] 25)).alloc (.cells #[.slice a2 m2 c2, .slice b2 n2 d2] 25)).cell? ⟨w.heap.size + 1, 0, none⟩ = some (.slice a2 m2 c2) := by first | rw [World.cell?_alloc_at _ _ _ _ (by simp)]; rfl | simp
  have K21 : ((w.alloc (.cells #[.slice a1 m1 c1, .slice b1 n1 d1] 25)).alloc (.cells #[.slice a2 m2 c2, .slice b2 n2 d2] 25)).cell? ⟨w.heap.size + 1, 1, none⟩ = some (.slice b2 n2 d2) := by first | rw [World.cell?_alloc_at _ _ _ _ (by simp)]; rfl | simp
  go_enter Tryz.func4, Tryz.ntmps4
  go_wp2_with fail
  refine (hS1 _ HB.out).mono ?_
  rintro e w1 ⟨rfl, hb⟩
  have hu := hb
  replace HB : Hid _ := bl_trans HB.out hu
  replace K10 := cell_below hu K10
  replace K11 := cell_below hu K11
  replace K20 := cell_below hu K20
  replace K21 := cell_below hu K21
  clear hu
  clear hb
  go_wp2_with fail
  refine (hS2 _ HB.out).mono ?_
  rintro e w2 ⟨rfl, hb⟩
  have hu := hb
  replace HB : Hid _ := bl_trans HB.out hu
  replace K10 := cell_below hu K10
  replace K11 := cell_below hu K11
  replace K20 := cell_below hu K20
  replace K21 := cell_below hu K21
  clear hu
  clear hb
  go_wp2_with fail
  refine (hZ _ HB.out).mono ?_
  rintro e w3 ⟨rfl, hb⟩
  have hu := bl_alloc hb (.cells #[.slice none 0 0, .slice none 0 0] 25)
  replace HB : Hid _ := bl_trans HB.out hu
  replace K10 := cell_below hu K10
  replace K11 := cell_below hu K11
  replace K20 := cell_below hu K20
  replace K21 := cell_below hu K21
  clear hu
  have Km0 : (w3.alloc (.cells #[.slice none 0 0, .slice none 0 0] 25)).cell? ⟨w3.heap.size, 0, none⟩ = some (.slice none 0 0) := by simp
  have Km1 : (w3.alloc (.cells #[.slice none 0 0, .slice none 0 0] 25)).cell? ⟨w3.heap.size, 1, none⟩ = some (.slice none 0 0) := by simp
  clear hb
  go_wp2_with fail
  refine (hY _ HB.out).mono ?_
  rintro e w4 ⟨rfl, hb⟩
  have hu := bl_alloc hb (.cells #[.slice none 0 0, .slice none 0 0] 25)
  replace HB : Hid _ := bl_trans HB.out hu
  replace K10 := cell_below hu K10
  replace K11 := cell_below hu K11
  replace K20 := cell_below hu K20
  replace K21 := cell_below hu K21
  replace Km0 := cell_below hu Km0
  replace Km1 := cell_below hu Km1
  clear hu
  have Kv0 : (w4.alloc (.cells #[.slice none 0 0, .slice none 0 0] 25)).cell? ⟨w4.heap.size, 0, none⟩ = some (.slice none 0 0) := by simp
  have Kv1 : (w4.alloc (.cells #[.slice none 0 0, .slice none 0 0] 25)).cell? ⟨w4.heap.size, 1, none⟩ = some (.slice none 0 0) := by simp
  clear hb
  go_wp2_with fail
  refine (hR1 _ HB.out).mono ?_
  rintro e w5 ⟨rfl, hb⟩
  have hu := hb
  replace HB : Hid _ := bl_trans HB.out hu
  replace K10 := cell_below hu K10
  replace K11 := cell_below hu K11
  replace K20 := cell_below hu K20
  replace K21 := cell_below hu K21
  replace Km0 := cell_below hu Km0
  replace Km1 := cell_below hu Km1
  replace Kv0 := cell_below hu Kv0
  replace Kv1 := cell_below hu Kv1
  clear hu
  clear hb
  go_wp2_with fail
  refine (hR2 _ HB.out).mono ?_
  rintro e w6 ⟨rfl, hb⟩
  have hu := hb
  replace HB : Hid _ := bl_trans HB.out hu
  replace K10 := cell_below hu K10
  replace K11 := cell_below hu K11
  replace K20 := cell_below hu K20
  replace K21 := cell_below hu K21
  replace Km0 := cell_below hu Km0
  replace Km1 := cell_below hu Km1
  replace Kv0 := cell_below hu Kv0
  replace Kv1 := cell_below hu Kv1
  clear hu
  clear hb
  go_wp2_with fail
  refine (awake_any aF aZ _ (HE.out.below HB.out)).mono ?_
  rintro e w7 ⟨rfl, hb⟩
  have hu := hb
  replace HB : Hid _ := bl_trans HB.out hu
  replace K10 := cell_below hu K10
  replace K11 := cell_below hu K11
  replace K20 := cell_below hu K20
  replace K21 := cell_below hu K21
  replace Km0 := cell_below hu Km0
  replace Km1 := cell_below hu Km1
  replace Kv0 := cell_below hu Kv0
  replace Kv1 := cell_below hu Kv1
  clear hu
  clear hb
  go_wp2
  go_ret
  exact ⟨rfl, HB.out⟩

set_option maxHeartbeats 4000000 in
theorem ltwo_s (a1 b1 a2 b2 : Option Addr) (c1 d1 m1 n1 c2 d2 m2 n2 : Nat) (aF aZ : Addr) (w : World) (hE : Er w aF aZ)
    (hS1 : ∀ v, Below w.heap.size w v → Calls Tryz.prog 11 #[.agg #[.slice a1 m1 c1, .slice b1 n1 d1]] v fun e w' => e = .returned (.bool true) ∧ Below v.heap.size v w')
    (hS2 : ∀ v, Below w.heap.size w v → Calls Tryz.prog 11 #[.agg #[.slice a2 m2 c2, .slice b2 n2 d2]] v fun e w' => e = .returned (.bool true) ∧ Below v.heap.size v w')
    (hZ : ∀ v, Below w.heap.size w v → Calls Tryz.prog 21 #[.agg #[.slice a1 m1 c1, .slice b1 n1 d1], .agg #[.slice a2 m2 c2, .slice b2 n2 d2]] v fun e w' => e = .returned (noTensor 4) ∧ Below v.heap.size v w')
    (hY : ∀ v, Below w.heap.size w v → Calls Tryz.prog 22 #[.agg #[.slice a1 m1 c1, .slice b1 n1 d1], .agg #[.slice a2 m2 c2, .slice b2 n2 d2]] v fun e w' => e = .returned (noTensor 4) ∧ Below v.heap.size v w')
    (hR1 : ∀ v, Below w.heap.size w v → Calls Tryz.prog 18 #[.agg #[.slice a1 m1 c1, .slice b1 n1 d1]] v fun e w' => e = .returned (.bool true) ∧ Below v.heap.size v w')
    (hR2 : ∀ v, Below w.heap.size w v → Calls Tryz.prog 18 #[.agg #[.slice a2 m2 c2, .slice b2 n2 d2]] v fun e w' => e = .returned (.bool true) ∧ Below v.heap.size v w')
    (hM3 : ∀ v, Below w.heap.size w v → Calls Tryz.prog 23 #[.slice a1 m1 c1, .slice a2 m2 c2] v fun e w' => e = .returned (.bool false) ∧ Below v.heap.size v w') :
    Calls Tryz.prog 4 #[.agg #[.slice a1 m1 c1, .slice b1 n1 d1], .agg #[.slice a2 m2 c2, .slice b2 n2 d2]] w fun e w' => e = .returned (.bool true) ∧ Below w.heap.size w w' := by
  have HE : Hid _ := hE
  clear hE
  have HB : Hid (Below w.heap.size w w) := Below.refl _ _
  have hu := bl_alloc (Below.refl w.heap.size w) (.cells #[.slice a1 m1 c1, .slice b1 n1 d1] 25)
  replace HB : Hid _ := bl_trans HB.out hu
  clear hu
  have K10 : (w.alloc (.cells #[.slice a1 m1 c1, .slice b1 n1 d1] 25)).cell? ⟨w.heap.size, 0, none⟩ = some (.slice a1 m1 c1) := by first | rw [World.cell?_alloc_at _ _ _ _ (by simp)]; rfl | simp
  have K11 : (w.alloc (.cells #[.slice a1 m1 c1, .slice b1 n1 d1] 25)).cell? ⟨w.heap.size, 1, none⟩ = some (.slice b1 n1 d1) := by first | rw [World.cell?_alloc_at _ _ _ _ (by simp)]; rfl | simp
  have hu := bl_alloc (Below.refl (w.alloc (.cells #[.slice a1 m1 c1, .slice b1 n1 d1] 25)).heap.size (w.alloc (.cells #[.slice a1 m1 c1, .slice b1 n1 d1] 25))) (.cells #[.slice a2 m2 c2, .slice b2 n2 d2] 25)
  replace HB : Hid _ := bl_trans HB.out hu
  replace K10 := cell_below hu K10
  replace K11 := cell_below hu K11
  clear hu
  have K20 : ((w.alloc (.cells #[.slice a1 m1 c1, .slice b1 n1 d1] 25)).alloc (.cells #[.slice a2 m2 c2, .slice b2 n2 d2] 25)).cell? ⟨w.heap.size + 1, 0, none⟩ = some (.slice a2 m2 c2) := by first | rw [World.cell?_alloc_at _ _ _ _ (by simp)]; rfl | simp
  have K21 : ((w.alloc (.cells #[.slice a1 m1 c1, .slice b1 n1 d1] 25)).alloc (.cells #[.slice a2 m2 c2, .slice b2 n2 d2] 25)).cell? ⟨w.heap.size + 1, 1, none⟩ = some (.slice b2 n2 d2) := by first | rw [World.cell?_alloc_at _ _ _ _ (by simp)]; rfl | simp
  go_enter Tryz.func4, Tryz.ntmps4
  go_wp2_with fail
  refine (hS1 _ HB.out).mono ?_
  rintro e w1 ⟨rfl, hb⟩
  have hu := hb
  replace HB : Hid _ := bl_trans HB.out hu
  replace K10 := cell_below hu K10
  replace K11 := cell_below hu K11
  replace K20 := cell_below hu K20
  replace K21 := cell_below hu K21
  clear hu
  clear hb
  go_wp2_with fail
  refine (hS2 _ HB.out).mono ?_
  rintro e w2 ⟨rfl, hb⟩
  have hu := hb
  replace HB : Hid _ := bl_trans HB.out hu
  replace K10 := cell_below hu K10
  replace K11 := cell_below hu K11
  replace K20 := cell_below hu K20
  replace K21 := cell_below hu K21
  clear hu
  clear hb
  go_wp2_with fail
  refine (hZ _ HB.out).mono ?_
  rintro e w3 ⟨rfl, hb⟩
  have hu := bl_alloc hb (.cells #[.slice none 0 0, .slice none 0 0] 25)
  replace HB : Hid _ := bl_trans HB.out hu
  replace K10 := cell_below hu K10
  replace K11 := cell_below hu K11
  replace K20 := cell_below hu K20
  replace K21 := cell_below hu K21
  clear hu
  have Km0 : (w3.alloc (.cells #[.slice none 0 0, .slice none 0 0] 25)).cell? ⟨w3.heap.size, 0, none⟩ = some (.slice none 0 0) := by simp
  have Km1 : (w3.alloc (.cells #[.slice none 0 0, .slice none 0 0] 25)).cell? ⟨w3.heap.size, 1, none⟩ = some (.slice none 0 0) := by simp
  clear hb
  go_wp2_with fail
  refine (hY _ HB.out).mono ?_
  rintro e w4 ⟨rfl, hb⟩
  have hu := bl_alloc hb (.cells #[.slice none 0 0, .slice none 0 0] 25)
  replace HB : Hid _ := bl_trans HB.out hu
  replace K10 := cell_below hu K10
  replace K11 := cell_below hu K11
  replace K20 := cell_below hu K20
  replace K21 := cell_below hu K21
  replace Km0 := cell_below hu Km0
  replace Km1 := cell_below hu Km1
  clear hu
  have Kv0 : (w4.alloc (.cells #[.slice none 0 0, .slice none 0 0] 25)).cell? ⟨w4.heap.size, 0, none⟩ = some (.slice none 0 0) := by simp
  have Kv1 : (w4.alloc (.cells #[.slice none 0 0, .slice none 0 0] 25)).cell? ⟨w4.heap.size, 1, none⟩ = some (.slice none 0 0) := by simp
  clear hb
  go_wp2_with fail
  refine (hR1 _ HB.out).mono ?_
  rintro e w5 ⟨rfl, hb⟩
  have hu := hb
  replace HB : Hid _ := bl_trans HB.out hu
  replace K10 := cell_below hu K10
  replace K11 := cell_below hu K11
  replace K20 := cell_below hu K20
  replace K21 := cell_below hu K21
  replace Km0 := cell_below hu Km0
  replace Km1 := cell_below hu Km1
  replace Kv0 := cell_below hu Kv0
  replace Kv1 := cell_below hu Kv1
  clear hu
  clear hb
  go_wp2_with fail
  refine (hR2 _ HB.out).mono ?_
  rintro e w6 ⟨rfl, hb⟩
  have hu := hb
  replace HB : Hid _ := bl_trans HB.out hu
  replace K10 := cell_below hu K10
  replace K11 := cell_below hu K11
  replace K20 := cell_below hu K20
  replace K21 := cell_below hu K21
  replace Km0 := cell_below hu Km0
  replace Km1 := cell_below hu Km1
  replace Kv0 := cell_below hu Kv0
  replace Kv1 := cell_below hu Kv1
  clear hu
  clear hb
  go_wp2_with fail
  refine (hM3 _ HB.out).mono ?_
  rintro e w7 ⟨rfl, hb⟩
  have hu := hb
  replace HB : Hid _ := bl_trans HB.out hu
  replace K10 := cell_below hu K10
  replace K11 := cell_below hu K11
  replace K20 := cell_below hu K20
  replace K21 := cell_below hu K21
  replace Km0 := cell_below hu Km0
  replace Km1 := cell_below hu Km1
  replace Kv0 := cell_below hu Kv0
  replace Kv1 := cell_below hu Kv1
  clear hu
  clear hb
  go_wp2_with fail
  refine (awake_any aF aZ _ (HE.out.below HB.out)).mono ?_
  rintro e w8 ⟨rfl, hb⟩
  have hu := hb
  replace HB : Hid _ := bl_trans HB.out hu
  replace K10 := cell_below hu K10
  replace K11 := cell_below hu K11
  replace K20 := cell_below hu K20
  replace K21 := cell_below hu K21
  replace Km0 := cell_below hu Km0
  replace Km1 := cell_below hu Km1
  replace Kv0 := cell_below hu Kv0
  replace Kv1 := cell_below hu Kv1
  clear hu
  clear hb
  go_wp2
  go_ret
  exact ⟨rfl, HB.out⟩
/-- what stands while steps 0 to 4 are under way -/
structure Cw0 (wr : World) (M0 M1 M2 : Value) (zs : List Int) (m n : Nat) (qs : List Rat) (bd : Nat) (L : Array Bool) (v : World) (s68 s69 s70 s71 s72 : Value) : Prop where
  sz : L.size = 5
  lo : ∀ j, j < 0 → on L j
  bl : Below wr.heap.size wr v
  h0 : on L 0 → s68 = M0
  h1 : on L 1 → s69 = M1
  h2 : on L 2 → s70 = M2
  h3 : on L 3 → Nt zs m n qs bd v s71
  h4 : on L 4 → s72 = .bool true
section
variable {wr : World} {M0 M1 M2 : Value} {zs : List Int} {m n : Nat} {qs : List Rat} {bd : Nat} {L : Array Bool} {v v' : World} {s68 s69 s70 s71 s72 x : Value}
theorem Cw0.t0 (h : Cw0 wr M0 M1 M2 zs m n qs bd L v s68 s69 s70 s71 s72) : Cw0 wr M0 M1 M2 zs m n qs bd (L.setIfInBounds 0 true) v M0 s69 s70 s71 s72 :=
  ⟨by simp [h.sz], fun j hj => by unfold on; rw [on_eq (by omega)]; exact h.lo j hj, h.bl, fun _ => rfl, fun g => h.h1 (on_set g (by decide)), fun g => h.h2 (on_set g (by decide)), fun g => h.h3 (on_set g (by decide)), fun g => h.h4 (on_set g (by decide))⟩
theorem Cw0.t1 (h : Cw0 wr M0 M1 M2 zs m n qs bd L v s68 s69 s70 s71 s72) : Cw0 wr M0 M1 M2 zs m n qs bd (L.setIfInBounds 1 true) v s68 M1 s70 s71 s72 :=
  ⟨by simp [h.sz], fun j hj => by unfold on; rw [on_eq (by omega)]; exact h.lo j hj, h.bl, fun g => h.h0 (on_set g (by decide)), fun _ => rfl, fun g => h.h2 (on_set g (by decide)), fun g => h.h3 (on_set g (by decide)), fun g => h.h4 (on_set g (by decide))⟩
theorem Cw0.t2 (h : Cw0 wr M0 M1 M2 zs m n qs bd L v s68 s69 s70 s71 s72) : Cw0 wr M0 M1 M2 zs m n qs bd (L.setIfInBounds 2 true) v s68 s69 M2 s71 s72 :=
  ⟨by simp [h.sz], fun j hj => by unfold on; rw [on_eq (by omega)]; exact h.lo j hj, h.bl, fun g => h.h0 (on_set g (by decide)), fun g => h.h1 (on_set g (by decide)), fun _ => rfl, fun g => h.h3 (on_set g (by decide)), fun g => h.h4 (on_set g (by decide))⟩
theorem Cw0.t3 (h : Cw0 wr M0 M1 M2 zs m n qs bd L v s68 s69 s70 s71 s72) (hx : Nt zs m n qs bd v' x) (hb : Below v.heap.size v v') : Cw0 wr M0 M1 M2 zs m n qs bd (L.setIfInBounds 3 true) v' s68 s69 s70 x s72 :=
  ⟨by simp [h.sz], fun j hj => by unfold on; rw [on_eq (by omega)]; exact h.lo j hj, bl_trans h.bl hb, fun g => h.h0 (on_set g (by decide)), fun g => h.h1 (on_set g (by decide)), fun g => h.h2 (on_set g (by decide)), fun _ => hx, fun g => h.h4 (on_set g (by decide))⟩
theorem Cw0.t4 (h : Cw0 wr M0 M1 M2 zs m n qs bd L v s68 s69 s70 s71 s72) (hb : Below v.heap.size v v') : Cw0 wr M0 M1 M2 zs m n qs bd (L.setIfInBounds 4 true) v' s68 s69 s70 s71 (.bool true) :=
  ⟨by simp [h.sz], fun j hj => by unfold on; rw [on_eq (by omega)]; exact h.lo j hj, bl_trans h.bl hb, fun g => h.h0 (on_set g (by decide)), fun g => h.h1 (on_set g (by decide)), fun g => h.h2 (on_set g (by decide)), fun g => (h.h3 (on_set g (by decide))).below hb, fun _ => rfl⟩
end
/-- what stands while steps 6 to 10 are under way -/
structure Cw1 (wr : World) (M0 M1 M2 : Value) (zs : List Int) (m n : Nat) (qs : List Rat) (bd : Nat) (L : Array Bool) (v : World) (s74 s75 s76 s77 s78 : Value) : Prop where
  sz : L.size = 11
  lo : ∀ j, j < 6 → on L j
  bl : Below wr.heap.size wr v
  h0 : on L 6 → s74 = M0
  h1 : on L 7 → s75 = M1
  h2 : on L 8 → s76 = M2
  h3 : on L 9 → Nt zs m n qs bd v s77
  h4 : on L 10 → s78 = .bool true
section
variable {wr : World} {M0 M1 M2 : Value} {zs : List Int} {m n : Nat} {qs : List Rat} {bd : Nat} {L : Array Bool} {v v' : World} {s74 s75 s76 s77 s78 x : Value}
theorem Cw1.t0 (h : Cw1 wr M0 M1 M2 zs m n qs bd L v s74 s75 s76 s77 s78) : Cw1 wr M0 M1 M2 zs m n qs bd (L.setIfInBounds 6 true) v M0 s75 s76 s77 s78 :=
  ⟨by simp [h.sz], fun j hj => by unfold on; rw [on_eq (by omega)]; exact h.lo j hj, h.bl, fun _ => rfl, fun g => h.h1 (on_set g (by decide)), fun g => h.h2 (on_set g (by decide)), fun g => h.h3 (on_set g (by decide)), fun g => h.h4 (on_set g (by decide))⟩
theorem Cw1.t1 (h : Cw1 wr M0 M1 M2 zs m n qs bd L v s74 s75 s76 s77 s78) : Cw1 wr M0 M1 M2 zs m n qs bd (L.setIfInBounds 7 true) v s74 M1 s76 s77 s78 :=
  ⟨by simp [h.sz], fun j hj => by unfold on; rw [on_eq (by omega)]; exact h.lo j hj, h.bl, fun g => h.h0 (on_set g (by decide)), fun _ => rfl, fun g => h.h2 (on_set g (by decide)), fun g => h.h3 (on_set g (by decide)), fun g => h.h4 (on_set g (by decide))⟩
theorem Cw1.t2 (h : Cw1 wr M0 M1 M2 zs m n qs bd L v s74 s75 s76 s77 s78) : Cw1 wr M0 M1 M2 zs m n qs bd (L.setIfInBounds 8 true) v s74 s75 M2 s77 s78 :=
  ⟨by simp [h.sz], fun j hj => by unfold on; rw [on_eq (by omega)]; exact h.lo j hj, h.bl, fun g => h.h0 (on_set g (by decide)), fun g => h.h1 (on_set g (by decide)), fun _ => rfl, fun g => h.h3 (on_set g (by decide)), fun g => h.h4 (on_set g (by decide))⟩
theorem Cw1.t3 (h : Cw1 wr M0 M1 M2 zs m n qs bd L v s74 s75 s76 s77 s78) (hx : Nt zs m n qs bd v' x) (hb : Below v.heap.size v v') : Cw1 wr M0 M1 M2 zs m n qs bd (L.setIfInBounds 9 true) v' s74 s75 s76 x s78 :=
  ⟨by simp [h.sz], fun j hj => by unfold on; rw [on_eq (by omega)]; exact h.lo j hj, bl_trans h.bl hb, fun g => h.h0 (on_set g (by decide)), fun g => h.h1 (on_set g (by decide)), fun g => h.h2 (on_set g (by decide)), fun _ => hx, fun g => h.h4 (on_set g (by decide))⟩
theorem Cw1.t4 (h : Cw1 wr M0 M1 M2 zs m n qs bd L v s74 s75 s76 s77 s78) (hb : Below v.heap.size v v') : Cw1 wr M0 M1 M2 zs m n qs bd (L.setIfInBounds 10 true) v' s74 s75 s76 s77 (.bool true) :=
  ⟨by simp [h.sz], fun j hj => by unfold on; rw [on_eq (by omega)]; exact h.lo j hj, bl_trans h.bl hb, fun g => h.h0 (on_set g (by decide)), fun g => h.h1 (on_set g (by decide)), fun g => h.h2 (on_set g (by decide)), fun g => (h.h3 (on_set g (by decide))).below hb, fun _ => rfl⟩
end

set_option maxHeartbeats 4000000 in
theorem ltwo_good (a1 b1 a2 b2 : Option Addr) (c1 d1 c2 d2 m n : Nat) (zs : List Int) (qs rs : List Rat) (aF aZ : Addr) (w : World) (hE : Er w aF aZ)
    (hS1 : ∀ v, Below w.heap.size w v → Calls Tryz.prog 11 #[.agg #[.slice a1 m c1, .slice b1 n d1]] v fun e w' => e = .returned (.bool true) ∧ Below v.heap.size v w')
    (hS2 : ∀ v, Below w.heap.size w v → Calls Tryz.prog 11 #[.agg #[.slice a2 m c2, .slice b2 n d2]] v fun e w' => e = .returned (.bool true) ∧ Below v.heap.size v w')
    (hR1 : ∀ v, Below w.heap.size w v → Calls Tryz.prog 18 #[.agg #[.slice a1 m c1, .slice b1 n d1]] v fun e w' => e = .returned (.bool true) ∧ Below v.heap.size v w')
    (hR2 : ∀ v, Below w.heap.size w v → Calls Tryz.prog 18 #[.agg #[.slice a2 m c2, .slice b2 n d2]] v fun e w' => e = .returned (.bool true) ∧ Below v.heap.size v w')
    (hT1 : Tt w 0 a1 b1 zs m n qs 40) (hT2 : Tt w 0 a2 b2 zs m n rs 40) :
    Calls Tryz.prog 4 #[.agg #[.slice a1 m c1, .slice b1 n d1], .agg #[.slice a2 m c2, .slice b2 n d2]] w fun e w' => e = .returned (.bool true) ∧ Below w.heap.size w w' := by
  have HE : Hid _ := hE
  clear hE
  have HB : Hid (Below w.heap.size w w) := Below.refl _ _
  have hle := hT1.le
  have HTa : Hid _ := hT1
  clear hT1
  have HTb : Hid _ := hT2
  clear hT2
  have hu := bl_alloc (Below.refl w.heap.size w) (.cells #[.slice a1 m c1, .slice b1 n d1] 25)
  replace HB : Hid _ := bl_trans HB.out hu
  replace HTa : Hid _ := HTa.out.below hu
  replace HTb : Hid _ := HTb.out.below hu
  clear hu
  have K10 : (w.alloc (.cells #[.slice a1 m c1, .slice b1 n d1] 25)).cell? ⟨w.heap.size, 0, none⟩ = some (.slice a1 m c1) := by first | rw [World.cell?_alloc_at _ _ _ _ (by simp)]; rfl | simp
  have K11 : (w.alloc (.cells #[.slice a1 m c1, .slice b1 n d1] 25)).cell? ⟨w.heap.size, 1, none⟩ = some (.slice b1 n d1) := by first | rw [World.cell?_alloc_at _ _ _ _ (by simp)]; rfl | simp
  have hu := bl_alloc (Below.refl (w.alloc (.cells #[.slice a1 m c1, .slice b1 n d1] 25)).heap.size (w.alloc (.cells #[.slice a1 m c1, .slice b1 n d1] 25))) (.cells #[.slice a2 m c2, .slice b2 n d2] 25)
  replace HB : Hid _ := bl_trans HB.out hu
  replace HTa : Hid _ := HTa.out.below hu
  replace HTb : Hid _ := HTb.out.below hu
  replace K10 := cell_below hu K10
  replace K11 := cell_below hu K11
  clear hu
  have K20 : ((w.alloc (.cells #[.slice a1 m c1, .slice b1 n d1] 25)).alloc (.cells #[.slice a2 m c2, .slice b2 n d2] 25)).cell? ⟨w.heap.size + 1, 0, none⟩ = some (.slice a2 m c2) := by first | rw [World.cell?_alloc_at _ _ _ _ (by simp)]; rfl | simp
  have K21 : ((w.alloc (.cells #[.slice a1 m c1, .slice b1 n d1] 25)).alloc (.cells #[.slice a2 m c2, .slice b2 n d2] 25)).cell? ⟨w.heap.size + 1, 1, none⟩ = some (.slice b2 n d2) := by first | rw [World.cell?_alloc_at _ _ _ _ (by simp)]; rfl | simp
  go_enter Tryz.func4, Tryz.ntmps4
  go_wp2_with fail
  refine (hS1 _ HB.out).mono ?_
  rintro e w1 ⟨rfl, hb⟩
  have hu := hb
  replace HB : Hid _ := bl_trans HB.out hu
  replace HTa : Hid _ := HTa.out.below hu
  replace HTb : Hid _ := HTb.out.below hu
  replace K10 := cell_below hu K10
  replace K11 := cell_below hu K11
  replace K20 := cell_below hu K20
  replace K21 := cell_below hu K21
  clear hu
  clear hb
  go_wp2_with fail
  refine (hS2 _ HB.out).mono ?_
  rintro e w2 ⟨rfl, hb⟩
  have hu := hb
  replace HB : Hid _ := bl_trans HB.out hu
  replace HTa : Hid _ := HTa.out.below hu
  replace HTb : Hid _ := HTb.out.below hu
  replace K10 := cell_below hu K10
  replace K11 := cell_below hu K11
  replace K20 := cell_below hu K20
  replace K21 := cell_below hu K21
  clear hu
  clear hb
  go_wp2_with fail
  refine (zmax c1 d1 c2 d2 (HE.out.below HB.out) HTa.out HTb.out 40 (by omega) (by omega) (by omega)).mono ?_
  rintro e w3 ⟨a3', c3', b3', d3', rfl, hT, hb⟩
  have hu := bl_alloc hb (.cells #[.slice a3' m c3', .slice b3' n d3'] 25)
  replace HB : Hid _ := bl_trans HB.out hu
  replace HTa : Hid _ := HTa.out.below hu
  replace HTb : Hid _ := HTb.out.below hu
  replace K10 := cell_below hu K10
  replace K11 := cell_below hu K11
  replace K20 := cell_below hu K20
  replace K21 := cell_below hu K21
  clear hu
  have HTm : Hid _ := hT.below (bl_alloc (Below.refl w3.heap.size w3) (.cells #[.slice a3' m c3', .slice b3' n d3'] 25))
  have Km0 : (w3.alloc (.cells #[.slice a3' m c3', .slice b3' n d3'] 25)).cell? ⟨w3.heap.size, 0, none⟩ = some (.slice a3' m c3') := by simp
  have Km1 : (w3.alloc (.cells #[.slice a3' m c3', .slice b3' n d3'] 25)).cell? ⟨w3.heap.size, 1, none⟩ = some (.slice b3' n d3') := by simp
  clear hb hT
  go_wp2_with fail
  refine (zabove c1 d1 c2 d2 (HE.out.below HB.out) HTa.out HTb.out 40 (by omega) (by omega) (by omega)).mono ?_
  rintro e w4 ⟨a4', c4', b4', d4', rfl, hT, hb⟩
  have hu := bl_alloc hb (.cells #[.slice a4' m c4', .slice b4' n d4'] 25)
  replace HB : Hid _ := bl_trans HB.out hu
  replace HTa : Hid _ := HTa.out.below hu
  replace HTb : Hid _ := HTb.out.below hu
  replace HTm : Hid _ := HTm.out.below hu
  replace K10 := cell_below hu K10
  replace K11 := cell_below hu K11
  replace K20 := cell_below hu K20
  replace K21 := cell_below hu K21
  replace Km0 := cell_below hu Km0
  replace Km1 := cell_below hu Km1
  clear hu
  have HTv : Hid _ := hT.below (bl_alloc (Below.refl w4.heap.size w4) (.cells #[.slice a4' m c4', .slice b4' n d4'] 25))
  have Kv0 : (w4.alloc (.cells #[.slice a4' m c4', .slice b4' n d4'] 25)).cell? ⟨w4.heap.size, 0, none⟩ = some (.slice a4' m c4') := by simp
  have Kv1 : (w4.alloc (.cells #[.slice a4' m c4', .slice b4' n d4'] 25)).cell? ⟨w4.heap.size, 1, none⟩ = some (.slice b4' n d4') := by simp
  clear hb hT
  go_wp2_with fail
  refine (hR1 _ HB.out).mono ?_
  rintro e w5 ⟨rfl, hb⟩
  have hu := hb
  replace HB : Hid _ := bl_trans HB.out hu
  replace HTa : Hid _ := HTa.out.below hu
  replace HTb : Hid _ := HTb.out.below hu
  replace HTm : Hid _ := HTm.out.below hu
  replace HTv : Hid _ := HTv.out.below hu
  replace K10 := cell_below hu K10
  replace K11 := cell_below hu K11
  replace K20 := cell_below hu K20
  replace K21 := cell_below hu K21
  replace Km0 := cell_below hu Km0
  replace Km1 := cell_below hu Km1
  replace Kv0 := cell_below hu Kv0
  replace Kv1 := cell_below hu Kv1
  clear hu
  clear hb
  go_wp2_with fail
  refine (hR2 _ HB.out).mono ?_
  rintro e w6 ⟨rfl, hb⟩
  have hu := hb
  replace HB : Hid _ := bl_trans HB.out hu
  replace HTa : Hid _ := HTa.out.below hu
  replace HTb : Hid _ := HTb.out.below hu
  replace HTm : Hid _ := HTm.out.below hu
  replace HTv : Hid _ := HTv.out.below hu
  replace K10 := cell_below hu K10
  replace K11 := cell_below hu K11
  replace K20 := cell_below hu K20
  replace K21 := cell_below hu K21
  replace Km0 := cell_below hu Km0
  replace Km1 := cell_below hu Km1
  replace Kv0 := cell_below hu Kv0
  replace Kv1 := cell_below hu Kv1
  clear hu
  clear hb
  go_wp2_with fail
  refine (zsame c1 c2 HTa.out.tm.s HTb.out.tm.s HTa.out.hm (by omega)).mono ?_
  rintro e w7 ⟨rfl, hb⟩
  have hu := hb
  replace HB : Hid _ := bl_trans HB.out hu
  replace HTa : Hid _ := HTa.out.below hu
  replace HTb : Hid _ := HTb.out.below hu
  replace HTm : Hid _ := HTm.out.below hu
  replace HTv : Hid _ := HTv.out.below hu
  replace K10 := cell_below hu K10
  replace K11 := cell_below hu K11
  replace K20 := cell_below hu K20
  replace K21 := cell_below hu K21
  replace Km0 := cell_below hu Km0
  replace Km1 := cell_below hu Km1
  replace Kv0 := cell_below hu Kv0
  replace Kv1 := cell_below hu Kv1
  clear hu
  clear hb
  go_wp2_with fail
  have hE9 := fun (v : World) (hv : Below w7.heap.size w7 v) => rtwo_max a1 b1 a2 b2 c1 d1 c2 d2 m n 0 0 zs qs rs v (HTa.out.below hv) (HTb.out.below hv)
  unfold nMax at hE9
  refine region_bar_inv 5 (by kernel_rfl) (by kernel_rfl) (fun L a v => ∃ s68 s69 s70 s71 s72, a = ⟨#[Value.agg #[Value.slice a1 m c1, Value.slice b1 n d1], Value.agg #[Value.slice a2 m c2, Value.slice b2 n d2], Value.pointer (some { block := w.heap.size, off := 0 }), Value.pointer (some { block := w.heap.size + 1, off := 0 }), Value.bool false, Value.pointer (some { block := w3.heap.size, off := 0 }), Value.int IntKind.i64 0, Value.pointer (some { block := w4.heap.size, off := 0 }), Value.int IntKind.i64 0, Value.int IntKind.i64 0, Value.agg #[Value.slice a1 m c1, Value.slice b1 n d1], Value.bool true, Value.bool false, Value.bool false, Value.agg #[Value.slice a2 m c2, Value.slice b2 n d2], Value.bool true, Value.bool false, Value.bool false, undef, Value.tuple #[Value.agg #[Value.slice a3' m c3', Value.slice b3' n d3'], Value.int IntKind.i64 0], Value.agg #[Value.slice a1 m c1, Value.slice b1 n d1], Value.agg #[Value.slice a2 m c2, Value.slice b2 n d2], Value.tuple #[Value.agg #[Value.slice a3' m c3', Value.slice b3' n d3'], Value.int IntKind.i64 0], Value.agg #[Value.slice a3' m c3', Value.slice b3' n d3'], Value.int IntKind.i64 0, Value.tuple #[Value.agg #[Value.slice a4' m c4', Value.slice b4' n d4'], Value.int IntKind.i64 0], Value.agg #[Value.slice a1 m c1, Value.slice b1 n d1], Value.agg #[Value.slice a2 m c2, Value.slice b2 n d2], Value.tuple #[Value.agg #[Value.slice a4' m c4', Value.slice b4' n d4'], Value.int IntKind.i64 0], Value.agg #[Value.slice a4' m c4', Value.slice b4' n d4'], Value.int IntKind.i64 0, Value.agg #[Value.slice a1 m c1, Value.slice b1 n d1], Value.bool true, Value.bool false, Value.bool false, Value.agg #[Value.slice a2 m c2, Value.slice b2 n d2], Value.bool true, Value.bool false, Value.bool false, Value.pointer (some { block := w.heap.size, off := 0 }), Value.slice a1 m c1, Value.pointer (some { block := w.heap.size + 1, off := 0 }), Value.slice a2 m c2, Value.bool true, Value.bool false, Value.int IntKind.i64 0, Value.bool false, undef, undef, undef, undef, undef, undef, undef, undef, undef, undef, undef, undef, undef, undef, undef, undef, undef, undef, undef, undef, undef, s68, s69, s70, s71, s72, undef, undef, undef, undef, undef, undef, undef, undef, undef, undef, undef, undef, undef, undef, undef, undef, undef, undef, undef, undef], []⟩ ∧ Cw0 w7 (.agg #[.slice a3' m c3', .slice b3' n d3']) (.agg #[.slice a1 m c1, .slice b1 n d1]) (.agg #[.slice a2 m c2, .slice b2 n d2]) zs m n (List.zipWith kMax qs rs) 40 L v s68 s69 s70 s71 s72) ?_ ?_ ?_
  · exact ⟨_, _, _, _, _, rfl, ⟨by simp, fun j hj => absurd hj (by omega), bl_drew (Below.refl _ _), fun g => absurd g (by simp [on]), fun g => absurd g (by simp [on]), fun g => absurd g (by simp [on]), fun g => absurd g (by simp [on]), fun g => absurd g (by simp [on])⟩⟩
  · intro L a v i hL9 hlt hI hrd
    obtain ⟨s68, s69, s70, s71, s72, rfl, hP⟩ := hI
    obtain ⟨hu, o9, ho, haf⟩ := mem_ready.1 hrd
    have hge : 0 ≤ i := Nat.le_of_not_lt fun c => off_of hu (hP.lo i c)
    have y10 := cell_below hP.bl K10
    have y11 := cell_below hP.bl K11
    have y20 := cell_below hP.bl K20
    have y21 := cell_below hP.bl K21
    have ym0 := cell_below hP.bl Km0
    have ym1 := cell_below hP.bl Km1
    have yv0 := cell_below hP.bl Kv0
    have yv1 := cell_below hP.bl Kv1
    rcases (by omega : i = 0 ∨ i = 1 ∨ i = 2 ∨ i = 3 ∨ i = 4) with rfl | rfl | rfl | rfl | rfl
    all_goals (cases ho; replace hu := off_of hu)
    · have hP2 := hP.t0
      refine step_run rfl rfl ?_
      go_simp
      exact ⟨_, _, _, _, _, ⟨rfl, rfl, rfl, rfl, rfl⟩, hP2⟩
    · have hP2 := hP.t1
      refine step_run rfl rfl ?_
      go_simp
      exact ⟨_, _, _, _, _, ⟨rfl, rfl, rfl, rfl, rfl⟩, hP2⟩
    · have hP2 := hP.t2
      refine step_run rfl rfl ?_
      go_simp
      exact ⟨_, _, _, _, _, ⟨rfl, rfl, rfl, rfl, rfl⟩, hP2⟩
    · skip
      have e1 := (hP.h1 (haf { on := 1, ground := .data } (by simp) rfl)).symm
      have e2 := (hP.h2 (haf { on := 2, ground := .data } (by simp) rfl)).symm
      subst e1 e2
      refine step_run rfl rfl ?_
      go_simp
      refine (hE9 v hP.bl).mono ?_
      rintro e v9 ⟨a9, c9, b9, d9, rfl, hz, hb9⟩
      have hP2 := hP.t3 ⟨a9, c9, b9, d9, rfl, hz⟩ hb9
      go_simp
      exact ⟨_, _, _, _, _, ⟨rfl, rfl, rfl, rfl, rfl⟩, hP2⟩
    · have e0 := (hP.h0 (haf { on := 0, ground := .data } (by simp) rfl)).symm
      obtain ⟨a7, c7, b7, d7, e3, h9⟩ := hP.h3 (haf { on := 3, ground := .data } (by simp) rfl)
      replace e3 := e3.symm
      subst e0 e3
      refine step_run rfl rfl ?_
      go_simp
      refine (zeq c3' d3' c7 d7 (HTm.out.below hP.bl) h9 rfl).mono ?_
      rintro e v9 ⟨rfl, hb9⟩
      have hP2 := hP.t4 hb9
      go_simp
      exact ⟨_, _, _, _, _, ⟨rfl, rfl, rfl, rfl, rfl⟩, hP2⟩
  intro L a v5 hon hI
  obtain ⟨s68, s69, s70, s71, s72, rfl, hP⟩ := hI
  have e9 := (hP.h4 (hon 4 (by decide))).symm
  have hb := hP.bl
  clear hP hon
  subst e9
  have hu := hb
  replace HB : Hid _ := bl_trans HB.out hu
  replace HTa : Hid _ := HTa.out.below hu
  replace HTb : Hid _ := HTb.out.below hu
  replace HTm : Hid _ := HTm.out.below hu
  replace HTv : Hid _ := HTv.out.below hu
  replace K10 := cell_below hu K10
  replace K11 := cell_below hu K11
  replace K20 := cell_below hu K20
  replace K21 := cell_below hu K21
  replace Km0 := cell_below hu Km0
  replace Km1 := cell_below hu Km1
  replace Kv0 := cell_below hu Kv0
  replace Kv1 := cell_below hu Kv1
  clear hu
  clear hb
  clear hE9
  refine any_one 5 _ (by kernel_rfl) rfl (fun K hK => ?_)
  go_simp
  refine hK _ _ ?_
  clear hK K
  have hE9 := fun (v : World) (hv : Below v5.heap.size v5 v) => rtwo_above a1 b1 a2 b2 c1 d1 c2 d2 m n 0 0 zs qs rs v (HTa.out.below hv) (HTb.out.below hv)
  unfold nAbove at hE9
  refine any_next 6 11 (by kernel_rfl) (by decide) (by kernel_rfl) (by kernel_rfl) (fun L a v => ∃ s74 s75 s76 s77 s78, a = ⟨#[Value.agg #[Value.slice a1 m c1, Value.slice b1 n d1], Value.agg #[Value.slice a2 m c2, Value.slice b2 n d2], Value.pointer (some { block := w.heap.size, off := 0 }), Value.pointer (some { block := w.heap.size + 1, off := 0 }), Value.bool false, Value.pointer (some { block := w3.heap.size, off := 0 }), Value.int IntKind.i64 0, Value.pointer (some { block := w4.heap.size, off := 0 }), Value.int IntKind.i64 0, Value.int IntKind.i64 0, Value.agg #[Value.slice a1 m c1, Value.slice b1 n d1], Value.bool true, Value.bool false, Value.bool false, Value.agg #[Value.slice a2 m c2, Value.slice b2 n d2], Value.bool true, Value.bool false, Value.bool false, undef, Value.tuple #[Value.agg #[Value.slice a3' m c3', Value.slice b3' n d3'], Value.int IntKind.i64 0], Value.agg #[Value.slice a1 m c1, Value.slice b1 n d1], Value.agg #[Value.slice a2 m c2, Value.slice b2 n d2], Value.tuple #[Value.agg #[Value.slice a3' m c3', Value.slice b3' n d3'], Value.int IntKind.i64 0], Value.agg #[Value.slice a3' m c3', Value.slice b3' n d3'], Value.int IntKind.i64 0, Value.tuple #[Value.agg #[Value.slice a4' m c4', Value.slice b4' n d4'], Value.int IntKind.i64 0], Value.agg #[Value.slice a1 m c1, Value.slice b1 n d1], Value.agg #[Value.slice a2 m c2, Value.slice b2 n d2], Value.tuple #[Value.agg #[Value.slice a4' m c4', Value.slice b4' n d4'], Value.int IntKind.i64 0], Value.agg #[Value.slice a4' m c4', Value.slice b4' n d4'], Value.int IntKind.i64 0, Value.agg #[Value.slice a1 m c1, Value.slice b1 n d1], Value.bool true, Value.bool false, Value.bool false, Value.agg #[Value.slice a2 m c2, Value.slice b2 n d2], Value.bool true, Value.bool false, Value.bool false, Value.pointer (some { block := w.heap.size, off := 0 }), Value.slice a1 m c1, Value.pointer (some { block := w.heap.size + 1, off := 0 }), Value.slice a2 m c2, Value.bool true, Value.bool false, Value.int IntKind.i64 0, Value.bool false, undef, undef, undef, undef, undef, undef, undef, undef, undef, undef, undef, undef, undef, undef, undef, undef, undef, undef, undef, undef, undef, s68, s69, s70, s71, .bool true, .bool true, s74, s75, s76, s77, s78, undef, undef, undef, undef, undef, undef, undef, undef, undef, undef, undef, undef, undef, undef], []⟩ ∧ Cw1 v5 (.agg #[.slice a4' m c4', .slice b4' n d4']) (.agg #[.slice a1 m c1, .slice b1 n d1]) (.agg #[.slice a2 m c2, .slice b2 n d2]) zs m n (List.zipWith kAbove qs rs) 40 L v s74 s75 s76 s77 s78) ?_ ?_ ?_
  · exact ⟨_, _, _, _, _, rfl, ⟨part_size (by decide), fun j hj => part_lo hj, Below.refl _ _, fun g => absurd g (part_off (by decide)), fun g => absurd g (part_off (by decide)), fun g => absurd g (part_off (by decide)), fun g => absurd g (part_off (by decide)), fun g => absurd g (part_off (by decide))⟩⟩
  · intro L a v i hL9 hlt hI hrd
    obtain ⟨s74, s75, s76, s77, s78, rfl, hP⟩ := hI
    obtain ⟨hu, o9, ho, haf⟩ := mem_ready.1 hrd
    have hge : 6 ≤ i := Nat.le_of_not_lt fun c => off_of hu (hP.lo i c)
    have y10 := cell_below hP.bl K10
    have y11 := cell_below hP.bl K11
    have y20 := cell_below hP.bl K20
    have y21 := cell_below hP.bl K21
    have ym0 := cell_below hP.bl Km0
    have ym1 := cell_below hP.bl Km1
    have yv0 := cell_below hP.bl Kv0
    have yv1 := cell_below hP.bl Kv1
    rcases (by omega : i = 6 ∨ i = 7 ∨ i = 8 ∨ i = 9 ∨ i = 10) with rfl | rfl | rfl | rfl | rfl
    all_goals (cases ho; replace hu := off_of hu)
    · have hP2 := hP.t0
      refine step_runw rfl (by first | rfl | go_simp) ?_
      go_simp
      exact ⟨_, _, _, _, _, ⟨rfl, rfl, rfl, rfl, rfl⟩, hP2⟩
    · have hP2 := hP.t1
      refine step_runw rfl (by first | rfl | go_simp) ?_
      go_simp
      exact ⟨_, _, _, _, _, ⟨rfl, rfl, rfl, rfl, rfl⟩, hP2⟩
    · have hP2 := hP.t2
      refine step_runw rfl (by first | rfl | go_simp) ?_
      go_simp
      exact ⟨_, _, _, _, _, ⟨rfl, rfl, rfl, rfl, rfl⟩, hP2⟩
    · skip
      have e1 := (hP.h1 (haf { on := 7, ground := .data } (by simp) rfl)).symm
      have e2 := (hP.h2 (haf { on := 8, ground := .data } (by simp) rfl)).symm
      subst e1 e2
      refine step_runw rfl (by first | rfl | go_simp) ?_
      go_simp
      refine (hE9 v hP.bl).mono ?_
      rintro e v9 ⟨a9, c9, b9, d9, rfl, hz, hb9⟩
      have hP2 := hP.t3 ⟨a9, c9, b9, d9, rfl, hz⟩ hb9
      go_simp
      exact ⟨_, _, _, _, _, ⟨rfl, rfl, rfl, rfl, rfl⟩, hP2⟩
    · have e0 := (hP.h0 (haf { on := 6, ground := .data } (by simp) rfl)).symm
      obtain ⟨a7, c7, b7, d7, e3, h9⟩ := hP.h3 (haf { on := 9, ground := .data } (by simp) rfl)
      replace e3 := e3.symm
      subst e0 e3
      refine step_runw rfl (by first | rfl | go_simp) ?_
      go_simp
      refine (zeq c4' d4' c7 d7 (HTv.out.below hP.bl) h9 rfl).mono ?_
      rintro e v9 ⟨rfl, hb9⟩
      have hP2 := hP.t4 hb9
      go_simp
      exact ⟨_, _, _, _, _, ⟨rfl, rfl, rfl, rfl, rfl⟩, hP2⟩
  intro L a v11 hon hI
  obtain ⟨s74, s75, s76, s77, s78, rfl, hP⟩ := hI
  have e9 := (hP.h4 (hon 10 (by decide))).symm
  have hb := hP.bl
  clear hP hon
  subst e9
  have hu := hb
  replace HB : Hid _ := bl_trans HB.out hu
  replace HTa : Hid _ := HTa.out.below hu
  replace HTb : Hid _ := HTb.out.below hu
  replace HTm : Hid _ := HTm.out.below hu
  replace HTv : Hid _ := HTv.out.below hu
  replace K10 := cell_below hu K10
  replace K11 := cell_below hu K11
  replace K20 := cell_below hu K20
  replace K21 := cell_below hu K21
  replace Km0 := cell_below hu Km0
  replace Km1 := cell_below hu Km1
  replace Kv0 := cell_below hu Kv0
  replace Kv1 := cell_below hu Kv1
  clear hu
  clear hb
  clear hE9
  refine any_one 11 _ (by kernel_rfl) rfl (fun K hK => ?_)
  go_simp
  refine hK _ _ ?_
  clear hK K
  refine any_one 12 _ (by kernel_rfl) rfl (fun K hK => ?_)
  go_simp
  refine hK _ _ ?_
  clear hK K
  refine any_two 13 14 _ (by kernel_rfl) (by kernel_rfl) (by kernel_rfl) rfl (by kernel_rfl) (fun K hK => ?_)
  replace hK : K ⟨#[Value.agg #[Value.slice a1 m c1, Value.slice b1 n d1], Value.agg #[Value.slice a2 m c2, Value.slice b2 n d2], Value.pointer (some { block := w.heap.size, off := 0 }), Value.pointer (some { block := w.heap.size + 1, off := 0 }), Value.bool false, Value.pointer (some { block := w3.heap.size, off := 0 }), Value.int IntKind.i64 0, Value.pointer (some { block := w4.heap.size, off := 0 }), Value.int IntKind.i64 0, Value.int IntKind.i64 0, Value.agg #[Value.slice a1 m c1, Value.slice b1 n d1], Value.bool true, Value.bool false, Value.bool false, Value.agg #[Value.slice a2 m c2, Value.slice b2 n d2], Value.bool true, Value.bool false, Value.bool false, undef, Value.tuple #[Value.agg #[Value.slice a3' m c3', Value.slice b3' n d3'], Value.int IntKind.i64 0], Value.agg #[Value.slice a1 m c1, Value.slice b1 n d1], Value.agg #[Value.slice a2 m c2, Value.slice b2 n d2], Value.tuple #[Value.agg #[Value.slice a3' m c3', Value.slice b3' n d3'], Value.int IntKind.i64 0], Value.agg #[Value.slice a3' m c3', Value.slice b3' n d3'], Value.int IntKind.i64 0, Value.tuple #[Value.agg #[Value.slice a4' m c4', Value.slice b4' n d4'], Value.int IntKind.i64 0], Value.agg #[Value.slice a1 m c1, Value.slice b1 n d1], Value.agg #[Value.slice a2 m c2, Value.slice b2 n d2], Value.tuple #[Value.agg #[Value.slice a4' m c4', Value.slice b4' n d4'], Value.int IntKind.i64 0], Value.agg #[Value.slice a4' m c4', Value.slice b4' n d4'], Value.int IntKind.i64 0, Value.agg #[Value.slice a1 m c1, Value.slice b1 n d1], Value.bool true, Value.bool false, Value.bool false, Value.agg #[Value.slice a2 m c2, Value.slice b2 n d2], Value.bool true, Value.bool false, Value.bool false, Value.pointer (some { block := w.heap.size, off := 0 }), Value.slice a1 m c1, Value.pointer (some { block := w.heap.size + 1, off := 0 }), Value.slice a2 m c2, Value.bool true, Value.bool false, Value.int IntKind.i64 0, Value.bool false, undef, undef, undef, undef, undef, undef, undef, undef, undef, undef, undef, undef, undef, undef, undef, undef, undef, undef, undef, undef, undef, s68, s69, s70, s71, .bool true, .bool true, s74, s75, s76, s77, .bool true, .bool true, .bool true, .int .i64 0, .int .i64 0, undef, undef, undef, undef, undef, undef, undef, undef, undef, undef], []⟩ v11 := by
    refine hK _ _ ?_
    clear hK K
    refine any_one 15 _ (by kernel_rfl) rfl (fun K hK => ?_)
    go_simp
    refine hK _ _ ?_
    clear hK K
    refine any_one 16 _ (by kernel_rfl) rfl (fun K hK => ?_)
    go_simp
    refine hK _ _ ?_
    clear hK K
    refine any_one 17 _ (by kernel_rfl) rfl (fun K hK => ?_)
    go_simp
    refine hK _ _ ?_
    clear hK K
    refine any_two 18 19 _ (by kernel_rfl) (by kernel_rfl) (by kernel_rfl) rfl (by kernel_rfl) (fun K hK => ?_)
    replace hK : K ⟨#[Value.agg #[Value.slice a1 m c1, Value.slice b1 n d1], Value.agg #[Value.slice a2 m c2, Value.slice b2 n d2], Value.pointer (some { block := w.heap.size, off := 0 }), Value.pointer (some { block := w.heap.size + 1, off := 0 }), Value.bool false, Value.pointer (some { block := w3.heap.size, off := 0 }), Value.int IntKind.i64 0, Value.pointer (some { block := w4.heap.size, off := 0 }), Value.int IntKind.i64 0, Value.int IntKind.i64 0, Value.agg #[Value.slice a1 m c1, Value.slice b1 n d1], Value.bool true, Value.bool false, Value.bool false, Value.agg #[Value.slice a2 m c2, Value.slice b2 n d2], Value.bool true, Value.bool false, Value.bool false, undef, Value.tuple #[Value.agg #[Value.slice a3' m c3', Value.slice b3' n d3'], Value.int IntKind.i64 0], Value.agg #[Value.slice a1 m c1, Value.slice b1 n d1], Value.agg #[Value.slice a2 m c2, Value.slice b2 n d2], Value.tuple #[Value.agg #[Value.slice a3' m c3', Value.slice b3' n d3'], Value.int IntKind.i64 0], Value.agg #[Value.slice a3' m c3', Value.slice b3' n d3'], Value.int IntKind.i64 0, Value.tuple #[Value.agg #[Value.slice a4' m c4', Value.slice b4' n d4'], Value.int IntKind.i64 0], Value.agg #[Value.slice a1 m c1, Value.slice b1 n d1], Value.agg #[Value.slice a2 m c2, Value.slice b2 n d2], Value.tuple #[Value.agg #[Value.slice a4' m c4', Value.slice b4' n d4'], Value.int IntKind.i64 0], Value.agg #[Value.slice a4' m c4', Value.slice b4' n d4'], Value.int IntKind.i64 0, Value.agg #[Value.slice a1 m c1, Value.slice b1 n d1], Value.bool true, Value.bool false, Value.bool false, Value.agg #[Value.slice a2 m c2, Value.slice b2 n d2], Value.bool true, Value.bool false, Value.bool false, Value.pointer (some { block := w.heap.size, off := 0 }), Value.slice a1 m c1, Value.pointer (some { block := w.heap.size + 1, off := 0 }), Value.slice a2 m c2, Value.bool true, Value.bool false, Value.int IntKind.i64 0, Value.bool false, undef, undef, undef, undef, undef, undef, undef, undef, undef, undef, undef, undef, undef, undef, undef, undef, undef, undef, undef, undef, undef, s68, s69, s70, s71, .bool true, .bool true, s74, s75, s76, s77, .bool true, .bool true, .bool true, .int .i64 0, .int .i64 0, .bool true, .bool true, .bool true, .int .i64 0, .int .i64 0, undef, undef, undef, undef, undef], []⟩ v11 := by
      refine hK _ _ ?_
      clear hK K
      refine any_one 20 _ (by kernel_rfl) rfl (fun K hK => ?_)
      go_simp
      refine hK _ _ ?_
      clear hK K
      refine any_one 21 _ (by kernel_rfl) rfl (fun K hK => ?_)
      go_simp
      refine hK _ _ ?_
      clear hK K
      refine any_one 22 _ (by kernel_rfl) rfl (fun K hK => ?_)
      go_simp
      refine hK _ _ ?_
      clear hK K
      refine any_one 23 _ (by kernel_rfl) rfl (fun K hK => ?_)
      go_simp
      refine (awake_any aF aZ _ (HE.out.below HB.out)).mono ?_
      rintro e v3 ⟨rfl, hb⟩
      replace HB : Hid _ := bl_trans HB.out hb
      clear hb
      refine hK _ _ ?_
      clear hK K
      refine any_one 24 _ (by kernel_rfl) rfl (fun K hK => ?_)
      go_simp
      refine hK _ _ ?_
      clear hK K
      refine any_one 25 _ (by kernel_rfl) rfl (fun K hK => ?_)
      go_simp
      refine hK _ _ ?_
      clear hK K
      refine any_end (by kernel_rfl) ?_
      go_wp2
      go_ret
      exact ⟨rfl, HB.out⟩
    refine ⟨?_, ?_⟩
    · skip
      refine op_step 18 _ rfl (fun K1 hK1 => ?_)
      go_simp
      refine hK1 _ _ ?_
      clear hK1 K1
      refine op_step 19 _ rfl (fun K1 hK1 => ?_)
      go_simp
      refine hK1 _ _ ?_
      clear hK1 K1
      exact hK
    · skip
      refine op_step 19 _ rfl (fun K1 hK1 => ?_)
      go_simp
      refine hK1 _ _ ?_
      clear hK1 K1
      refine op_step 18 _ rfl (fun K1 hK1 => ?_)
      go_simp
      refine hK1 _ _ ?_
      clear hK1 K1
      exact hK
  refine ⟨?_, ?_⟩
  · skip
    refine op_step 13 _ rfl (fun K1 hK1 => ?_)
    go_simp
    refine hK1 _ _ ?_
    clear hK1 K1
    refine op_step 14 _ rfl (fun K1 hK1 => ?_)
    go_simp
    refine hK1 _ _ ?_
    clear hK1 K1
    exact hK
  · skip
    refine op_step 14 _ rfl (fun K1 hK1 => ?_)
    go_simp
    refine hK1 _ _ ?_
    clear hK1 K1
    refine op_step 13 _ rfl (fun K1 hK1 => ?_)
    go_simp
    refine hK1 _ _ ?_
    clear hK1 K1
    exact hK
theorem ltwo_any (a1 b1 a2 b2 : Option Addr) (c1 d1 c2 d2 : Nat) (zs us : List Int) (xs ys : List ByteArray) (aF aZ : Addr) (w : World) (hE : Er w aF aZ) (h1 : Tm w 0 a1 b1 zs xs) (h2 : Tm w 0 a2 b2 us ys) :
    Calls Tryz.prog 4 #[.agg #[.slice a1 zs.length c1, .slice b1 xs.length d1], .agg #[.slice a2 us.length c2, .slice b2 ys.length d2]] w fun e w' => e = .returned (.bool true) ∧ Below w.heap.size w w' := by
  have S1 := fun (v : World) (hv : Below w.heap.size w v) => small_below c1 d1 (h1.below hv)
  have S2 := fun (v : World) (hv : Below w.heap.size w v) => small_below c2 d2 (h2.below hv)
  cases e1 : small zs xs with
  | false => rw [e1] at S1; exact ltwo_long1 a1 b1 a2 b2 c1 d1 _ _ c2 d2 _ _ aF aZ w hE S1
  | true =>
    rw [e1] at S1
    cases e2 : small us ys with
    | false => rw [e2] at S2; exact ltwo_long2 a1 b1 a2 b2 c1 d1 _ _ c2 d2 _ _ aF aZ w hE S1 S2
    | true =>
      rw [e2] at S2
      have A1 := Ta.small h1 e1
      have A2 := Ta.small h2 e2
      have R1 := fun (v : World) (hv : Below w.heap.size w v) => (A1.below hv).rright e1 c1 d1
      have R2 := fun (v : World) (hv : Below w.heap.size w v) => (A2.below hv).rright e2 c2 d2
      have M := fun (v : World) (hv : Below w.heap.size w v) => zmax_no c1 d1 c2 d2 (hE.below hv) (A1.below hv) (A2.below hv) rfl rfl rfl rfl
      have V := fun (v : World) (hv : Below w.heap.size w v) => zabove_no c1 d1 c2 d2 (hE.below hv) (A1.below hv) (A2.below hv) rfl rfl rfl rfl
      cases t1 : tn zs xs with
      | false =>
        rw [t1] at R1 M V
        exact ltwo_a a1 b1 a2 b2 c1 d1 _ _ c2 d2 _ _ aF aZ w hE S1 S2 (fun v hv => M v hv (fun c => by cases c.1)) (fun v hv => V v hv (fun c => by cases c.1)) R1
      | true =>
        rw [t1] at R1 M V
        cases t2 : tn us ys with
        | false =>
          rw [t2] at R2 M V
          exact ltwo_b a1 b1 a2 b2 c1 d1 _ _ c2 d2 _ _ aF aZ w hE S1 S2 (fun v hv => M v hv (fun c => by cases c.1)) (fun v hv => V v hv (fun c => by cases c.1)) R1 R2
        | true =>
          rw [t2] at R2 M V
          by_cases hz : zs = us
          · subst hz
            obtain ⟨qs, rs, _, _, el, T1, T2⟩ := Tt.pair h1 h2 e1 e2 t1 t2
            rw [el] at S2 R2 ⊢
            exact ltwo_good a1 b1 a2 b2 c1 d1 c2 d2 _ _ zs qs rs aF aZ w hE S1 S2 R1 R2 T1 T2
          · exact ltwo_s a1 b1 a2 b2 c1 d1 _ _ c2 d2 _ _ aF aZ w hE S1 S2 (fun v hv => M v hv (fun c => hz c.2)) (fun v hv => V v hv (fun c => hz c.2)) R1 R2 (fun v hv => by
              have k := Sp.refSame_any a1 a2 zs us c1 c2 v A1.zl A2.zl (h1.s.below hv) (h2.s.below hv)
              rw [decide_eq_false hz] at k
              exact k.mono fun e w' ⟨he, hs⟩ => ⟨he, hs.below _⟩)
end Go.Proofs.YtjkobbpebnkimaaGreatDoor.Tn
