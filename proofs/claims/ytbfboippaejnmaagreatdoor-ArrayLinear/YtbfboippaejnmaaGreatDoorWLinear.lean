/-
  THE WALK OF ArrayLinear. Conditions: what the arguments hold.
-/
import Derived.Test.YtbfboippaejnmaaGreatDoorAw6
namespace Go.Proofs.YtbfboippaejnmaaGreatDoor.Tn
set_option maxRecDepth 100000
open Go.RowKit Nm
set_option linter.unusedVariables false

set_option maxHeartbeats 4000000 in
theorem linear_long1 (a1 b1 a2 b2 a3 b3 : Option Addr) (c1 d1 m1 n1 c2 d2 m2 n2 c3 d3 m3 n3 : Nat) (aF aZ : Addr) (w : World) (hE : Er w aF aZ)
    (hS1 : ∀ v, Below w.heap.size w v → Calls Tryz.prog 12 #[.agg #[.slice a1 m1 c1, .slice b1 n1 d1]] v fun e w' => e = .returned (.bool false) ∧ Below v.heap.size v w') :
    Calls Tryz.prog 8 #[.agg #[.slice a1 m1 c1, .slice b1 n1 d1], .agg #[.slice a2 m2 c2, .slice b2 n2 d2], .agg #[.slice a3 m3 c3, .slice b3 n3 d3]] w fun e w' => e = .returned (.bool true) ∧ Below w.heap.size w w' := by
  have HE : Hid _ := hE
  clear hE
  have HB : Hid (Below w.heap.size w w) := Below.refl _ _
  have hu := bl_alloc (Below.refl w.heap.size w) (.cells #[.slice a1 m1 c1, .slice b1 n1 d1] 25)
  replace HB : Hid _ := bl_trans HB.out hu
  clear hu
  have K10 : (w.alloc (.cells #[.slice a1 m1 c1, .slice b1 n1 d1] 25)).cell? ⟨w.heap.size, 0, none⟩ = some (.slice a1 m1 c1) := by first | rw [World.cell?_alloc_at _ _ _ _ (by simp)]; rfl | simp
  have K11 : (w.alloc (.cells #[.slice a1 m1 c1, .slice b1 n1 d1] 25)).cell? ⟨w.heap.size, 1, none⟩ = some (.slice b1 n1 d1) := by first | rw [World.cell?_alloc_at _ _ _ _ (by simp)]; rfl | simp
  have hu := bl_alloc (Below.refl (w.alloc (.cells #[.slice a1 m1 c1, .slice b1 n1 d1] 25)).heap.size (w.alloc (.cells #[.slice a1 m1 c1, .slice b1 n1 d1] 25))) (.cells #[.slice a2 m2 c2, .slice b2 n2 d2] 25)
  replace HB : Hid _ := bl_trans HB.out hu
  replace K10 := cell_below hu K10
  replace K11 := cell_below hu K11
  clear hu
  have K20 : ((w.alloc (.cells #[.slice a1 m1 c1, .slice b1 n1 d1] 25)).alloc (.cells #[.slice a2 m2 c2, .slice b2 n2 d2] 25)).cell? ⟨w.heap.size + 1, 0, none⟩ = some (.slice a2 m2 c2) := by first | rw [World.cell?_alloc_at _ _ _ _ (by simp)]; rfl | simp
  have K21 : ((w.alloc (.cells #[.slice a1 m1 c1, .slice b1 n1 d1] 25)).alloc (.cells #[.slice a2 m2 c2, .slice b2 n2 d2] 25)).cell? ⟨w.heap.size + 1, 1, none⟩ = some (.slice b2 n2 d2) := by first | rw [World.cell?_alloc_at _ _ _ _ (by simp)]; rfl | simp
  have hu := bl_alloc (Below.refl ((w.alloc (.cells #[.slice a1 m1 c1, .slice b1 n1 d1] 25)).alloc (.cells #[.slice a2 m2 c2, .slice b2 n2 d2] 25)).heap.size ((w.alloc (.cells #[.slice a1 m1 c1, .slice b1 n1 d1] 25)).alloc (.cells #[.slice a2 m2 c2, .slice b2 n2 d2] 25))) (.cells #[.slice a3 m3 c3, .slice b3 n3 d3] 25)
  replace HB : Hid _ := bl_trans HB.out hu
  replace K10 := cell_below hu K10
  replace K11 := cell_below hu K11
  replace K20 := cell_below hu K20
  replace K21 := cell_below hu K21
  clear hu
  have K30 : (((w.alloc (.cells #[.slice a1 m1 c1, .slice b1 n1 d1] 25)).alloc (.cells #[.slice a2 m2 c2, .slice b2 n2 d2] 25)).alloc (.cells #[.slice a3 m3 c3, .slice b3 n3 d3] 25)).cell? ⟨w.heap.size + 1 + 1, 0, none⟩ = some (.slice a3 m3 c3) := by first | rw [World.cell?_alloc_at _ _ _ _ (by simp)]; rfl | simp
  have K31 : (((w.alloc (.cells #[.slice a1 m1 c1, .slice b1 n1 d1] 25)).alloc (.cells #[.slice a2 m2 c2, .slice b2 n2 d2] 25)).alloc (.cells #[.slice a3 m3 c3, .slice b3 n3 d3] 25)).cell? ⟨w.heap.size + 1 + 1, 1, none⟩ = some (.slice b3 n3 d3) := by first | rw [World.cell?_alloc_at _ _ _ _ (by simp)]; rfl | simp
  go_enter Tryz.func8, Tryz.ntmps8
  go_wp2_with fail
  refine (hS1 _ HB.out).mono ?_
  rintro e w1 ⟨rfl, hb⟩
  have hu := hb
  replace HB : Hid _ := bl_trans HB.out hu
  replace K10 := cell_below hu K10
  replace K11 := cell_below hu K11
  replace K20 := cell_below hu K20
  replace K21 := cell_below hu K21
  replace K30 := cell_below hu K30
  replace K31 := cell_below hu K31
  clear hu
  clear hb
  go_wp2_with fail
  refine (awake_any aF aZ _ (HE.out.below HB.out)).mono ?_
  rintro e w2 ⟨rfl, hb⟩
  have hu := hb
  replace HB : Hid _ := bl_trans HB.out hu
  replace K10 := cell_below hu K10
  replace K11 := cell_below hu K11
  replace K20 := cell_below hu K20
  replace K21 := cell_below hu K21
  replace K30 := cell_below hu K30
  replace K31 := cell_below hu K31
  clear hu
  clear hb
  go_wp2
  go_ret
  exact ⟨rfl, HB.out⟩

set_option maxHeartbeats 4000000 in
theorem linear_long2 (a1 b1 a2 b2 a3 b3 : Option Addr) (c1 d1 m1 n1 c2 d2 m2 n2 c3 d3 m3 n3 : Nat) (aF aZ : Addr) (w : World) (hE : Er w aF aZ)
    (hS1 : ∀ v, Below w.heap.size w v → Calls Tryz.prog 12 #[.agg #[.slice a1 m1 c1, .slice b1 n1 d1]] v fun e w' => e = .returned (.bool true) ∧ Below v.heap.size v w')
    (hS2 : ∀ v, Below w.heap.size w v → Calls Tryz.prog 12 #[.agg #[.slice a2 m2 c2, .slice b2 n2 d2]] v fun e w' => e = .returned (.bool false) ∧ Below v.heap.size v w') :
    Calls Tryz.prog 8 #[.agg #[.slice a1 m1 c1, .slice b1 n1 d1], .agg #[.slice a2 m2 c2, .slice b2 n2 d2], .agg #[.slice a3 m3 c3, .slice b3 n3 d3]] w fun e w' => e = .returned (.bool true) ∧ Below w.heap.size w w' := by
  have HE : Hid _ := hE
  clear hE
  have HB : Hid (Below w.heap.size w w) := Below.refl _ _
  have hu := bl_alloc (Below.refl w.heap.size w) (.cells #[.slice a1 m1 c1, .slice b1 n1 d1] 25)
  replace HB : Hid _ := bl_trans HB.out hu
  clear hu
  have K10 : (w.alloc (.cells #[.slice a1 m1 c1, .slice b1 n1 d1] 25)).cell? ⟨w.heap.size, 0, none⟩ = some (.slice a1 m1 c1) := by first | rw [World.cell?_alloc_at _ _ _ _ (by simp)]; rfl | simp
  have K11 : (w.alloc (.cells #[.slice a1 m1 c1, .slice b1 n1 d1] 25)).cell? ⟨w.heap.size, 1, none⟩ = some (.slice b1 n1 d1) := by first | rw [World.cell?_alloc_at _ _ _ _ (by simp)]; rfl | simp
  have hu := bl_alloc (Below.refl (w.alloc (.cells #[.slice a1 m1 c1, .slice b1 n1 d1] 25)).heap.size (w.alloc (.cells #[.slice a1 m1 c1, .slice b1 n1 d1] 25))) (.cells #[.slice a2 m2 c2, .slice b2 n2 d2] 25)
  replace HB : Hid _ := bl_trans HB.out hu
  replace K10 := cell_below hu K10
  replace K11 := cell_below hu K11
  clear hu
  have K20 : ((w.alloc (.cells #[.slice a1 m1 c1, .slice b1 n1 d1] 25)).alloc (.cells #[.slice a2 m2 c2, .slice b2 n2 d2] 25)).cell? ⟨w.heap.size + 1, 0, none⟩ = some (.slice a2 m2 c2) := by first | rw [World.cell?_alloc_at _ _ _ _ (by simp)]; rfl | simp
  have K21 : ((w.alloc (.cells #[.slice a1 m1 c1, .slice b1 n1 d1] 25)).alloc (.cells #[.slice a2 m2 c2, .slice b2 n2 d2] 25)).cell? ⟨w.heap.size + 1, 1, none⟩ = some (.slice b2 n2 d2) := by first | rw [World.cell?_alloc_at _ _ _ _ (by simp)]; rfl | simp
  have hu := bl_alloc (Below.refl ((w.alloc (.cells #[.slice a1 m1 c1, .slice b1 n1 d1] 25)).alloc (.cells #[.slice a2 m2 c2, .slice b2 n2 d2] 25)).heap.size ((w.alloc (.cells #[.slice a1 m1 c1, .slice b1 n1 d1] 25)).alloc (.cells #[.slice a2 m2 c2, .slice b2 n2 d2] 25))) (.cells #[.slice a3 m3 c3, .slice b3 n3 d3] 25)
  replace HB : Hid _ := bl_trans HB.out hu
  replace K10 := cell_below hu K10
  replace K11 := cell_below hu K11
  replace K20 := cell_below hu K20
  replace K21 := cell_below hu K21
  clear hu
  have K30 : (((w.alloc (.cells #[.slice a1 m1 c1, .slice b1 n1 d1] 25)).alloc (.cells #[.slice a2 m2 c2, .slice b2 n2 d2] 25)).alloc (.cells #[.slice a3 m3 c3, .slice b3 n3 d3] 25)).cell? ⟨w.heap.size + 1 + 1, 0, none⟩ = some (.slice a3 m3 c3) := by first | rw [World.cell?_alloc_at _ _ _ _ (by simp)]; rfl | simp
  have K31 : (((w.alloc (.cells #[.slice a1 m1 c1, .slice b1 n1 d1] 25)).alloc (.cells #[.slice a2 m2 c2, .slice b2 n2 d2] 25)).alloc (.cells #[.slice a3 m3 c3, .slice b3 n3 d3] 25)).cell? ⟨w.heap.size + 1 + 1, 1, none⟩ = some (.slice b3 n3 d3) := by first | rw [World.cell?_alloc_at _ _ _ _ (by simp)]; rfl | simp
  go_enter Tryz.func8, Tryz.ntmps8
  go_wp2_with fail
  refine (hS1 _ HB.out).mono ?_
  rintro e w1 ⟨rfl, hb⟩
  have hu := hb
  replace HB : Hid _ := bl_trans HB.out hu
  replace K10 := cell_below hu K10
  replace K11 := cell_below hu K11
  replace K20 := cell_below hu K20
  replace K21 := cell_below hu K21
  replace K30 := cell_below hu K30
  replace K31 := cell_below hu K31
  clear hu
  clear hb
  go_wp2_with fail
  refine (hS2 _ HB.out).mono ?_
  rintro e w2 ⟨rfl, hb⟩
  have hu := hb
  replace HB : Hid _ := bl_trans HB.out hu
  replace K10 := cell_below hu K10
  replace K11 := cell_below hu K11
  replace K20 := cell_below hu K20
  replace K21 := cell_below hu K21
  replace K30 := cell_below hu K30
  replace K31 := cell_below hu K31
  clear hu
  clear hb
  go_wp2_with fail
  refine (awake_any aF aZ _ (HE.out.below HB.out)).mono ?_
  rintro e w3 ⟨rfl, hb⟩
  have hu := hb
  replace HB : Hid _ := bl_trans HB.out hu
  replace K10 := cell_below hu K10
  replace K11 := cell_below hu K11
  replace K20 := cell_below hu K20
  replace K21 := cell_below hu K21
  replace K30 := cell_below hu K30
  replace K31 := cell_below hu K31
  clear hu
  clear hb
  go_wp2
  go_ret
  exact ⟨rfl, HB.out⟩

set_option maxHeartbeats 4000000 in
theorem linear_long3 (a1 b1 a2 b2 a3 b3 : Option Addr) (c1 d1 m1 n1 c2 d2 m2 n2 c3 d3 m3 n3 : Nat) (aF aZ : Addr) (w : World) (hE : Er w aF aZ)
    (hS1 : ∀ v, Below w.heap.size w v → Calls Tryz.prog 12 #[.agg #[.slice a1 m1 c1, .slice b1 n1 d1]] v fun e w' => e = .returned (.bool true) ∧ Below v.heap.size v w')
    (hS2 : ∀ v, Below w.heap.size w v → Calls Tryz.prog 12 #[.agg #[.slice a2 m2 c2, .slice b2 n2 d2]] v fun e w' => e = .returned (.bool true) ∧ Below v.heap.size v w')
    (hS3 : ∀ v, Below w.heap.size w v → Calls Tryz.prog 12 #[.agg #[.slice a3 m3 c3, .slice b3 n3 d3]] v fun e w' => e = .returned (.bool false) ∧ Below v.heap.size v w') :
    Calls Tryz.prog 8 #[.agg #[.slice a1 m1 c1, .slice b1 n1 d1], .agg #[.slice a2 m2 c2, .slice b2 n2 d2], .agg #[.slice a3 m3 c3, .slice b3 n3 d3]] w fun e w' => e = .returned (.bool true) ∧ Below w.heap.size w w' := by
  have HE : Hid _ := hE
  clear hE
  have HB : Hid (Below w.heap.size w w) := Below.refl _ _
  have hu := bl_alloc (Below.refl w.heap.size w) (.cells #[.slice a1 m1 c1, .slice b1 n1 d1] 25)
  replace HB : Hid _ := bl_trans HB.out hu
  clear hu
  have K10 : (w.alloc (.cells #[.slice a1 m1 c1, .slice b1 n1 d1] 25)).cell? ⟨w.heap.size, 0, none⟩ = some (.slice a1 m1 c1) := by first | rw [World.cell?_alloc_at _ _ _ _ (by simp)]; rfl | simp
  have K11 : (w.alloc (.cells #[.slice a1 m1 c1, .slice b1 n1 d1] 25)).cell? ⟨w.heap.size, 1, none⟩ = some (.slice b1 n1 d1) := by first | rw [World.cell?_alloc_at _ _ _ _ (by simp)]; rfl | simp
  have hu := bl_alloc (Below.refl (w.alloc (.cells #[.slice a1 m1 c1, .slice b1 n1 d1] 25)).heap.size (w.alloc (.cells #[.slice a1 m1 c1, .slice b1 n1 d1] 25))) (.cells #[.slice a2 m2 c2, .slice b2 n2 d2] 25)
  replace HB : Hid _ := bl_trans HB.out hu
  replace K10 := cell_below hu K10
  replace K11 := cell_below hu K11
  clear hu
  have K20 : ((w.alloc (.cells #[.slice a1 m1 c1, .slice b1 n1 d1] 25)).alloc (.cells #[.slice a2 m2 c2, .slice b2 n2 d2] 25)).cell? ⟨w.heap.size + 1, 0, none⟩ = some (.slice a2 m2 c2) := by first | rw [World.cell?_alloc_at _ _ _ _ (by simp)]; rfl | simp
  have K21 : ((w.alloc (.cells #[.slice a1 m1 c1, .slice b1 n1 d1] 25)).alloc (.cells #[.slice a2 m2 c2, .slice b2 n2 d2] 25)).cell? ⟨w.heap.size + 1, 1, none⟩ = some (.slice b2 n2 d2) := by first | rw [World.cell?_alloc_at _ _ _ _ (by simp)]; rfl | simp
  have hu := bl_alloc (Below.refl ((w.alloc (.cells #[.slice a1 m1 c1, .slice b1 n1 d1] 25)).alloc (.cells #[.slice a2 m2 c2, .slice b2 n2 d2] 25)).heap.size ((w.alloc (.cells #[.slice a1 m1 c1, .slice b1 n1 d1] 25)).alloc (.cells #[.slice a2 m2 c2, .slice b2 n2 d2] 25))) (.cells #[.slice a3 m3 c3, .slice b3 n3 d3] 25)
  replace HB : Hid _ := bl_trans HB.out hu
  replace K10 := cell_below hu K10
  replace K11 := cell_below hu K11
  replace K20 := cell_below hu K20
  replace K21 := cell_below hu K21
  clear hu
  have K30 : (((w.alloc (.cells #[.slice a1 m1 c1, .slice b1 n1 d1] 25)).alloc (.cells #[.slice a2 m2 c2, .slice b2 n2 d2] 25)).alloc (.cells #[.slice a3 m3 c3, .slice b3 n3 d3] 25)).cell? ⟨w.heap.size + 1 + 1, 0, none⟩ = some (.slice a3 m3 c3) := by first | rw [World.cell?_alloc_at _ _ _ _ (by simp)]; rfl | simp
  have K31 : (((w.alloc (.cells #[.slice a1 m1 c1, .slice b1 n1 d1] 25)).alloc (.cells #[.slice a2 m2 c2, .slice b2 n2 d2] 25)).alloc (.cells #[.slice a3 m3 c3, .slice b3 n3 d3] 25)).cell? ⟨w.heap.size + 1 + 1, 1, none⟩ = some (.slice b3 n3 d3) := by first | rw [World.cell?_alloc_at _ _ _ _ (by simp)]; rfl | simp
  go_enter Tryz.func8, Tryz.ntmps8
  go_wp2_with fail
  refine (hS1 _ HB.out).mono ?_
  rintro e w1 ⟨rfl, hb⟩
  have hu := hb
  replace HB : Hid _ := bl_trans HB.out hu
  replace K10 := cell_below hu K10
  replace K11 := cell_below hu K11
  replace K20 := cell_below hu K20
  replace K21 := cell_below hu K21
  replace K30 := cell_below hu K30
  replace K31 := cell_below hu K31
  clear hu
  clear hb
  go_wp2_with fail
  refine (hS2 _ HB.out).mono ?_
  rintro e w2 ⟨rfl, hb⟩
  have hu := hb
  replace HB : Hid _ := bl_trans HB.out hu
  replace K10 := cell_below hu K10
  replace K11 := cell_below hu K11
  replace K20 := cell_below hu K20
  replace K21 := cell_below hu K21
  replace K30 := cell_below hu K30
  replace K31 := cell_below hu K31
  clear hu
  clear hb
  go_wp2_with fail
  refine (hS3 _ HB.out).mono ?_
  rintro e w3 ⟨rfl, hb⟩
  have hu := hb
  replace HB : Hid _ := bl_trans HB.out hu
  replace K10 := cell_below hu K10
  replace K11 := cell_below hu K11
  replace K20 := cell_below hu K20
  replace K21 := cell_below hu K21
  replace K30 := cell_below hu K30
  replace K31 := cell_below hu K31
  clear hu
  clear hb
  go_wp2_with fail
  refine (awake_any aF aZ _ (HE.out.below HB.out)).mono ?_
  rintro e w4 ⟨rfl, hb⟩
  have hu := hb
  replace HB : Hid _ := bl_trans HB.out hu
  replace K10 := cell_below hu K10
  replace K11 := cell_below hu K11
  replace K20 := cell_below hu K20
  replace K21 := cell_below hu K21
  replace K30 := cell_below hu K30
  replace K31 := cell_below hu K31
  clear hu
  clear hb
  go_wp2
  go_ret
  exact ⟨rfl, HB.out⟩

set_option maxHeartbeats 4000000 in
theorem linear_no1 (a1 b1 a2 b2 a3 b3 : Option Addr) (c1 d1 m1 n1 c2 d2 m2 n2 c3 d3 m3 n3 : Nat) (er er2 : Int) (aF aZ : Addr) (w : World) (hE : Er w aF aZ)
    (hS1 : ∀ v, Below w.heap.size w v → Calls Tryz.prog 12 #[.agg #[.slice a1 m1 c1, .slice b1 n1 d1]] v fun e w' => e = .returned (.bool true) ∧ Below v.heap.size v w')
    (hS2 : ∀ v, Below w.heap.size w v → Calls Tryz.prog 12 #[.agg #[.slice a2 m2 c2, .slice b2 n2 d2]] v fun e w' => e = .returned (.bool true) ∧ Below v.heap.size v w')
    (hS3 : ∀ v, Below w.heap.size w v → Calls Tryz.prog 12 #[.agg #[.slice a3 m3 c3, .slice b3 n3 d3]] v fun e w' => e = .returned (.bool true) ∧ Below v.heap.size v w')
    (hZ : ∀ v, Below w.heap.size w v → Calls Tryz.prog 14 #[.agg #[.slice a1 m1 c1, .slice b1 n1 d1], .agg #[.slice a2 m2 c2, .slice b2 n2 d2]] v fun e w' => e = .returned (noTensor er) ∧ Below v.heap.size v w') (hne : (er != 0) = true)
    (hW : ∀ v, Below w.heap.size w v → Calls Tryz.prog 27 #[.string sAdd, .agg #[.slice a2 m2 c2, .slice b2 n2 d2], .agg #[.slice a2 m2 c2, .slice b2 n2 d2]] v fun e w' => e = .returned (noTensor er2) ∧ Below v.heap.size v w') :
    Calls Tryz.prog 8 #[.agg #[.slice a1 m1 c1, .slice b1 n1 d1], .agg #[.slice a2 m2 c2, .slice b2 n2 d2], .agg #[.slice a3 m3 c3, .slice b3 n3 d3]] w fun e w' => e = .returned (.bool true) ∧ Below w.heap.size w w' := by
  have HE : Hid _ := hE
  clear hE
  have HB : Hid (Below w.heap.size w w) := Below.refl _ _
  have hu := bl_alloc (Below.refl w.heap.size w) (.cells #[.slice a1 m1 c1, .slice b1 n1 d1] 25)
  replace HB : Hid _ := bl_trans HB.out hu
  clear hu
  have K10 : (w.alloc (.cells #[.slice a1 m1 c1, .slice b1 n1 d1] 25)).cell? ⟨w.heap.size, 0, none⟩ = some (.slice a1 m1 c1) := by first | rw [World.cell?_alloc_at _ _ _ _ (by simp)]; rfl | simp
  have K11 : (w.alloc (.cells #[.slice a1 m1 c1, .slice b1 n1 d1] 25)).cell? ⟨w.heap.size, 1, none⟩ = some (.slice b1 n1 d1) := by first | rw [World.cell?_alloc_at _ _ _ _ (by simp)]; rfl | simp
  have hu := bl_alloc (Below.refl (w.alloc (.cells #[.slice a1 m1 c1, .slice b1 n1 d1] 25)).heap.size (w.alloc (.cells #[.slice a1 m1 c1, .slice b1 n1 d1] 25))) (.cells #[.slice a2 m2 c2, .slice b2 n2 d2] 25)
  replace HB : Hid _ := bl_trans HB.out hu
  replace K10 := cell_below hu K10
  replace K11 := cell_below hu K11
  clear hu
  have K20 : ((w.alloc (.cells #[.slice a1 m1 c1, .slice b1 n1 d1] 25)).alloc (.cells #[.slice a2 m2 c2, .slice b2 n2 d2] 25)).cell? ⟨w.heap.size + 1, 0, none⟩ = some (.slice a2 m2 c2) := by first | rw [World.cell?_alloc_at _ _ _ _ (by simp)]; rfl | simp
  have K21 : ((w.alloc (.cells #[.slice a1 m1 c1, .slice b1 n1 d1] 25)).alloc (.cells #[.slice a2 m2 c2, .slice b2 n2 d2] 25)).cell? ⟨w.heap.size + 1, 1, none⟩ = some (.slice b2 n2 d2) := by first | rw [World.cell?_alloc_at _ _ _ _ (by simp)]; rfl | simp
  have hu := bl_alloc (Below.refl ((w.alloc (.cells #[.slice a1 m1 c1, .slice b1 n1 d1] 25)).alloc (.cells #[.slice a2 m2 c2, .slice b2 n2 d2] 25)).heap.size ((w.alloc (.cells #[.slice a1 m1 c1, .slice b1 n1 d1] 25)).alloc (.cells #[.slice a2 m2 c2, .slice b2 n2 d2] 25))) (.cells #[.slice a3 m3 c3, .slice b3 n3 d3] 25)
  replace HB : Hid _ := bl_trans HB.out hu
  replace K10 := cell_below hu K10
  replace K11 := cell_below hu K11
  replace K20 := cell_below hu K20
  replace K21 := cell_below hu K21
  clear hu
  have K30 : (((w.alloc (.cells #[.slice a1 m1 c1, .slice b1 n1 d1] 25)).alloc (.cells #[.slice a2 m2 c2, .slice b2 n2 d2] 25)).alloc (.cells #[.slice a3 m3 c3, .slice b3 n3 d3] 25)).cell? ⟨w.heap.size + 1 + 1, 0, none⟩ = some (.slice a3 m3 c3) := by first | rw [World.cell?_alloc_at _ _ _ _ (by simp)]; rfl | simp
  have K31 : (((w.alloc (.cells #[.slice a1 m1 c1, .slice b1 n1 d1] 25)).alloc (.cells #[.slice a2 m2 c2, .slice b2 n2 d2] 25)).alloc (.cells #[.slice a3 m3 c3, .slice b3 n3 d3] 25)).cell? ⟨w.heap.size + 1 + 1, 1, none⟩ = some (.slice b3 n3 d3) := by first | rw [World.cell?_alloc_at _ _ _ _ (by simp)]; rfl | simp
  go_enter Tryz.func8, Tryz.ntmps8
  go_wp2_with fail
  refine (hS1 _ HB.out).mono ?_
  rintro e w1 ⟨rfl, hb⟩
  have hu := hb
  replace HB : Hid _ := bl_trans HB.out hu
  replace K10 := cell_below hu K10
  replace K11 := cell_below hu K11
  replace K20 := cell_below hu K20
  replace K21 := cell_below hu K21
  replace K30 := cell_below hu K30
  replace K31 := cell_below hu K31
  clear hu
  clear hb
  go_wp2_with fail
  refine (hS2 _ HB.out).mono ?_
  rintro e w2 ⟨rfl, hb⟩
  have hu := hb
  replace HB : Hid _ := bl_trans HB.out hu
  replace K10 := cell_below hu K10
  replace K11 := cell_below hu K11
  replace K20 := cell_below hu K20
  replace K21 := cell_below hu K21
  replace K30 := cell_below hu K30
  replace K31 := cell_below hu K31
  clear hu
  clear hb
  go_wp2_with fail
  refine (hS3 _ HB.out).mono ?_
  rintro e w3 ⟨rfl, hb⟩
  have hu := hb
  replace HB : Hid _ := bl_trans HB.out hu
  replace K10 := cell_below hu K10
  replace K11 := cell_below hu K11
  replace K20 := cell_below hu K20
  replace K21 := cell_below hu K21
  replace K30 := cell_below hu K30
  replace K31 := cell_below hu K31
  clear hu
  clear hb
  go_wp2_with fail
  refine (hZ _ HB.out).mono ?_
  rintro e w4 ⟨rfl, hb⟩
  have hu := bl_alloc hb (.cells #[.slice none 0 0, .slice none 0 0] 25)
  replace HB : Hid _ := bl_trans HB.out hu
  replace K10 := cell_below hu K10
  replace K11 := cell_below hu K11
  replace K20 := cell_below hu K20
  replace K21 := cell_below hu K21
  replace K30 := cell_below hu K30
  replace K31 := cell_below hu K31
  clear hu
  have Kp0 : (w4.alloc (.cells #[.slice none 0 0, .slice none 0 0] 25)).cell? ⟨w4.heap.size, 0, none⟩ = some (.slice none 0 0) := by simp
  have Kp1 : (w4.alloc (.cells #[.slice none 0 0, .slice none 0 0] 25)).cell? ⟨w4.heap.size, 1, none⟩ = some (.slice none 0 0) := by simp
  clear hb
  go_wp2_with fail
  refine (hW _ HB.out).mono ?_
  rintro e w5 ⟨rfl, hb⟩
  have hu := bl_alloc hb (.cells #[.slice none 0 0, .slice none 0 0] 25)
  replace HB : Hid _ := bl_trans HB.out hu
  replace K10 := cell_below hu K10
  replace K11 := cell_below hu K11
  replace K20 := cell_below hu K20
  replace K21 := cell_below hu K21
  replace K30 := cell_below hu K30
  replace K31 := cell_below hu K31
  replace Kp0 := cell_below hu Kp0
  replace Kp1 := cell_below hu Kp1
  clear hu
  have Ks0 : (w5.alloc (.cells #[.slice none 0 0, .slice none 0 0] 25)).cell? ⟨w5.heap.size, 0, none⟩ = some (.slice none 0 0) := by simp
  have Ks1 : (w5.alloc (.cells #[.slice none 0 0, .slice none 0 0] 25)).cell? ⟨w5.heap.size, 1, none⟩ = some (.slice none 0 0) := by simp
  clear hb
  go_wp2_with fail
  refine (awake_any aF aZ _ (HE.out.below HB.out)).mono ?_
  rintro e w6 ⟨rfl, hb⟩
  have hu := hb
  replace HB : Hid _ := bl_trans HB.out hu
  replace K10 := cell_below hu K10
  replace K11 := cell_below hu K11
  replace K20 := cell_below hu K20
  replace K21 := cell_below hu K21
  replace K30 := cell_below hu K30
  replace K31 := cell_below hu K31
  replace Kp0 := cell_below hu Kp0
  replace Kp1 := cell_below hu Kp1
  replace Ks0 := cell_below hu Ks0
  replace Ks1 := cell_below hu Ks1
  clear hu
  clear hb
  go_wp2
  go_ret
  exact ⟨rfl, HB.out⟩

set_option maxHeartbeats 4000000 in
theorem linear_no2 (a1 b1 a2 b2 a3 b3 : Option Addr) (c1 d1 m1 n1 c2 d2 m2 n2 c3 d3 m3 n3 : Nat) (er : Int) (us : List Int) (rs : List Rat) (aF aZ : Addr) (w : World) (hE : Er w aF aZ)
    (hS1 : ∀ v, Below w.heap.size w v → Calls Tryz.prog 12 #[.agg #[.slice a1 m1 c1, .slice b1 n1 d1]] v fun e w' => e = .returned (.bool true) ∧ Below v.heap.size v w')
    (hS2 : ∀ v, Below w.heap.size w v → Calls Tryz.prog 12 #[.agg #[.slice a2 m2 c2, .slice b2 n2 d2]] v fun e w' => e = .returned (.bool true) ∧ Below v.heap.size v w')
    (hS3 : ∀ v, Below w.heap.size w v → Calls Tryz.prog 12 #[.agg #[.slice a3 m3 c3, .slice b3 n3 d3]] v fun e w' => e = .returned (.bool true) ∧ Below v.heap.size v w')
    (hZ : ∀ v, Below w.heap.size w v → Calls Tryz.prog 14 #[.agg #[.slice a1 m1 c1, .slice b1 n1 d1], .agg #[.slice a2 m2 c2, .slice b2 n2 d2]] v fun e w' => e = .returned (noTensor er) ∧ Below v.heap.size v w') (hne : (er != 0) = true) (hT : Tt w 0 a2 b2 us m2 n2 rs 40) :
    Calls Tryz.prog 8 #[.agg #[.slice a1 m1 c1, .slice b1 n1 d1], .agg #[.slice a2 m2 c2, .slice b2 n2 d2], .agg #[.slice a3 m3 c3, .slice b3 n3 d3]] w fun e w' => e = .returned (.bool true) ∧ Below w.heap.size w w' := by
  have HE : Hid _ := hE
  clear hE
  have HB : Hid (Below w.heap.size w w) := Below.refl _ _
  have HTb : Hid _ := hT
  clear hT
  have hu := bl_alloc (Below.refl w.heap.size w) (.cells #[.slice a1 m1 c1, .slice b1 n1 d1] 25)
  replace HB : Hid _ := bl_trans HB.out hu
  replace HTb : Hid _ := HTb.out.below hu
  clear hu
  have K10 : (w.alloc (.cells #[.slice a1 m1 c1, .slice b1 n1 d1] 25)).cell? ⟨w.heap.size, 0, none⟩ = some (.slice a1 m1 c1) := by first | rw [World.cell?_alloc_at _ _ _ _ (by simp)]; rfl | simp
  have K11 : (w.alloc (.cells #[.slice a1 m1 c1, .slice b1 n1 d1] 25)).cell? ⟨w.heap.size, 1, none⟩ = some (.slice b1 n1 d1) := by first | rw [World.cell?_alloc_at _ _ _ _ (by simp)]; rfl | simp
  have hu := bl_alloc (Below.refl (w.alloc (.cells #[.slice a1 m1 c1, .slice b1 n1 d1] 25)).heap.size (w.alloc (.cells #[.slice a1 m1 c1, .slice b1 n1 d1] 25))) (.cells #[.slice a2 m2 c2, .slice b2 n2 d2] 25)
  replace HB : Hid _ := bl_trans HB.out hu
  replace HTb : Hid _ := HTb.out.below hu
  replace K10 := cell_below hu K10
  replace K11 := cell_below hu K11
  clear hu
  have K20 : ((w.alloc (.cells #[.slice a1 m1 c1, .slice b1 n1 d1] 25)).alloc (.cells #[.slice a2 m2 c2, .slice b2 n2 d2] 25)).cell? ⟨w.heap.size + 1, 0, none⟩ = some (.slice a2 m2 c2) := by first | rw [World.cell?_alloc_at _ _ _ _ (by simp)]; rfl | simp
  have K21 : ((w.alloc (.cells #[.slice a1 m1 c1, .slice b1 n1 d1] 25)).alloc (.cells #[.slice a2 m2 c2, .slice b2 n2 d2] 25)).cell? ⟨w.heap.size + 1, 1, none⟩ = some (.slice b2 n2 d2) := by first | rw [World.cell?_alloc_at _ _ _ _ (by simp)]; rfl | simp
  have hu := bl_alloc (Below.refl ((w.alloc (.cells #[.slice a1 m1 c1, .slice b1 n1 d1] 25)).alloc (.cells #[.slice a2 m2 c2, .slice b2 n2 d2] 25)).heap.size ((w.alloc (.cells #[.slice a1 m1 c1, .slice b1 n1 d1] 25)).alloc (.cells #[.slice a2 m2 c2, .slice b2 n2 d2] 25))) (.cells #[.slice a3 m3 c3, .slice b3 n3 d3] 25)
  replace HB : Hid _ := bl_trans HB.out hu
  replace HTb : Hid _ := HTb.out.below hu
  replace K10 := cell_below hu K10
  replace K11 := cell_below hu K11
  replace K20 := cell_below hu K20
  replace K21 := cell_below hu K21
  clear hu
  have K30 : (((w.alloc (.cells #[.slice a1 m1 c1, .slice b1 n1 d1] 25)).alloc (.cells #[.slice a2 m2 c2, .slice b2 n2 d2] 25)).alloc (.cells #[.slice a3 m3 c3, .slice b3 n3 d3] 25)).cell? ⟨w.heap.size + 1 + 1, 0, none⟩ = some (.slice a3 m3 c3) := by first | rw [World.cell?_alloc_at _ _ _ _ (by simp)]; rfl | simp
  have K31 : (((w.alloc (.cells #[.slice a1 m1 c1, .slice b1 n1 d1] 25)).alloc (.cells #[.slice a2 m2 c2, .slice b2 n2 d2] 25)).alloc (.cells #[.slice a3 m3 c3, .slice b3 n3 d3] 25)).cell? ⟨w.heap.size + 1 + 1, 1, none⟩ = some (.slice b3 n3 d3) := by first | rw [World.cell?_alloc_at _ _ _ _ (by simp)]; rfl | simp
  go_enter Tryz.func8, Tryz.ntmps8
  go_wp2_with fail
  refine (hS1 _ HB.out).mono ?_
  rintro e w1 ⟨rfl, hb⟩
  have hu := hb
  replace HB : Hid _ := bl_trans HB.out hu
  replace HTb : Hid _ := HTb.out.below hu
  replace K10 := cell_below hu K10
  replace K11 := cell_below hu K11
  replace K20 := cell_below hu K20
  replace K21 := cell_below hu K21
  replace K30 := cell_below hu K30
  replace K31 := cell_below hu K31
  clear hu
  clear hb
  go_wp2_with fail
  refine (hS2 _ HB.out).mono ?_
  rintro e w2 ⟨rfl, hb⟩
  have hu := hb
  replace HB : Hid _ := bl_trans HB.out hu
  replace HTb : Hid _ := HTb.out.below hu
  replace K10 := cell_below hu K10
  replace K11 := cell_below hu K11
  replace K20 := cell_below hu K20
  replace K21 := cell_below hu K21
  replace K30 := cell_below hu K30
  replace K31 := cell_below hu K31
  clear hu
  clear hb
  go_wp2_with fail
  refine (hS3 _ HB.out).mono ?_
  rintro e w3 ⟨rfl, hb⟩
  have hu := hb
  replace HB : Hid _ := bl_trans HB.out hu
  replace HTb : Hid _ := HTb.out.below hu
  replace K10 := cell_below hu K10
  replace K11 := cell_below hu K11
  replace K20 := cell_below hu K20
  replace K21 := cell_below hu K21
  replace K30 := cell_below hu K30
  replace K31 := cell_below hu K31
  clear hu
  clear hb
  go_wp2_with fail
  refine (hZ _ HB.out).mono ?_
  rintro e w4 ⟨rfl, hb⟩
  have hu := bl_alloc hb (.cells #[.slice none 0 0, .slice none 0 0] 25)
  replace HB : Hid _ := bl_trans HB.out hu
  replace HTb : Hid _ := HTb.out.below hu
  replace K10 := cell_below hu K10
  replace K11 := cell_below hu K11
  replace K20 := cell_below hu K20
  replace K21 := cell_below hu K21
  replace K30 := cell_below hu K30
  replace K31 := cell_below hu K31
  clear hu
  have Kp0 : (w4.alloc (.cells #[.slice none 0 0, .slice none 0 0] 25)).cell? ⟨w4.heap.size, 0, none⟩ = some (.slice none 0 0) := by simp
  have Kp1 : (w4.alloc (.cells #[.slice none 0 0, .slice none 0 0] 25)).cell? ⟨w4.heap.size, 1, none⟩ = some (.slice none 0 0) := by simp
  clear hb
  go_wp2_with fail
  refine (zadd c2 d2 c2 d2 (HE.out.below HB.out) HTb.out HTb.out (by omega)).mono ?_
  rintro e w5 ⟨a5', c5', b5', d5', rfl, hT, hb⟩
  have hu := bl_alloc hb (.cells #[.slice a5' m2 c5', .slice b5' n2 d5'] 25)
  replace HB : Hid _ := bl_trans HB.out hu
  replace HTb : Hid _ := HTb.out.below hu
  replace K10 := cell_below hu K10
  replace K11 := cell_below hu K11
  replace K20 := cell_below hu K20
  replace K21 := cell_below hu K21
  replace K30 := cell_below hu K30
  replace K31 := cell_below hu K31
  replace Kp0 := cell_below hu Kp0
  replace Kp1 := cell_below hu Kp1
  clear hu
  have HTs : Hid _ := hT.below (bl_alloc (Below.refl w5.heap.size w5) (.cells #[.slice a5' m2 c5', .slice b5' n2 d5'] 25))
  have Ks0 : (w5.alloc (.cells #[.slice a5' m2 c5', .slice b5' n2 d5'] 25)).cell? ⟨w5.heap.size, 0, none⟩ = some (.slice a5' m2 c5') := by simp
  have Ks1 : (w5.alloc (.cells #[.slice a5' m2 c5', .slice b5' n2 d5'] 25)).cell? ⟨w5.heap.size, 1, none⟩ = some (.slice b5' n2 d5') := by simp
  clear hb hT
  go_wp2_with fail
  refine (awake_any aF aZ _ (HE.out.below HB.out)).mono ?_
  rintro e w6 ⟨rfl, hb⟩
  have hu := hb
  replace HB : Hid _ := bl_trans HB.out hu
  replace HTb : Hid _ := HTb.out.below hu
  replace HTs : Hid _ := HTs.out.below hu
  replace K10 := cell_below hu K10
  replace K11 := cell_below hu K11
  replace K20 := cell_below hu K20
  replace K21 := cell_below hu K21
  replace K30 := cell_below hu K30
  replace K31 := cell_below hu K31
  replace Kp0 := cell_below hu Kp0
  replace Kp1 := cell_below hu Kp1
  replace Ks0 := cell_below hu Ks0
  replace Ks1 := cell_below hu Ks1
  clear hu
  clear hb
  go_wp2
  go_ret
  exact ⟨rfl, HB.out⟩

set_option maxHeartbeats 4000000 in
theorem linear_nnn (a1 b1 a2 b2 a3 b3 : Option Addr) (c1 d1 n1 c2 d2 n2 c3 d3 m3 n3 : Nat) (p n q N : Nat) (qs rs : List Rat) (er : Int) (er2 er3 : Int) (aF aZ : Addr) (w : World) (hE : Er w aF aZ)
    (hS1 : ∀ v, Below w.heap.size w v → Calls Tryz.prog 12 #[.agg #[.slice a1 2 c1, .slice b1 n1 d1]] v fun e w' => e = .returned (.bool true) ∧ Below v.heap.size v w')
    (hS2 : ∀ v, Below w.heap.size w v → Calls Tryz.prog 12 #[.agg #[.slice a2 2 c2, .slice b2 n2 d2]] v fun e w' => e = .returned (.bool true) ∧ Below v.heap.size v w')
    (hS3 : ∀ v, Below w.heap.size w v → Calls Tryz.prog 12 #[.agg #[.slice a3 m3 c3, .slice b3 n3 d3]] v fun e w' => e = .returned (.bool true) ∧ Below v.heap.size v w')
    (hT1 : Tt w 0 a1 b1 [(p : Int), (n : Int)] 2 n1 qs 40) (hT2 : Tt w 0 a2 b2 [(n : Int), (q : Int)] 2 n2 rs 40) (hpq : p * q ≤ 64) (hN : p * q = N) (hn : n ≤ 64) (hq : q ≤ 64)
    (hX : ∀ v B a4 b4 c4 d4, Below w.heap.size w v → Tt v B a4 b4 [(p : Int), (q : Int)] 2 N (mm p n q qs rs) (n * (40 + 40 + 1) + 1) → Calls Tryz.prog 14 #[.agg #[.slice a4 2 c4, .slice b4 N d4], .agg #[.slice a3 m3 c3, .slice b3 n3 d3]] v fun e w' => e = .returned (noTensor er) ∧ Below v.heap.size v w') (hne : (er != 0) = true)
    (hY : ∀ v, Below w.heap.size w v → Calls Tryz.prog 14 #[.agg #[.slice a2 2 c2, .slice b2 n2 d2], .agg #[.slice a3 m3 c3, .slice b3 n3 d3]] v fun e w' => e = .returned (noTensor er2) ∧ Below v.heap.size v w') (hne2 : (er2 != 0) = true)
    (hZ0 : ∀ v, Below w.heap.size w v → Calls Tryz.prog 14 #[.agg #[.slice a1 2 c1, .slice b1 n1 d1], .agg #[.slice none 0 0, .slice none 0 0]] v fun e w' => e = .returned (noTensor er3) ∧ Below v.heap.size v w') (hne3 : (er3 != 0) = true) :
    Calls Tryz.prog 8 #[.agg #[.slice a1 2 c1, .slice b1 n1 d1], .agg #[.slice a2 2 c2, .slice b2 n2 d2], .agg #[.slice a3 m3 c3, .slice b3 n3 d3]] w fun e w' => e = .returned (.bool true) ∧ Below w.heap.size w w' := by
  have HE : Hid _ := hE
  clear hE
  have HB : Hid (Below w.heap.size w w) := Below.refl _ _
  have HL : Hid (rs.length = n * q) := hT2.two.1
  have HTa : Hid _ := hT1
  clear hT1
  have HTb : Hid _ := hT2
  clear hT2
  have hu := bl_alloc (Below.refl w.heap.size w) (.cells #[.slice a1 2 c1, .slice b1 n1 d1] 25)
  replace HB : Hid _ := bl_trans HB.out hu
  replace HTa : Hid _ := HTa.out.below hu
  replace HTb : Hid _ := HTb.out.below hu
  clear hu
  have K10 : (w.alloc (.cells #[.slice a1 2 c1, .slice b1 n1 d1] 25)).cell? ⟨w.heap.size, 0, none⟩ = some (.slice a1 2 c1) := by first | rw [World.cell?_alloc_at _ _ _ _ (by simp)]; rfl | simp
  have K11 : (w.alloc (.cells #[.slice a1 2 c1, .slice b1 n1 d1] 25)).cell? ⟨w.heap.size, 1, none⟩ = some (.slice b1 n1 d1) := by first | rw [World.cell?_alloc_at _ _ _ _ (by simp)]; rfl | simp
  have hu := bl_alloc (Below.refl (w.alloc (.cells #[.slice a1 2 c1, .slice b1 n1 d1] 25)).heap.size (w.alloc (.cells #[.slice a1 2 c1, .slice b1 n1 d1] 25))) (.cells #[.slice a2 2 c2, .slice b2 n2 d2] 25)
  replace HB : Hid _ := bl_trans HB.out hu
  replace HTa : Hid _ := HTa.out.below hu
  replace HTb : Hid _ := HTb.out.below hu
  replace K10 := cell_below hu K10
  replace K11 := cell_below hu K11
  clear hu
  have K20 : ((w.alloc (.cells #[.slice a1 2 c1, .slice b1 n1 d1] 25)).alloc (.cells #[.slice a2 2 c2, .slice b2 n2 d2] 25)).cell? ⟨w.heap.size + 1, 0, none⟩ = some (.slice a2 2 c2) := by first | rw [World.cell?_alloc_at _ _ _ _ (by simp)]; rfl | simp
  have K21 : ((w.alloc (.cells #[.slice a1 2 c1, .slice b1 n1 d1] 25)).alloc (.cells #[.slice a2 2 c2, .slice b2 n2 d2] 25)).cell? ⟨w.heap.size + 1, 1, none⟩ = some (.slice b2 n2 d2) := by first | rw [World.cell?_alloc_at _ _ _ _ (by simp)]; rfl | simp
  have hu := bl_alloc (Below.refl ((w.alloc (.cells #[.slice a1 2 c1, .slice b1 n1 d1] 25)).alloc (.cells #[.slice a2 2 c2, .slice b2 n2 d2] 25)).heap.size ((w.alloc (.cells #[.slice a1 2 c1, .slice b1 n1 d1] 25)).alloc (.cells #[.slice a2 2 c2, .slice b2 n2 d2] 25))) (.cells #[.slice a3 m3 c3, .slice b3 n3 d3] 25)
  replace HB : Hid _ := bl_trans HB.out hu
  replace HTa : Hid _ := HTa.out.below hu
  replace HTb : Hid _ := HTb.out.below hu
  replace K10 := cell_below hu K10
  replace K11 := cell_below hu K11
  replace K20 := cell_below hu K20
  replace K21 := cell_below hu K21
  clear hu
  have K30 : (((w.alloc (.cells #[.slice a1 2 c1, .slice b1 n1 d1] 25)).alloc (.cells #[.slice a2 2 c2, .slice b2 n2 d2] 25)).alloc (.cells #[.slice a3 m3 c3, .slice b3 n3 d3] 25)).cell? ⟨w.heap.size + 1 + 1, 0, none⟩ = some (.slice a3 m3 c3) := by first | rw [World.cell?_alloc_at _ _ _ _ (by simp)]; rfl | simp
  have K31 : (((w.alloc (.cells #[.slice a1 2 c1, .slice b1 n1 d1] 25)).alloc (.cells #[.slice a2 2 c2, .slice b2 n2 d2] 25)).alloc (.cells #[.slice a3 m3 c3, .slice b3 n3 d3] 25)).cell? ⟨w.heap.size + 1 + 1, 1, none⟩ = some (.slice b3 n3 d3) := by first | rw [World.cell?_alloc_at _ _ _ _ (by simp)]; rfl | simp
  go_enter Tryz.func8, Tryz.ntmps8
  go_wp2_with fail
  refine (hS1 _ HB.out).mono ?_
  rintro e w1 ⟨rfl, hb⟩
  have hu := hb
  replace HB : Hid _ := bl_trans HB.out hu
  replace HTa : Hid _ := HTa.out.below hu
  replace HTb : Hid _ := HTb.out.below hu
  replace K10 := cell_below hu K10
  replace K11 := cell_below hu K11
  replace K20 := cell_below hu K20
  replace K21 := cell_below hu K21
  replace K30 := cell_below hu K30
  replace K31 := cell_below hu K31
  clear hu
  clear hb
  go_wp2_with fail
  refine (hS2 _ HB.out).mono ?_
  rintro e w2 ⟨rfl, hb⟩
  have hu := hb
  replace HB : Hid _ := bl_trans HB.out hu
  replace HTa : Hid _ := HTa.out.below hu
  replace HTb : Hid _ := HTb.out.below hu
  replace K10 := cell_below hu K10
  replace K11 := cell_below hu K11
  replace K20 := cell_below hu K20
  replace K21 := cell_below hu K21
  replace K30 := cell_below hu K30
  replace K31 := cell_below hu K31
  clear hu
  clear hb
  go_wp2_with fail
  refine (hS3 _ HB.out).mono ?_
  rintro e w3 ⟨rfl, hb⟩
  have hu := hb
  replace HB : Hid _ := bl_trans HB.out hu
  replace HTa : Hid _ := HTa.out.below hu
  replace HTb : Hid _ := HTb.out.below hu
  replace K10 := cell_below hu K10
  replace K11 := cell_below hu K11
  replace K20 := cell_below hu K20
  replace K21 := cell_below hu K21
  replace K30 := cell_below hu K30
  replace K31 := cell_below hu K31
  clear hu
  clear hb
  go_wp2_with fail
  refine (zmm c1 d1 c2 d2 (HE.out.below HB.out) HTa.out HTb.out hpq hN (by omega)).mono ?_
  rintro e w4 ⟨a4', c4', b4', d4', rfl, hT, hb⟩
  have hu := bl_alloc hb (.cells #[.slice a4' 2 c4', .slice b4' N d4'] 25)
  replace HB : Hid _ := bl_trans HB.out hu
  replace HTa : Hid _ := HTa.out.below hu
  replace HTb : Hid _ := HTb.out.below hu
  replace K10 := cell_below hu K10
  replace K11 := cell_below hu K11
  replace K20 := cell_below hu K20
  replace K21 := cell_below hu K21
  replace K30 := cell_below hu K30
  replace K31 := cell_below hu K31
  clear hu
  have HTp : Hid _ := hT.below (bl_alloc (Below.refl w4.heap.size w4) (.cells #[.slice a4' 2 c4', .slice b4' N d4'] 25))
  have Kp0 : (w4.alloc (.cells #[.slice a4' 2 c4', .slice b4' N d4'] 25)).cell? ⟨w4.heap.size, 0, none⟩ = some (.slice a4' 2 c4') := by simp
  have Kp1 : (w4.alloc (.cells #[.slice a4' 2 c4', .slice b4' N d4'] 25)).cell? ⟨w4.heap.size, 1, none⟩ = some (.slice b4' N d4') := by simp
  clear hb hT
  go_wp2_with fail
  refine (zadd c2 d2 c2 d2 (HE.out.below HB.out) HTb.out HTb.out (by omega)).mono ?_
  rintro e w5 ⟨a5', c5', b5', d5', rfl, hT, hb⟩
  have hu := bl_alloc hb (.cells #[.slice a5' 2 c5', .slice b5' n2 d5'] 25)
  replace HB : Hid _ := bl_trans HB.out hu
  replace HTa : Hid _ := HTa.out.below hu
  replace HTb : Hid _ := HTb.out.below hu
  replace HTp : Hid _ := HTp.out.below hu
  replace K10 := cell_below hu K10
  replace K11 := cell_below hu K11
  replace K20 := cell_below hu K20
  replace K21 := cell_below hu K21
  replace K30 := cell_below hu K30
  replace K31 := cell_below hu K31
  replace Kp0 := cell_below hu Kp0
  replace Kp1 := cell_below hu Kp1
  clear hu
  have HTs : Hid _ := hT.below (bl_alloc (Below.refl w5.heap.size w5) (.cells #[.slice a5' 2 c5', .slice b5' n2 d5'] 25))
  have Ks0 : (w5.alloc (.cells #[.slice a5' 2 c5', .slice b5' n2 d5'] 25)).cell? ⟨w5.heap.size, 0, none⟩ = some (.slice a5' 2 c5') := by simp
  have Ks1 : (w5.alloc (.cells #[.slice a5' 2 c5', .slice b5' n2 d5'] 25)).cell? ⟨w5.heap.size, 1, none⟩ = some (.slice b5' n2 d5') := by simp
  clear hb hT
  go_wp2_with fail
  refine (zmm c1 d1 c5' d5' (HE.out.below HB.out) HTa.out HTs.out hpq hN (by omega)).mono ?_
  rintro e w6 ⟨a6', c6', b6', d6', rfl, hT, hb⟩
  have hu := bl_alloc hb (.cells #[.slice a6' 2 c6', .slice b6' N d6'] 25)
  replace HB : Hid _ := bl_trans HB.out hu
  replace HTa : Hid _ := HTa.out.below hu
  replace HTb : Hid _ := HTb.out.below hu
  replace HTp : Hid _ := HTp.out.below hu
  replace HTs : Hid _ := HTs.out.below hu
  replace K10 := cell_below hu K10
  replace K11 := cell_below hu K11
  replace K20 := cell_below hu K20
  replace K21 := cell_below hu K21
  replace K30 := cell_below hu K30
  replace K31 := cell_below hu K31
  replace Kp0 := cell_below hu Kp0
  replace Kp1 := cell_below hu Kp1
  replace Ks0 := cell_below hu Ks0
  replace Ks1 := cell_below hu Ks1
  clear hu
  have HTq : Hid _ := hT.below (bl_alloc (Below.refl w6.heap.size w6) (.cells #[.slice a6' 2 c6', .slice b6' N d6'] 25))
  have Kq0 : (w6.alloc (.cells #[.slice a6' 2 c6', .slice b6' N d6'] 25)).cell? ⟨w6.heap.size, 0, none⟩ = some (.slice a6' 2 c6') := by simp
  have Kq1 : (w6.alloc (.cells #[.slice a6' 2 c6', .slice b6' N d6'] 25)).cell? ⟨w6.heap.size, 1, none⟩ = some (.slice b6' N d6') := by simp
  clear hb hT
  go_wp2_with fail
  refine (zadd c4' d4' c4' d4' (HE.out.below HB.out) HTp.out HTp.out (by omega)).mono ?_
  rintro e w7 ⟨a7', c7', b7', d7', rfl, hT, hb⟩
  have hu := bl_alloc hb (.cells #[.slice a7' 2 c7', .slice b7' N d7'] 25)
  replace HB : Hid _ := bl_trans HB.out hu
  replace HTa : Hid _ := HTa.out.below hu
  replace HTb : Hid _ := HTb.out.below hu
  replace HTp : Hid _ := HTp.out.below hu
  replace HTs : Hid _ := HTs.out.below hu
  replace HTq : Hid _ := HTq.out.below hu
  replace K10 := cell_below hu K10
  replace K11 := cell_below hu K11
  replace K20 := cell_below hu K20
  replace K21 := cell_below hu K21
  replace K30 := cell_below hu K30
  replace K31 := cell_below hu K31
  replace Kp0 := cell_below hu Kp0
  replace Kp1 := cell_below hu Kp1
  replace Ks0 := cell_below hu Ks0
  replace Ks1 := cell_below hu Ks1
  replace Kq0 := cell_below hu Kq0
  replace Kq1 := cell_below hu Kq1
  clear hu
  have HTd : Hid _ := hT.below (bl_alloc (Below.refl w7.heap.size w7) (.cells #[.slice a7' 2 c7', .slice b7' N d7'] 25))
  have Kd0 : (w7.alloc (.cells #[.slice a7' 2 c7', .slice b7' N d7'] 25)).cell? ⟨w7.heap.size, 0, none⟩ = some (.slice a7' 2 c7') := by simp
  have Kd1 : (w7.alloc (.cells #[.slice a7' 2 c7', .slice b7' N d7'] 25)).cell? ⟨w7.heap.size, 1, none⟩ = some (.slice b7' N d7') := by simp
  clear hb hT
  go_wp2_with fail
  refine (hX _ _ _ _ c4' d4' HB.out HTp.out).mono ?_
  rintro e w8 ⟨rfl, hb⟩
  have hu := bl_alloc hb (.cells #[.slice none 0 0, .slice none 0 0] 25)
  replace HB : Hid _ := bl_trans HB.out hu
  replace HTa : Hid _ := HTa.out.below hu
  replace HTb : Hid _ := HTb.out.below hu
  replace HTp : Hid _ := HTp.out.below hu
  replace HTs : Hid _ := HTs.out.below hu
  replace HTq : Hid _ := HTq.out.below hu
  replace HTd : Hid _ := HTd.out.below hu
  replace K10 := cell_below hu K10
  replace K11 := cell_below hu K11
  replace K20 := cell_below hu K20
  replace K21 := cell_below hu K21
  replace K30 := cell_below hu K30
  replace K31 := cell_below hu K31
  replace Kp0 := cell_below hu Kp0
  replace Kp1 := cell_below hu Kp1
  replace Ks0 := cell_below hu Ks0
  replace Ks1 := cell_below hu Ks1
  replace Kq0 := cell_below hu Kq0
  replace Kq1 := cell_below hu Kq1
  replace Kd0 := cell_below hu Kd0
  replace Kd1 := cell_below hu Kd1
  clear hu
  have Kx0 : (w8.alloc (.cells #[.slice none 0 0, .slice none 0 0] 25)).cell? ⟨w8.heap.size, 0, none⟩ = some (.slice none 0 0) := by simp
  have Kx1 : (w8.alloc (.cells #[.slice none 0 0, .slice none 0 0] 25)).cell? ⟨w8.heap.size, 1, none⟩ = some (.slice none 0 0) := by simp
  clear hb
  go_wp2_with fail
  refine (hY _ HB.out).mono ?_
  rintro e w9 ⟨rfl, hb⟩
  have hu := bl_alloc hb (.cells #[.slice none 0 0, .slice none 0 0] 25)
  replace HB : Hid _ := bl_trans HB.out hu
  replace HTa : Hid _ := HTa.out.below hu
  replace HTb : Hid _ := HTb.out.below hu
  replace HTp : Hid _ := HTp.out.below hu
  replace HTs : Hid _ := HTs.out.below hu
  replace HTq : Hid _ := HTq.out.below hu
  replace HTd : Hid _ := HTd.out.below hu
  replace K10 := cell_below hu K10
  replace K11 := cell_below hu K11
  replace K20 := cell_below hu K20
  replace K21 := cell_below hu K21
  replace K30 := cell_below hu K30
  replace K31 := cell_below hu K31
  replace Kp0 := cell_below hu Kp0
  replace Kp1 := cell_below hu Kp1
  replace Ks0 := cell_below hu Ks0
  replace Ks1 := cell_below hu Ks1
  replace Kq0 := cell_below hu Kq0
  replace Kq1 := cell_below hu Kq1
  replace Kd0 := cell_below hu Kd0
  replace Kd1 := cell_below hu Kd1
  replace Kx0 := cell_below hu Kx0
  replace Kx1 := cell_below hu Kx1
  clear hu
  have Ky0 : (w9.alloc (.cells #[.slice none 0 0, .slice none 0 0] 25)).cell? ⟨w9.heap.size, 0, none⟩ = some (.slice none 0 0) := by simp
  have Ky1 : (w9.alloc (.cells #[.slice none 0 0, .slice none 0 0] 25)).cell? ⟨w9.heap.size, 1, none⟩ = some (.slice none 0 0) := by simp
  clear hb
  go_wp2_with fail
  refine (hZ0 _ HB.out).mono ?_
  rintro e w10 ⟨rfl, hb⟩
  have hu := bl_alloc hb (.cells #[.slice none 0 0, .slice none 0 0] 25)
  replace HB : Hid _ := bl_trans HB.out hu
  replace HTa : Hid _ := HTa.out.below hu
  replace HTb : Hid _ := HTb.out.below hu
  replace HTp : Hid _ := HTp.out.below hu
  replace HTs : Hid _ := HTs.out.below hu
  replace HTq : Hid _ := HTq.out.below hu
  replace HTd : Hid _ := HTd.out.below hu
  replace K10 := cell_below hu K10
  replace K11 := cell_below hu K11
  replace K20 := cell_below hu K20
  replace K21 := cell_below hu K21
  replace K30 := cell_below hu K30
  replace K31 := cell_below hu K31
  replace Kp0 := cell_below hu Kp0
  replace Kp1 := cell_below hu Kp1
  replace Ks0 := cell_below hu Ks0
  replace Ks1 := cell_below hu Ks1
  replace Kq0 := cell_below hu Kq0
  replace Kq1 := cell_below hu Kq1
  replace Kd0 := cell_below hu Kd0
  replace Kd1 := cell_below hu Kd1
  replace Kx0 := cell_below hu Kx0
  replace Kx1 := cell_below hu Kx1
  replace Ky0 := cell_below hu Ky0
  replace Ky1 := cell_below hu Ky1
  clear hu
  have Kz0 : (w10.alloc (.cells #[.slice none 0 0, .slice none 0 0] 25)).cell? ⟨w10.heap.size, 0, none⟩ = some (.slice none 0 0) := by simp
  have Kz1 : (w10.alloc (.cells #[.slice none 0 0, .slice none 0 0] 25)).cell? ⟨w10.heap.size, 1, none⟩ = some (.slice none 0 0) := by simp
  clear hb
  go_wp2_with fail
  refine (zeq c6' d6' c7' d7' HTq.out HTd.out (mm_add p qs HL.out HL.out)).mono ?_
  rintro e w11 ⟨rfl, hb⟩
  have hu := hb
  replace HB : Hid _ := bl_trans HB.out hu
  replace HTa : Hid _ := HTa.out.below hu
  replace HTb : Hid _ := HTb.out.below hu
  replace HTp : Hid _ := HTp.out.below hu
  replace HTs : Hid _ := HTs.out.below hu
  replace HTq : Hid _ := HTq.out.below hu
  replace HTd : Hid _ := HTd.out.below hu
  replace K10 := cell_below hu K10
  replace K11 := cell_below hu K11
  replace K20 := cell_below hu K20
  replace K21 := cell_below hu K21
  replace K30 := cell_below hu K30
  replace K31 := cell_below hu K31
  replace Kp0 := cell_below hu Kp0
  replace Kp1 := cell_below hu Kp1
  replace Ks0 := cell_below hu Ks0
  replace Ks1 := cell_below hu Ks1
  replace Kq0 := cell_below hu Kq0
  replace Kq1 := cell_below hu Kq1
  replace Kd0 := cell_below hu Kd0
  replace Kd1 := cell_below hu Kd1
  replace Kx0 := cell_below hu Kx0
  replace Kx1 := cell_below hu Kx1
  replace Ky0 := cell_below hu Ky0
  replace Ky1 := cell_below hu Ky1
  replace Kz0 := cell_below hu Kz0
  replace Kz1 := cell_below hu Kz1
  clear hu
  clear hb
  go_wp2_with fail
  refine (awake_any aF aZ _ (HE.out.below HB.out)).mono ?_
  rintro e w12 ⟨rfl, hb⟩
  have hu := hb
  replace HB : Hid _ := bl_trans HB.out hu
  replace HTa : Hid _ := HTa.out.below hu
  replace HTb : Hid _ := HTb.out.below hu
  replace HTp : Hid _ := HTp.out.below hu
  replace HTs : Hid _ := HTs.out.below hu
  replace HTq : Hid _ := HTq.out.below hu
  replace HTd : Hid _ := HTd.out.below hu
  replace K10 := cell_below hu K10
  replace K11 := cell_below hu K11
  replace K20 := cell_below hu K20
  replace K21 := cell_below hu K21
  replace K30 := cell_below hu K30
  replace K31 := cell_below hu K31
  replace Kp0 := cell_below hu Kp0
  replace Kp1 := cell_below hu Kp1
  replace Ks0 := cell_below hu Ks0
  replace Ks1 := cell_below hu Ks1
  replace Kq0 := cell_below hu Kq0
  replace Kq1 := cell_below hu Kq1
  replace Kd0 := cell_below hu Kd0
  replace Kd1 := cell_below hu Kd1
  replace Kx0 := cell_below hu Kx0
  replace Kx1 := cell_below hu Kx1
  replace Ky0 := cell_below hu Ky0
  replace Ky1 := cell_below hu Ky1
  replace Kz0 := cell_below hu Kz0
  replace Kz1 := cell_below hu Kz1
  clear hu
  clear hb
  go_wp2
  go_ret
  exact ⟨rfl, HB.out⟩

set_option maxHeartbeats 4000000 in
theorem linear_nyn (a1 b1 a2 b2 a3 b3 : Option Addr) (c1 d1 n1 c2 d2 n2 c3 d3 n3 : Nat) (p n q N r Y : Nat) (qs rs ts : List Rat) (er : Int) (er3 : Int) (aF aZ : Addr) (w : World) (hE : Er w aF aZ)
    (hS1 : ∀ v, Below w.heap.size w v → Calls Tryz.prog 12 #[.agg #[.slice a1 2 c1, .slice b1 n1 d1]] v fun e w' => e = .returned (.bool true) ∧ Below v.heap.size v w')
    (hS2 : ∀ v, Below w.heap.size w v → Calls Tryz.prog 12 #[.agg #[.slice a2 2 c2, .slice b2 n2 d2]] v fun e w' => e = .returned (.bool true) ∧ Below v.heap.size v w')
    (hS3 : ∀ v, Below w.heap.size w v → Calls Tryz.prog 12 #[.agg #[.slice a3 2 c3, .slice b3 n3 d3]] v fun e w' => e = .returned (.bool true) ∧ Below v.heap.size v w')
    (hT1 : Tt w 0 a1 b1 [(p : Int), (n : Int)] 2 n1 qs 40) (hT2 : Tt w 0 a2 b2 [(n : Int), (q : Int)] 2 n2 rs 40) (hpq : p * q ≤ 64) (hN : p * q = N) (hn : n ≤ 64) (hq : q ≤ 64)
    (hT3 : Tt w 0 a3 b3 [(q : Int), (r : Int)] 2 n3 ts 40)
    (hX : ∀ v B a4 b4 c4 d4, Below w.heap.size w v → Tt v B a4 b4 [(p : Int), (q : Int)] 2 N (mm p n q qs rs) (n * (40 + 40 + 1) + 1) → Calls Tryz.prog 14 #[.agg #[.slice a4 2 c4, .slice b4 N d4], .agg #[.slice a3 2 c3, .slice b3 n3 d3]] v fun e w' => e = .returned (noTensor er) ∧ Below v.heap.size v w') (hne : (er != 0) = true) (hnr : n * r ≤ 64) (hY : n * r = Y) (hby : n * (40 + (q * (40 + 40 + 1) + 1) + 1) + 1 ≤ 20000)
    (hZ : ∀ v B a4 b4 c4 d4, Below w.heap.size w v → Tt v B a4 b4 [(n : Int), (r : Int)] 2 Y (mm n q r rs ts) (q * (40 + 40 + 1) + 1) → Calls Tryz.prog 14 #[.agg #[.slice a1 2 c1, .slice b1 n1 d1], .agg #[.slice a4 2 c4, .slice b4 Y d4]] v fun e w' => e = .returned (noTensor er3) ∧ Below v.heap.size v w') (hne3 : (er3 != 0) = true) :
    Calls Tryz.prog 8 #[.agg #[.slice a1 2 c1, .slice b1 n1 d1], .agg #[.slice a2 2 c2, .slice b2 n2 d2], .agg #[.slice a3 2 c3, .slice b3 n3 d3]] w fun e w' => e = .returned (.bool true) ∧ Below w.heap.size w w' := by
  have HE : Hid _ := hE
  clear hE
  have HB : Hid (Below w.heap.size w w) := Below.refl _ _
  have HL : Hid (rs.length = n * q) := hT2.two.1
  have HTa : Hid _ := hT1
  clear hT1
  have HTb : Hid _ := hT2
  clear hT2
  have HTc : Hid _ := hT3
  clear hT3
  have hu := bl_alloc (Below.refl w.heap.size w) (.cells #[.slice a1 2 c1, .slice b1 n1 d1] 25)
  replace HB : Hid _ := bl_trans HB.out hu
  replace HTa : Hid _ := HTa.out.below hu
  replace HTb : Hid _ := HTb.out.below hu
  replace HTc : Hid _ := HTc.out.below hu
  clear hu
  have K10 : (w.alloc (.cells #[.slice a1 2 c1, .slice b1 n1 d1] 25)).cell? ⟨w.heap.size, 0, none⟩ = some (.slice a1 2 c1) := by first | rw [World.cell?_alloc_at _ _ _ _ (by simp)]; rfl | simp
  have K11 : (w.alloc (.cells #[.slice a1 2 c1, .slice b1 n1 d1] 25)).cell? ⟨w.heap.size, 1, none⟩ = some (.slice b1 n1 d1) := by first | rw [World.cell?_alloc_at _ _ _ _ (by simp)]; rfl | simp
  have hu := bl_alloc (Below.refl (w.alloc (.cells #[.slice a1 2 c1, .slice b1 n1 d1] 25)).heap.size (w.alloc (.cells #[.slice a1 2 c1, .slice b1 n1 d1] 25))) (.cells #[.slice a2 2 c2, .slice b2 n2 d2] 25)
  replace HB : Hid _ := bl_trans HB.out hu
  replace HTa : Hid _ := HTa.out.below hu
  replace HTb : Hid _ := HTb.out.below hu
  replace HTc : Hid _ := HTc.out.below hu
  replace K10 := cell_below hu K10
  replace K11 := cell_below hu K11
  clear hu
  have K20 : ((w.alloc (.cells #[.slice a1 2 c1, .slice b1 n1 d1] 25)).alloc (.cells #[.slice a2 2 c2, .slice b2 n2 d2] 25)).cell? ⟨w.heap.size + 1, 0, none⟩ = some (.slice a2 2 c2) := by first | rw [World.cell?_alloc_at _ _ _ _ (by simp)]; rfl | simp
  have K21 : ((w.alloc (.cells #[.slice a1 2 c1, .slice b1 n1 d1] 25)).alloc (.cells #[.slice a2 2 c2, .slice b2 n2 d2] 25)).cell? ⟨w.heap.size + 1, 1, none⟩ = some (.slice b2 n2 d2) := by first | rw [World.cell?_alloc_at _ _ _ _ (by simp)]; rfl | simp
  have hu := bl_alloc (Below.refl ((w.alloc (.cells #[.slice a1 2 c1, .slice b1 n1 d1] 25)).alloc (.cells #[.slice a2 2 c2, .slice b2 n2 d2] 25)).heap.size ((w.alloc (.cells #[.slice a1 2 c1, .slice b1 n1 d1] 25)).alloc (.cells #[.slice a2 2 c2, .slice b2 n2 d2] 25))) (.cells #[.slice a3 2 c3, .slice b3 n3 d3] 25)
  replace HB : Hid _ := bl_trans HB.out hu
  replace HTa : Hid _ := HTa.out.below hu
  replace HTb : Hid _ := HTb.out.below hu
  replace HTc : Hid _ := HTc.out.below hu
  replace K10 := cell_below hu K10
  replace K11 := cell_below hu K11
  replace K20 := cell_below hu K20
  replace K21 := cell_below hu K21
  clear hu
  have K30 : (((w.alloc (.cells #[.slice a1 2 c1, .slice b1 n1 d1] 25)).alloc (.cells #[.slice a2 2 c2, .slice b2 n2 d2] 25)).alloc (.cells #[.slice a3 2 c3, .slice b3 n3 d3] 25)).cell? ⟨w.heap.size + 1 + 1, 0, none⟩ = some (.slice a3 2 c3) := by first | rw [World.cell?_alloc_at _ _ _ _ (by simp)]; rfl | simp
  have K31 : (((w.alloc (.cells #[.slice a1 2 c1, .slice b1 n1 d1] 25)).alloc (.cells #[.slice a2 2 c2, .slice b2 n2 d2] 25)).alloc (.cells #[.slice a3 2 c3, .slice b3 n3 d3] 25)).cell? ⟨w.heap.size + 1 + 1, 1, none⟩ = some (.slice b3 n3 d3) := by first | rw [World.cell?_alloc_at _ _ _ _ (by simp)]; rfl | simp
  go_enter Tryz.func8, Tryz.ntmps8
  go_wp2_with fail
  refine (hS1 _ HB.out).mono ?_
  rintro e w1 ⟨rfl, hb⟩
  have hu := hb
  replace HB : Hid _ := bl_trans HB.out hu
  replace HTa : Hid _ := HTa.out.below hu
  replace HTb : Hid _ := HTb.out.below hu
  replace HTc : Hid _ := HTc.out.below hu
  replace K10 := cell_below hu K10
  replace K11 := cell_below hu K11
  replace K20 := cell_below hu K20
  replace K21 := cell_below hu K21
  replace K30 := cell_below hu K30
  replace K31 := cell_below hu K31
  clear hu
  clear hb
  go_wp2_with fail
  refine (hS2 _ HB.out).mono ?_
  rintro e w2 ⟨rfl, hb⟩
  have hu := hb
  replace HB : Hid _ := bl_trans HB.out hu
  replace HTa : Hid _ := HTa.out.below hu
  replace HTb : Hid _ := HTb.out.below hu
  replace HTc : Hid _ := HTc.out.below hu
  replace K10 := cell_below hu K10
  replace K11 := cell_below hu K11
  replace K20 := cell_below hu K20
  replace K21 := cell_below hu K21
  replace K30 := cell_below hu K30
  replace K31 := cell_below hu K31
  clear hu
  clear hb
  go_wp2_with fail
  refine (hS3 _ HB.out).mono ?_
  rintro e w3 ⟨rfl, hb⟩
  have hu := hb
  replace HB : Hid _ := bl_trans HB.out hu
  replace HTa : Hid _ := HTa.out.below hu
  replace HTb : Hid _ := HTb.out.below hu
  replace HTc : Hid _ := HTc.out.below hu
  replace K10 := cell_below hu K10
  replace K11 := cell_below hu K11
  replace K20 := cell_below hu K20
  replace K21 := cell_below hu K21
  replace K30 := cell_below hu K30
  replace K31 := cell_below hu K31
  clear hu
  clear hb
  go_wp2_with fail
  refine (zmm c1 d1 c2 d2 (HE.out.below HB.out) HTa.out HTb.out hpq hN (by omega)).mono ?_
  rintro e w4 ⟨a4', c4', b4', d4', rfl, hT, hb⟩
  have hu := bl_alloc hb (.cells #[.slice a4' 2 c4', .slice b4' N d4'] 25)
  replace HB : Hid _ := bl_trans HB.out hu
  replace HTa : Hid _ := HTa.out.below hu
  replace HTb : Hid _ := HTb.out.below hu
  replace HTc : Hid _ := HTc.out.below hu
  replace K10 := cell_below hu K10
  replace K11 := cell_below hu K11
  replace K20 := cell_below hu K20
  replace K21 := cell_below hu K21
  replace K30 := cell_below hu K30
  replace K31 := cell_below hu K31
  clear hu
  have HTp : Hid _ := hT.below (bl_alloc (Below.refl w4.heap.size w4) (.cells #[.slice a4' 2 c4', .slice b4' N d4'] 25))
  have Kp0 : (w4.alloc (.cells #[.slice a4' 2 c4', .slice b4' N d4'] 25)).cell? ⟨w4.heap.size, 0, none⟩ = some (.slice a4' 2 c4') := by simp
  have Kp1 : (w4.alloc (.cells #[.slice a4' 2 c4', .slice b4' N d4'] 25)).cell? ⟨w4.heap.size, 1, none⟩ = some (.slice b4' N d4') := by simp
  clear hb hT
  go_wp2_with fail
  refine (zadd c2 d2 c2 d2 (HE.out.below HB.out) HTb.out HTb.out (by omega)).mono ?_
  rintro e w5 ⟨a5', c5', b5', d5', rfl, hT, hb⟩
  have hu := bl_alloc hb (.cells #[.slice a5' 2 c5', .slice b5' n2 d5'] 25)
  replace HB : Hid _ := bl_trans HB.out hu
  replace HTa : Hid _ := HTa.out.below hu
  replace HTb : Hid _ := HTb.out.below hu
  replace HTc : Hid _ := HTc.out.below hu
  replace HTp : Hid _ := HTp.out.below hu
  replace K10 := cell_below hu K10
  replace K11 := cell_below hu K11
  replace K20 := cell_below hu K20
  replace K21 := cell_below hu K21
  replace K30 := cell_below hu K30
  replace K31 := cell_below hu K31
  replace Kp0 := cell_below hu Kp0
  replace Kp1 := cell_below hu Kp1
  clear hu
  have HTs : Hid _ := hT.below (bl_alloc (Below.refl w5.heap.size w5) (.cells #[.slice a5' 2 c5', .slice b5' n2 d5'] 25))
  have Ks0 : (w5.alloc (.cells #[.slice a5' 2 c5', .slice b5' n2 d5'] 25)).cell? ⟨w5.heap.size, 0, none⟩ = some (.slice a5' 2 c5') := by simp
  have Ks1 : (w5.alloc (.cells #[.slice a5' 2 c5', .slice b5' n2 d5'] 25)).cell? ⟨w5.heap.size, 1, none⟩ = some (.slice b5' n2 d5') := by simp
  clear hb hT
  go_wp2_with fail
  refine (zmm c1 d1 c5' d5' (HE.out.below HB.out) HTa.out HTs.out hpq hN (by omega)).mono ?_
  rintro e w6 ⟨a6', c6', b6', d6', rfl, hT, hb⟩
  have hu := bl_alloc hb (.cells #[.slice a6' 2 c6', .slice b6' N d6'] 25)
  replace HB : Hid _ := bl_trans HB.out hu
  replace HTa : Hid _ := HTa.out.below hu
  replace HTb : Hid _ := HTb.out.below hu
  replace HTc : Hid _ := HTc.out.below hu
  replace HTp : Hid _ := HTp.out.below hu
  replace HTs : Hid _ := HTs.out.below hu
  replace K10 := cell_below hu K10
  replace K11 := cell_below hu K11
  replace K20 := cell_below hu K20
  replace K21 := cell_below hu K21
  replace K30 := cell_below hu K30
  replace K31 := cell_below hu K31
  replace Kp0 := cell_below hu Kp0
  replace Kp1 := cell_below hu Kp1
  replace Ks0 := cell_below hu Ks0
  replace Ks1 := cell_below hu Ks1
  clear hu
  have HTq : Hid _ := hT.below (bl_alloc (Below.refl w6.heap.size w6) (.cells #[.slice a6' 2 c6', .slice b6' N d6'] 25))
  have Kq0 : (w6.alloc (.cells #[.slice a6' 2 c6', .slice b6' N d6'] 25)).cell? ⟨w6.heap.size, 0, none⟩ = some (.slice a6' 2 c6') := by simp
  have Kq1 : (w6.alloc (.cells #[.slice a6' 2 c6', .slice b6' N d6'] 25)).cell? ⟨w6.heap.size, 1, none⟩ = some (.slice b6' N d6') := by simp
  clear hb hT
  go_wp2_with fail
  refine (zadd c4' d4' c4' d4' (HE.out.below HB.out) HTp.out HTp.out (by omega)).mono ?_
  rintro e w7 ⟨a7', c7', b7', d7', rfl, hT, hb⟩
  have hu := bl_alloc hb (.cells #[.slice a7' 2 c7', .slice b7' N d7'] 25)
  replace HB : Hid _ := bl_trans HB.out hu
  replace HTa : Hid _ := HTa.out.below hu
  replace HTb : Hid _ := HTb.out.below hu
  replace HTc : Hid _ := HTc.out.below hu
  replace HTp : Hid _ := HTp.out.below hu
  replace HTs : Hid _ := HTs.out.below hu
  replace HTq : Hid _ := HTq.out.below hu
  replace K10 := cell_below hu K10
  replace K11 := cell_below hu K11
  replace K20 := cell_below hu K20
  replace K21 := cell_below hu K21
  replace K30 := cell_below hu K30
  replace K31 := cell_below hu K31
  replace Kp0 := cell_below hu Kp0
  replace Kp1 := cell_below hu Kp1
  replace Ks0 := cell_below hu Ks0
  replace Ks1 := cell_below hu Ks1
  replace Kq0 := cell_below hu Kq0
  replace Kq1 := cell_below hu Kq1
  clear hu
  have HTd : Hid _ := hT.below (bl_alloc (Below.refl w7.heap.size w7) (.cells #[.slice a7' 2 c7', .slice b7' N d7'] 25))
  have Kd0 : (w7.alloc (.cells #[.slice a7' 2 c7', .slice b7' N d7'] 25)).cell? ⟨w7.heap.size, 0, none⟩ = some (.slice a7' 2 c7') := by simp
  have Kd1 : (w7.alloc (.cells #[.slice a7' 2 c7', .slice b7' N d7'] 25)).cell? ⟨w7.heap.size, 1, none⟩ = some (.slice b7' N d7') := by simp
  clear hb hT
  go_wp2_with fail
  refine (hX _ _ _ _ c4' d4' HB.out HTp.out).mono ?_
  rintro e w8 ⟨rfl, hb⟩
  have hu := bl_alloc hb (.cells #[.slice none 0 0, .slice none 0 0] 25)
  replace HB : Hid _ := bl_trans HB.out hu
  replace HTa : Hid _ := HTa.out.below hu
  replace HTb : Hid _ := HTb.out.below hu
  replace HTc : Hid _ := HTc.out.below hu
  replace HTp : Hid _ := HTp.out.below hu
  replace HTs : Hid _ := HTs.out.below hu
  replace HTq : Hid _ := HTq.out.below hu
  replace HTd : Hid _ := HTd.out.below hu
  replace K10 := cell_below hu K10
  replace K11 := cell_below hu K11
  replace K20 := cell_below hu K20
  replace K21 := cell_below hu K21
  replace K30 := cell_below hu K30
  replace K31 := cell_below hu K31
  replace Kp0 := cell_below hu Kp0
  replace Kp1 := cell_below hu Kp1
  replace Ks0 := cell_below hu Ks0
  replace Ks1 := cell_below hu Ks1
  replace Kq0 := cell_below hu Kq0
  replace Kq1 := cell_below hu Kq1
  replace Kd0 := cell_below hu Kd0
  replace Kd1 := cell_below hu Kd1
  clear hu
  have Kx0 : (w8.alloc (.cells #[.slice none 0 0, .slice none 0 0] 25)).cell? ⟨w8.heap.size, 0, none⟩ = some (.slice none 0 0) := by simp
  have Kx1 : (w8.alloc (.cells #[.slice none 0 0, .slice none 0 0] 25)).cell? ⟨w8.heap.size, 1, none⟩ = some (.slice none 0 0) := by simp
  clear hb
  go_wp2_with fail
  refine (zmm c2 d2 c3 d3 (HE.out.below HB.out) HTb.out HTc.out hnr hY (by omega)).mono ?_
  rintro e w9 ⟨a9', c9', b9', d9', rfl, hT, hb⟩
  have hu := bl_alloc hb (.cells #[.slice a9' 2 c9', .slice b9' Y d9'] 25)
  replace HB : Hid _ := bl_trans HB.out hu
  replace HTa : Hid _ := HTa.out.below hu
  replace HTb : Hid _ := HTb.out.below hu
  replace HTc : Hid _ := HTc.out.below hu
  replace HTp : Hid _ := HTp.out.below hu
  replace HTs : Hid _ := HTs.out.below hu
  replace HTq : Hid _ := HTq.out.below hu
  replace HTd : Hid _ := HTd.out.below hu
  replace K10 := cell_below hu K10
  replace K11 := cell_below hu K11
  replace K20 := cell_below hu K20
  replace K21 := cell_below hu K21
  replace K30 := cell_below hu K30
  replace K31 := cell_below hu K31
  replace Kp0 := cell_below hu Kp0
  replace Kp1 := cell_below hu Kp1
  replace Ks0 := cell_below hu Ks0
  replace Ks1 := cell_below hu Ks1
  replace Kq0 := cell_below hu Kq0
  replace Kq1 := cell_below hu Kq1
  replace Kd0 := cell_below hu Kd0
  replace Kd1 := cell_below hu Kd1
  replace Kx0 := cell_below hu Kx0
  replace Kx1 := cell_below hu Kx1
  clear hu
  have HTy : Hid _ := hT.below (bl_alloc (Below.refl w9.heap.size w9) (.cells #[.slice a9' 2 c9', .slice b9' Y d9'] 25))
  have Ky0 : (w9.alloc (.cells #[.slice a9' 2 c9', .slice b9' Y d9'] 25)).cell? ⟨w9.heap.size, 0, none⟩ = some (.slice a9' 2 c9') := by simp
  have Ky1 : (w9.alloc (.cells #[.slice a9' 2 c9', .slice b9' Y d9'] 25)).cell? ⟨w9.heap.size, 1, none⟩ = some (.slice b9' Y d9') := by simp
  clear hb hT
  go_wp2_with fail
  refine (hZ _ _ _ _ c9' d9' HB.out HTy.out).mono ?_
  rintro e w10 ⟨rfl, hb⟩
  have hu := bl_alloc hb (.cells #[.slice none 0 0, .slice none 0 0] 25)
  replace HB : Hid _ := bl_trans HB.out hu
  replace HTa : Hid _ := HTa.out.below hu
  replace HTb : Hid _ := HTb.out.below hu
  replace HTc : Hid _ := HTc.out.below hu
  replace HTp : Hid _ := HTp.out.below hu
  replace HTs : Hid _ := HTs.out.below hu
  replace HTq : Hid _ := HTq.out.below hu
  replace HTd : Hid _ := HTd.out.below hu
  replace HTy : Hid _ := HTy.out.below hu
  replace K10 := cell_below hu K10
  replace K11 := cell_below hu K11
  replace K20 := cell_below hu K20
  replace K21 := cell_below hu K21
  replace K30 := cell_below hu K30
  replace K31 := cell_below hu K31
  replace Kp0 := cell_below hu Kp0
  replace Kp1 := cell_below hu Kp1
  replace Ks0 := cell_below hu Ks0
  replace Ks1 := cell_below hu Ks1
  replace Kq0 := cell_below hu Kq0
  replace Kq1 := cell_below hu Kq1
  replace Kd0 := cell_below hu Kd0
  replace Kd1 := cell_below hu Kd1
  replace Kx0 := cell_below hu Kx0
  replace Kx1 := cell_below hu Kx1
  replace Ky0 := cell_below hu Ky0
  replace Ky1 := cell_below hu Ky1
  clear hu
  have Kz0 : (w10.alloc (.cells #[.slice none 0 0, .slice none 0 0] 25)).cell? ⟨w10.heap.size, 0, none⟩ = some (.slice none 0 0) := by simp
  have Kz1 : (w10.alloc (.cells #[.slice none 0 0, .slice none 0 0] 25)).cell? ⟨w10.heap.size, 1, none⟩ = some (.slice none 0 0) := by simp
  clear hb
  go_wp2_with fail
  refine (zeq c6' d6' c7' d7' HTq.out HTd.out (mm_add p qs HL.out HL.out)).mono ?_
  rintro e w11 ⟨rfl, hb⟩
  have hu := hb
  replace HB : Hid _ := bl_trans HB.out hu
  replace HTa : Hid _ := HTa.out.below hu
  replace HTb : Hid _ := HTb.out.below hu
  replace HTc : Hid _ := HTc.out.below hu
  replace HTp : Hid _ := HTp.out.below hu
  replace HTs : Hid _ := HTs.out.below hu
  replace HTq : Hid _ := HTq.out.below hu
  replace HTd : Hid _ := HTd.out.below hu
  replace HTy : Hid _ := HTy.out.below hu
  replace K10 := cell_below hu K10
  replace K11 := cell_below hu K11
  replace K20 := cell_below hu K20
  replace K21 := cell_below hu K21
  replace K30 := cell_below hu K30
  replace K31 := cell_below hu K31
  replace Kp0 := cell_below hu Kp0
  replace Kp1 := cell_below hu Kp1
  replace Ks0 := cell_below hu Ks0
  replace Ks1 := cell_below hu Ks1
  replace Kq0 := cell_below hu Kq0
  replace Kq1 := cell_below hu Kq1
  replace Kd0 := cell_below hu Kd0
  replace Kd1 := cell_below hu Kd1
  replace Kx0 := cell_below hu Kx0
  replace Kx1 := cell_below hu Kx1
  replace Ky0 := cell_below hu Ky0
  replace Ky1 := cell_below hu Ky1
  replace Kz0 := cell_below hu Kz0
  replace Kz1 := cell_below hu Kz1
  clear hu
  clear hb
  go_wp2_with fail
  refine (awake_any aF aZ _ (HE.out.below HB.out)).mono ?_
  rintro e w12 ⟨rfl, hb⟩
  have hu := hb
  replace HB : Hid _ := bl_trans HB.out hu
  replace HTa : Hid _ := HTa.out.below hu
  replace HTb : Hid _ := HTb.out.below hu
  replace HTc : Hid _ := HTc.out.below hu
  replace HTp : Hid _ := HTp.out.below hu
  replace HTs : Hid _ := HTs.out.below hu
  replace HTq : Hid _ := HTq.out.below hu
  replace HTd : Hid _ := HTd.out.below hu
  replace HTy : Hid _ := HTy.out.below hu
  replace K10 := cell_below hu K10
  replace K11 := cell_below hu K11
  replace K20 := cell_below hu K20
  replace K21 := cell_below hu K21
  replace K30 := cell_below hu K30
  replace K31 := cell_below hu K31
  replace Kp0 := cell_below hu Kp0
  replace Kp1 := cell_below hu Kp1
  replace Ks0 := cell_below hu Ks0
  replace Ks1 := cell_below hu Ks1
  replace Kq0 := cell_below hu Kq0
  replace Kq1 := cell_below hu Kq1
  replace Kd0 := cell_below hu Kd0
  replace Kd1 := cell_below hu Kd1
  replace Kx0 := cell_below hu Kx0
  replace Kx1 := cell_below hu Kx1
  replace Ky0 := cell_below hu Ky0
  replace Ky1 := cell_below hu Ky1
  replace Kz0 := cell_below hu Kz0
  replace Kz1 := cell_below hu Kz1
  clear hu
  clear hb
  go_wp2
  go_ret
  exact ⟨rfl, HB.out⟩

set_option maxHeartbeats 4000000 in
theorem linear_ynn (a1 b1 a2 b2 a3 b3 : Option Addr) (c1 d1 n1 c2 d2 n2 c3 d3 n3 : Nat) (p n q N r X : Nat) (qs rs ts : List Rat) (er2 er3 : Int) (aF aZ : Addr) (w : World) (hE : Er w aF aZ)
    (hS1 : ∀ v, Below w.heap.size w v → Calls Tryz.prog 12 #[.agg #[.slice a1 2 c1, .slice b1 n1 d1]] v fun e w' => e = .returned (.bool true) ∧ Below v.heap.size v w')
    (hS2 : ∀ v, Below w.heap.size w v → Calls Tryz.prog 12 #[.agg #[.slice a2 2 c2, .slice b2 n2 d2]] v fun e w' => e = .returned (.bool true) ∧ Below v.heap.size v w')
    (hS3 : ∀ v, Below w.heap.size w v → Calls Tryz.prog 12 #[.agg #[.slice a3 2 c3, .slice b3 n3 d3]] v fun e w' => e = .returned (.bool true) ∧ Below v.heap.size v w')
    (hT1 : Tt w 0 a1 b1 [(p : Int), (n : Int)] 2 n1 qs 40) (hT2 : Tt w 0 a2 b2 [(n : Int), (q : Int)] 2 n2 rs 40) (hpq : p * q ≤ 64) (hN : p * q = N) (hn : n ≤ 64) (hq : q ≤ 64)
    (hT3 : Tt w 0 a3 b3 [(q : Int), (r : Int)] 2 n3 ts 40) (hpr : p * r ≤ 64) (hX : p * r = X) (hbx : q * ((n * (40 + 40 + 1) + 1) + 40 + 1) + 1 ≤ 20000)
    (hY : ∀ v, Below w.heap.size w v → Calls Tryz.prog 14 #[.agg #[.slice a2 2 c2, .slice b2 n2 d2], .agg #[.slice a3 2 c3, .slice b3 n3 d3]] v fun e w' => e = .returned (noTensor er2) ∧ Below v.heap.size v w') (hne2 : (er2 != 0) = true)
    (hZ0 : ∀ v, Below w.heap.size w v → Calls Tryz.prog 14 #[.agg #[.slice a1 2 c1, .slice b1 n1 d1], .agg #[.slice none 0 0, .slice none 0 0]] v fun e w' => e = .returned (noTensor er3) ∧ Below v.heap.size v w') (hne3 : (er3 != 0) = true) :
    Calls Tryz.prog 8 #[.agg #[.slice a1 2 c1, .slice b1 n1 d1], .agg #[.slice a2 2 c2, .slice b2 n2 d2], .agg #[.slice a3 2 c3, .slice b3 n3 d3]] w fun e w' => e = .returned (.bool true) ∧ Below w.heap.size w w' := by
  have HE : Hid _ := hE
  clear hE
  have HB : Hid (Below w.heap.size w w) := Below.refl _ _
  have HL : Hid (rs.length = n * q) := hT2.two.1
  have HTa : Hid _ := hT1
  clear hT1
  have HTb : Hid _ := hT2
  clear hT2
  have HTc : Hid _ := hT3
  clear hT3
  have hu := bl_alloc (Below.refl w.heap.size w) (.cells #[.slice a1 2 c1, .slice b1 n1 d1] 25)
  replace HB : Hid _ := bl_trans HB.out hu
  replace HTa : Hid _ := HTa.out.below hu
  replace HTb : Hid _ := HTb.out.below hu
  replace HTc : Hid _ := HTc.out.below hu
  clear hu
  have K10 : (w.alloc (.cells #[.slice a1 2 c1, .slice b1 n1 d1] 25)).cell? ⟨w.heap.size, 0, none⟩ = some (.slice a1 2 c1) := by first | rw [World.cell?_alloc_at _ _ _ _ (by simp)]; rfl | simp
  have K11 : (w.alloc (.cells #[.slice a1 2 c1, .slice b1 n1 d1] 25)).cell? ⟨w.heap.size, 1, none⟩ = some (.slice b1 n1 d1) := by first | rw [World.cell?_alloc_at _ _ _ _ (by simp)]; rfl | simp
  have hu := bl_alloc (Below.refl (w.alloc (.cells #[.slice a1 2 c1, .slice b1 n1 d1] 25)).heap.size (w.alloc (.cells #[.slice a1 2 c1, .slice b1 n1 d1] 25))) (.cells #[.slice a2 2 c2, .slice b2 n2 d2] 25)
  replace HB : Hid _ := bl_trans HB.out hu
  replace HTa : Hid _ := HTa.out.below hu
  replace HTb : Hid _ := HTb.out.below hu
  replace HTc : Hid _ := HTc.out.below hu
  replace K10 := cell_below hu K10
  replace K11 := cell_below hu K11
  clear hu
  have K20 : ((w.alloc (.cells #[.slice a1 2 c1, .slice b1 n1 d1] 25)).alloc (.cells #[.slice a2 2 c2, .slice b2 n2 d2] 25)).cell? ⟨w.heap.size + 1, 0, none⟩ = some (.slice a2 2 c2) := by first | rw [World.cell?_alloc_at _ _ _ _ (by simp)]; rfl | simp
  have K21 : ((w.alloc (.cells #[.slice a1 2 c1, .slice b1 n1 d1] 25)).alloc (.cells #[.slice a2 2 c2, .slice b2 n2 d2] 25)).cell? ⟨w.heap.size + 1, 1, none⟩ = some (.slice b2 n2 d2) := by first | rw [World.cell?_alloc_at _ _ _ _ (by simp)]; rfl | simp
  have hu := bl_alloc (Below.refl ((w.alloc (.cells #[.slice a1 2 c1, .slice b1 n1 d1] 25)).alloc (.cells #[.slice a2 2 c2, .slice b2 n2 d2] 25)).heap.size ((w.alloc (.cells #[.slice a1 2 c1, .slice b1 n1 d1] 25)).alloc (.cells #[.slice a2 2 c2, .slice b2 n2 d2] 25))) (.cells #[.slice a3 2 c3, .slice b3 n3 d3] 25)
  replace HB : Hid _ := bl_trans HB.out hu
  replace HTa : Hid _ := HTa.out.below hu
  replace HTb : Hid _ := HTb.out.below hu
  replace HTc : Hid _ := HTc.out.below hu
  replace K10 := cell_below hu K10
  replace K11 := cell_below hu K11
  replace K20 := cell_below hu K20
  replace K21 := cell_below hu K21
  clear hu
  have K30 : (((w.alloc (.cells #[.slice a1 2 c1, .slice b1 n1 d1] 25)).alloc (.cells #[.slice a2 2 c2, .slice b2 n2 d2] 25)).alloc (.cells #[.slice a3 2 c3, .slice b3 n3 d3] 25)).cell? ⟨w.heap.size + 1 + 1, 0, none⟩ = some (.slice a3 2 c3) := by first | rw [World.cell?_alloc_at _ _ _ _ (by simp)]; rfl | simp
  have K31 : (((w.alloc (.cells #[.slice a1 2 c1, .slice b1 n1 d1] 25)).alloc (.cells #[.slice a2 2 c2, .slice b2 n2 d2] 25)).alloc (.cells #[.slice a3 2 c3, .slice b3 n3 d3] 25)).cell? ⟨w.heap.size + 1 + 1, 1, none⟩ = some (.slice b3 n3 d3) := by first | rw [World.cell?_alloc_at _ _ _ _ (by simp)]; rfl | simp
  go_enter Tryz.func8, Tryz.ntmps8
  go_wp2_with fail
  refine (hS1 _ HB.out).mono ?_
  rintro e w1 ⟨rfl, hb⟩
  have hu := hb
  replace HB : Hid _ := bl_trans HB.out hu
  replace HTa : Hid _ := HTa.out.below hu
  replace HTb : Hid _ := HTb.out.below hu
  replace HTc : Hid _ := HTc.out.below hu
  replace K10 := cell_below hu K10
  replace K11 := cell_below hu K11
  replace K20 := cell_below hu K20
  replace K21 := cell_below hu K21
  replace K30 := cell_below hu K30
  replace K31 := cell_below hu K31
  clear hu
  clear hb
  go_wp2_with fail
  refine (hS2 _ HB.out).mono ?_
  rintro e w2 ⟨rfl, hb⟩
  have hu := hb
  replace HB : Hid _ := bl_trans HB.out hu
  replace HTa : Hid _ := HTa.out.below hu
  replace HTb : Hid _ := HTb.out.below hu
  replace HTc : Hid _ := HTc.out.below hu
  replace K10 := cell_below hu K10
  replace K11 := cell_below hu K11
  replace K20 := cell_below hu K20
  replace K21 := cell_below hu K21
  replace K30 := cell_below hu K30
  replace K31 := cell_below hu K31
  clear hu
  clear hb
  go_wp2_with fail
  refine (hS3 _ HB.out).mono ?_
  rintro e w3 ⟨rfl, hb⟩
  have hu := hb
  replace HB : Hid _ := bl_trans HB.out hu
  replace HTa : Hid _ := HTa.out.below hu
  replace HTb : Hid _ := HTb.out.below hu
  replace HTc : Hid _ := HTc.out.below hu
  replace K10 := cell_below hu K10
  replace K11 := cell_below hu K11
  replace K20 := cell_below hu K20
  replace K21 := cell_below hu K21
  replace K30 := cell_below hu K30
  replace K31 := cell_below hu K31
  clear hu
  clear hb
  go_wp2_with fail
  refine (zmm c1 d1 c2 d2 (HE.out.below HB.out) HTa.out HTb.out hpq hN (by omega)).mono ?_
  rintro e w4 ⟨a4', c4', b4', d4', rfl, hT, hb⟩
  have hu := bl_alloc hb (.cells #[.slice a4' 2 c4', .slice b4' N d4'] 25)
  replace HB : Hid _ := bl_trans HB.out hu
  replace HTa : Hid _ := HTa.out.below hu
  replace HTb : Hid _ := HTb.out.below hu
  replace HTc : Hid _ := HTc.out.below hu
  replace K10 := cell_below hu K10
  replace K11 := cell_below hu K11
  replace K20 := cell_below hu K20
  replace K21 := cell_below hu K21
  replace K30 := cell_below hu K30
  replace K31 := cell_below hu K31
  clear hu
  have HTp : Hid _ := hT.below (bl_alloc (Below.refl w4.heap.size w4) (.cells #[.slice a4' 2 c4', .slice b4' N d4'] 25))
  have Kp0 : (w4.alloc (.cells #[.slice a4' 2 c4', .slice b4' N d4'] 25)).cell? ⟨w4.heap.size, 0, none⟩ = some (.slice a4' 2 c4') := by simp
  have Kp1 : (w4.alloc (.cells #[.slice a4' 2 c4', .slice b4' N d4'] 25)).cell? ⟨w4.heap.size, 1, none⟩ = some (.slice b4' N d4') := by simp
  clear hb hT
  go_wp2_with fail
  refine (zadd c2 d2 c2 d2 (HE.out.below HB.out) HTb.out HTb.out (by omega)).mono ?_
  rintro e w5 ⟨a5', c5', b5', d5', rfl, hT, hb⟩
  have hu := bl_alloc hb (.cells #[.slice a5' 2 c5', .slice b5' n2 d5'] 25)
  replace HB : Hid _ := bl_trans HB.out hu
  replace HTa : Hid _ := HTa.out.below hu
  replace HTb : Hid _ := HTb.out.below hu
  replace HTc : Hid _ := HTc.out.below hu
  replace HTp : Hid _ := HTp.out.below hu
  replace K10 := cell_below hu K10
  replace K11 := cell_below hu K11
  replace K20 := cell_below hu K20
  replace K21 := cell_below hu K21
  replace K30 := cell_below hu K30
  replace K31 := cell_below hu K31
  replace Kp0 := cell_below hu Kp0
  replace Kp1 := cell_below hu Kp1
  clear hu
  have HTs : Hid _ := hT.below (bl_alloc (Below.refl w5.heap.size w5) (.cells #[.slice a5' 2 c5', .slice b5' n2 d5'] 25))
  have Ks0 : (w5.alloc (.cells #[.slice a5' 2 c5', .slice b5' n2 d5'] 25)).cell? ⟨w5.heap.size, 0, none⟩ = some (.slice a5' 2 c5') := by simp
  have Ks1 : (w5.alloc (.cells #[.slice a5' 2 c5', .slice b5' n2 d5'] 25)).cell? ⟨w5.heap.size, 1, none⟩ = some (.slice b5' n2 d5') := by simp
  clear hb hT
  go_wp2_with fail
  refine (zmm c1 d1 c5' d5' (HE.out.below HB.out) HTa.out HTs.out hpq hN (by omega)).mono ?_
  rintro e w6 ⟨a6', c6', b6', d6', rfl, hT, hb⟩
  have hu := bl_alloc hb (.cells #[.slice a6' 2 c6', .slice b6' N d6'] 25)
  replace HB : Hid _ := bl_trans HB.out hu
  replace HTa : Hid _ := HTa.out.below hu
  replace HTb : Hid _ := HTb.out.below hu
  replace HTc : Hid _ := HTc.out.below hu
  replace HTp : Hid _ := HTp.out.below hu
  replace HTs : Hid _ := HTs.out.below hu
  replace K10 := cell_below hu K10
  replace K11 := cell_below hu K11
  replace K20 := cell_below hu K20
  replace K21 := cell_below hu K21
  replace K30 := cell_below hu K30
  replace K31 := cell_below hu K31
  replace Kp0 := cell_below hu Kp0
  replace Kp1 := cell_below hu Kp1
  replace Ks0 := cell_below hu Ks0
  replace Ks1 := cell_below hu Ks1
  clear hu
  have HTq : Hid _ := hT.below (bl_alloc (Below.refl w6.heap.size w6) (.cells #[.slice a6' 2 c6', .slice b6' N d6'] 25))
  have Kq0 : (w6.alloc (.cells #[.slice a6' 2 c6', .slice b6' N d6'] 25)).cell? ⟨w6.heap.size, 0, none⟩ = some (.slice a6' 2 c6') := by simp
  have Kq1 : (w6.alloc (.cells #[.slice a6' 2 c6', .slice b6' N d6'] 25)).cell? ⟨w6.heap.size, 1, none⟩ = some (.slice b6' N d6') := by simp
  clear hb hT
  go_wp2_with fail
  refine (zadd c4' d4' c4' d4' (HE.out.below HB.out) HTp.out HTp.out (by omega)).mono ?_
  rintro e w7 ⟨a7', c7', b7', d7', rfl, hT, hb⟩
  have hu := bl_alloc hb (.cells #[.slice a7' 2 c7', .slice b7' N d7'] 25)
  replace HB : Hid _ := bl_trans HB.out hu
  replace HTa : Hid _ := HTa.out.below hu
  replace HTb : Hid _ := HTb.out.below hu
  replace HTc : Hid _ := HTc.out.below hu
  replace HTp : Hid _ := HTp.out.below hu
  replace HTs : Hid _ := HTs.out.below hu
  replace HTq : Hid _ := HTq.out.below hu
  replace K10 := cell_below hu K10
  replace K11 := cell_below hu K11
  replace K20 := cell_below hu K20
  replace K21 := cell_below hu K21
  replace K30 := cell_below hu K30
  replace K31 := cell_below hu K31
  replace Kp0 := cell_below hu Kp0
  replace Kp1 := cell_below hu Kp1
  replace Ks0 := cell_below hu Ks0
  replace Ks1 := cell_below hu Ks1
  replace Kq0 := cell_below hu Kq0
  replace Kq1 := cell_below hu Kq1
  clear hu
  have HTd : Hid _ := hT.below (bl_alloc (Below.refl w7.heap.size w7) (.cells #[.slice a7' 2 c7', .slice b7' N d7'] 25))
  have Kd0 : (w7.alloc (.cells #[.slice a7' 2 c7', .slice b7' N d7'] 25)).cell? ⟨w7.heap.size, 0, none⟩ = some (.slice a7' 2 c7') := by simp
  have Kd1 : (w7.alloc (.cells #[.slice a7' 2 c7', .slice b7' N d7'] 25)).cell? ⟨w7.heap.size, 1, none⟩ = some (.slice b7' N d7') := by simp
  clear hb hT
  go_wp2_with fail
  refine (zmm c4' d4' c3 d3 (HE.out.below HB.out) HTp.out HTc.out hpr hX hbx).mono ?_
  rintro e w8 ⟨a8', c8', b8', d8', rfl, hT, hb⟩
  have hu := bl_alloc hb (.cells #[.slice a8' 2 c8', .slice b8' X d8'] 25)
  replace HB : Hid _ := bl_trans HB.out hu
  replace HTa : Hid _ := HTa.out.below hu
  replace HTb : Hid _ := HTb.out.below hu
  replace HTc : Hid _ := HTc.out.below hu
  replace HTp : Hid _ := HTp.out.below hu
  replace HTs : Hid _ := HTs.out.below hu
  replace HTq : Hid _ := HTq.out.below hu
  replace HTd : Hid _ := HTd.out.below hu
  replace K10 := cell_below hu K10
  replace K11 := cell_below hu K11
  replace K20 := cell_below hu K20
  replace K21 := cell_below hu K21
  replace K30 := cell_below hu K30
  replace K31 := cell_below hu K31
  replace Kp0 := cell_below hu Kp0
  replace Kp1 := cell_below hu Kp1
  replace Ks0 := cell_below hu Ks0
  replace Ks1 := cell_below hu Ks1
  replace Kq0 := cell_below hu Kq0
  replace Kq1 := cell_below hu Kq1
  replace Kd0 := cell_below hu Kd0
  replace Kd1 := cell_below hu Kd1
  clear hu
  have HTx : Hid _ := hT.below (bl_alloc (Below.refl w8.heap.size w8) (.cells #[.slice a8' 2 c8', .slice b8' X d8'] 25))
  have Kx0 : (w8.alloc (.cells #[.slice a8' 2 c8', .slice b8' X d8'] 25)).cell? ⟨w8.heap.size, 0, none⟩ = some (.slice a8' 2 c8') := by simp
  have Kx1 : (w8.alloc (.cells #[.slice a8' 2 c8', .slice b8' X d8'] 25)).cell? ⟨w8.heap.size, 1, none⟩ = some (.slice b8' X d8') := by simp
  clear hb hT
  go_wp2_with fail
  refine (hY _ HB.out).mono ?_
  rintro e w9 ⟨rfl, hb⟩
  have hu := bl_alloc hb (.cells #[.slice none 0 0, .slice none 0 0] 25)
  replace HB : Hid _ := bl_trans HB.out hu
  replace HTa : Hid _ := HTa.out.below hu
  replace HTb : Hid _ := HTb.out.below hu
  replace HTc : Hid _ := HTc.out.below hu
  replace HTp : Hid _ := HTp.out.below hu
  replace HTs : Hid _ := HTs.out.below hu
  replace HTq : Hid _ := HTq.out.below hu
  replace HTd : Hid _ := HTd.out.below hu
  replace HTx : Hid _ := HTx.out.below hu
  replace K10 := cell_below hu K10
  replace K11 := cell_below hu K11
  replace K20 := cell_below hu K20
  replace K21 := cell_below hu K21
  replace K30 := cell_below hu K30
  replace K31 := cell_below hu K31
  replace Kp0 := cell_below hu Kp0
  replace Kp1 := cell_below hu Kp1
  replace Ks0 := cell_below hu Ks0
  replace Ks1 := cell_below hu Ks1
  replace Kq0 := cell_below hu Kq0
  replace Kq1 := cell_below hu Kq1
  replace Kd0 := cell_below hu Kd0
  replace Kd1 := cell_below hu Kd1
  replace Kx0 := cell_below hu Kx0
  replace Kx1 := cell_below hu Kx1
  clear hu
  have Ky0 : (w9.alloc (.cells #[.slice none 0 0, .slice none 0 0] 25)).cell? ⟨w9.heap.size, 0, none⟩ = some (.slice none 0 0) := by simp
  have Ky1 : (w9.alloc (.cells #[.slice none 0 0, .slice none 0 0] 25)).cell? ⟨w9.heap.size, 1, none⟩ = some (.slice none 0 0) := by simp
  clear hb
  go_wp2_with fail
  refine (hZ0 _ HB.out).mono ?_
  rintro e w10 ⟨rfl, hb⟩
  have hu := bl_alloc hb (.cells #[.slice none 0 0, .slice none 0 0] 25)
  replace HB : Hid _ := bl_trans HB.out hu
  replace HTa : Hid _ := HTa.out.below hu
  replace HTb : Hid _ := HTb.out.below hu
  replace HTc : Hid _ := HTc.out.below hu
  replace HTp : Hid _ := HTp.out.below hu
  replace HTs : Hid _ := HTs.out.below hu
  replace HTq : Hid _ := HTq.out.below hu
  replace HTd : Hid _ := HTd.out.below hu
  replace HTx : Hid _ := HTx.out.below hu
  replace K10 := cell_below hu K10
  replace K11 := cell_below hu K11
  replace K20 := cell_below hu K20
  replace K21 := cell_below hu K21
  replace K30 := cell_below hu K30
  replace K31 := cell_below hu K31
  replace Kp0 := cell_below hu Kp0
  replace Kp1 := cell_below hu Kp1
  replace Ks0 := cell_below hu Ks0
  replace Ks1 := cell_below hu Ks1
  replace Kq0 := cell_below hu Kq0
  replace Kq1 := cell_below hu Kq1
  replace Kd0 := cell_below hu Kd0
  replace Kd1 := cell_below hu Kd1
  replace Kx0 := cell_below hu Kx0
  replace Kx1 := cell_below hu Kx1
  replace Ky0 := cell_below hu Ky0
  replace Ky1 := cell_below hu Ky1
  clear hu
  have Kz0 : (w10.alloc (.cells #[.slice none 0 0, .slice none 0 0] 25)).cell? ⟨w10.heap.size, 0, none⟩ = some (.slice none 0 0) := by simp
  have Kz1 : (w10.alloc (.cells #[.slice none 0 0, .slice none 0 0] 25)).cell? ⟨w10.heap.size, 1, none⟩ = some (.slice none 0 0) := by simp
  clear hb
  go_wp2_with fail
  refine (zeq c6' d6' c7' d7' HTq.out HTd.out (mm_add p qs HL.out HL.out)).mono ?_
  rintro e w11 ⟨rfl, hb⟩
  have hu := hb
  replace HB : Hid _ := bl_trans HB.out hu
  replace HTa : Hid _ := HTa.out.below hu
  replace HTb : Hid _ := HTb.out.below hu
  replace HTc : Hid _ := HTc.out.below hu
  replace HTp : Hid _ := HTp.out.below hu
  replace HTs : Hid _ := HTs.out.below hu
  replace HTq : Hid _ := HTq.out.below hu
  replace HTd : Hid _ := HTd.out.below hu
  replace HTx : Hid _ := HTx.out.below hu
  replace K10 := cell_below hu K10
  replace K11 := cell_below hu K11
  replace K20 := cell_below hu K20
  replace K21 := cell_below hu K21
  replace K30 := cell_below hu K30
  replace K31 := cell_below hu K31
  replace Kp0 := cell_below hu Kp0
  replace Kp1 := cell_below hu Kp1
  replace Ks0 := cell_below hu Ks0
  replace Ks1 := cell_below hu Ks1
  replace Kq0 := cell_below hu Kq0
  replace Kq1 := cell_below hu Kq1
  replace Kd0 := cell_below hu Kd0
  replace Kd1 := cell_below hu Kd1
  replace Kx0 := cell_below hu Kx0
  replace Kx1 := cell_below hu Kx1
  replace Ky0 := cell_below hu Ky0
  replace Ky1 := cell_below hu Ky1
  replace Kz0 := cell_below hu Kz0
  replace Kz1 := cell_below hu Kz1
  clear hu
  clear hb
  go_wp2_with fail
  refine (awake_any aF aZ _ (HE.out.below HB.out)).mono ?_
  rintro e w12 ⟨rfl, hb⟩
  have hu := hb
  replace HB : Hid _ := bl_trans HB.out hu
  replace HTa : Hid _ := HTa.out.below hu
  replace HTb : Hid _ := HTb.out.below hu
  replace HTc : Hid _ := HTc.out.below hu
  replace HTp : Hid _ := HTp.out.below hu
  replace HTs : Hid _ := HTs.out.below hu
  replace HTq : Hid _ := HTq.out.below hu
  replace HTd : Hid _ := HTd.out.below hu
  replace HTx : Hid _ := HTx.out.below hu
  replace K10 := cell_below hu K10
  replace K11 := cell_below hu K11
  replace K20 := cell_below hu K20
  replace K21 := cell_below hu K21
  replace K30 := cell_below hu K30
  replace K31 := cell_below hu K31
  replace Kp0 := cell_below hu Kp0
  replace Kp1 := cell_below hu Kp1
  replace Ks0 := cell_below hu Ks0
  replace Ks1 := cell_below hu Ks1
  replace Kq0 := cell_below hu Kq0
  replace Kq1 := cell_below hu Kq1
  replace Kd0 := cell_below hu Kd0
  replace Kd1 := cell_below hu Kd1
  replace Kx0 := cell_below hu Kx0
  replace Kx1 := cell_below hu Kx1
  replace Ky0 := cell_below hu Ky0
  replace Ky1 := cell_below hu Ky1
  replace Kz0 := cell_below hu Kz0
  replace Kz1 := cell_below hu Kz1
  clear hu
  clear hb
  go_wp2
  go_ret
  exact ⟨rfl, HB.out⟩

set_option maxHeartbeats 4000000 in
theorem linear_yyy (a1 b1 a2 b2 a3 b3 : Option Addr) (c1 d1 n1 c2 d2 n2 c3 d3 n3 : Nat) (p n q N r X Y : Nat) (qs rs ts : List Rat) (aF aZ : Addr) (w : World) (hE : Er w aF aZ)
    (hS1 : ∀ v, Below w.heap.size w v → Calls Tryz.prog 12 #[.agg #[.slice a1 2 c1, .slice b1 n1 d1]] v fun e w' => e = .returned (.bool true) ∧ Below v.heap.size v w')
    (hS2 : ∀ v, Below w.heap.size w v → Calls Tryz.prog 12 #[.agg #[.slice a2 2 c2, .slice b2 n2 d2]] v fun e w' => e = .returned (.bool true) ∧ Below v.heap.size v w')
    (hS3 : ∀ v, Below w.heap.size w v → Calls Tryz.prog 12 #[.agg #[.slice a3 2 c3, .slice b3 n3 d3]] v fun e w' => e = .returned (.bool true) ∧ Below v.heap.size v w')
    (hT1 : Tt w 0 a1 b1 [(p : Int), (n : Int)] 2 n1 qs 40) (hT2 : Tt w 0 a2 b2 [(n : Int), (q : Int)] 2 n2 rs 40) (hpq : p * q ≤ 64) (hN : p * q = N) (hn : n ≤ 64) (hq : q ≤ 64)
    (hT3 : Tt w 0 a3 b3 [(q : Int), (r : Int)] 2 n3 ts 40) (hpr : p * r ≤ 64) (hX : p * r = X) (hbx : q * ((n * (40 + 40 + 1) + 1) + 40 + 1) + 1 ≤ 20000) (hnr : n * r ≤ 64) (hY : n * r = Y) (hby : n * (40 + (q * (40 + 40 + 1) + 1) + 1) + 1 ≤ 20000) :
    Calls Tryz.prog 8 #[.agg #[.slice a1 2 c1, .slice b1 n1 d1], .agg #[.slice a2 2 c2, .slice b2 n2 d2], .agg #[.slice a3 2 c3, .slice b3 n3 d3]] w fun e w' => e = .returned (.bool true) ∧ Below w.heap.size w w' := by
  have HE : Hid _ := hE
  clear hE
  have HB : Hid (Below w.heap.size w w) := Below.refl _ _
  have HL : Hid (rs.length = n * q) := hT2.two.1
  have HTa : Hid _ := hT1
  clear hT1
  have HTb : Hid _ := hT2
  clear hT2
  have HTc : Hid _ := hT3
  clear hT3
  have hu := bl_alloc (Below.refl w.heap.size w) (.cells #[.slice a1 2 c1, .slice b1 n1 d1] 25)
  replace HB : Hid _ := bl_trans HB.out hu
  replace HTa : Hid _ := HTa.out.below hu
  replace HTb : Hid _ := HTb.out.below hu
  replace HTc : Hid _ := HTc.out.below hu
  clear hu
  have K10 : (w.alloc (.cells #[.slice a1 2 c1, .slice b1 n1 d1] 25)).cell? ⟨w.heap.size, 0, none⟩ = some (.slice a1 2 c1) := by first | rw [World.cell?_alloc_at _ _ _ _ (by simp)]; rfl | simp
  have K11 : (w.alloc (.cells #[.slice a1 2 c1, .slice b1 n1 d1] 25)).cell? ⟨w.heap.size, 1, none⟩ = some (.slice b1 n1 d1) := by first | rw [World.cell?_alloc_at _ _ _ _ (by simp)]; rfl | simp
  have hu := bl_alloc (Below.refl (w.alloc (.cells #[.slice a1 2 c1, .slice b1 n1 d1] 25)).heap.size (w.alloc (.cells #[.slice a1 2 c1, .slice b1 n1 d1] 25))) (.cells #[.slice a2 2 c2, .slice b2 n2 d2] 25)
  replace HB : Hid _ := bl_trans HB.out hu
  replace HTa : Hid _ := HTa.out.below hu
  replace HTb : Hid _ := HTb.out.below hu
  replace HTc : Hid _ := HTc.out.below hu
  replace K10 := cell_below hu K10
  replace K11 := cell_below hu K11
  clear hu
  have K20 : ((w.alloc (.cells #[.slice a1 2 c1, .slice b1 n1 d1] 25)).alloc (.cells #[.slice a2 2 c2, .slice b2 n2 d2] 25)).cell? ⟨w.heap.size + 1, 0, none⟩ = some (.slice a2 2 c2) := by first | rw [World.cell?_alloc_at _ _ _ _ (by simp)]; rfl | simp
  have K21 : ((w.alloc (.cells #[.slice a1 2 c1, .slice b1 n1 d1] 25)).alloc (.cells #[.slice a2 2 c2, .slice b2 n2 d2] 25)).cell? ⟨w.heap.size + 1, 1, none⟩ = some (.slice b2 n2 d2) := by first | rw [World.cell?_alloc_at _ _ _ _ (by simp)]; rfl | simp
  have hu := bl_alloc (Below.refl ((w.alloc (.cells #[.slice a1 2 c1, .slice b1 n1 d1] 25)).alloc (.cells #[.slice a2 2 c2, .slice b2 n2 d2] 25)).heap.size ((w.alloc (.cells #[.slice a1 2 c1, .slice b1 n1 d1] 25)).alloc (.cells #[.slice a2 2 c2, .slice b2 n2 d2] 25))) (.cells #[.slice a3 2 c3, .slice b3 n3 d3] 25)
  replace HB : Hid _ := bl_trans HB.out hu
  replace HTa : Hid _ := HTa.out.below hu
  replace HTb : Hid _ := HTb.out.below hu
  replace HTc : Hid _ := HTc.out.below hu
  replace K10 := cell_below hu K10
  replace K11 := cell_below hu K11
  replace K20 := cell_below hu K20
  replace K21 := cell_below hu K21
  clear hu
  have K30 : (((w.alloc (.cells #[.slice a1 2 c1, .slice b1 n1 d1] 25)).alloc (.cells #[.slice a2 2 c2, .slice b2 n2 d2] 25)).alloc (.cells #[.slice a3 2 c3, .slice b3 n3 d3] 25)).cell? ⟨w.heap.size + 1 + 1, 0, none⟩ = some (.slice a3 2 c3) := by first | rw [World.cell?_alloc_at _ _ _ _ (by simp)]; rfl | simp
  have K31 : (((w.alloc (.cells #[.slice a1 2 c1, .slice b1 n1 d1] 25)).alloc (.cells #[.slice a2 2 c2, .slice b2 n2 d2] 25)).alloc (.cells #[.slice a3 2 c3, .slice b3 n3 d3] 25)).cell? ⟨w.heap.size + 1 + 1, 1, none⟩ = some (.slice b3 n3 d3) := by first | rw [World.cell?_alloc_at _ _ _ _ (by simp)]; rfl | simp
  go_enter Tryz.func8, Tryz.ntmps8
  go_wp2_with fail
  refine (hS1 _ HB.out).mono ?_
  rintro e w1 ⟨rfl, hb⟩
  have hu := hb
  replace HB : Hid _ := bl_trans HB.out hu
  replace HTa : Hid _ := HTa.out.below hu
  replace HTb : Hid _ := HTb.out.below hu
  replace HTc : Hid _ := HTc.out.below hu
  replace K10 := cell_below hu K10
  replace K11 := cell_below hu K11
  replace K20 := cell_below hu K20
  replace K21 := cell_below hu K21
  replace K30 := cell_below hu K30
  replace K31 := cell_below hu K31
  clear hu
  clear hb
  go_wp2_with fail
  refine (hS2 _ HB.out).mono ?_
  rintro e w2 ⟨rfl, hb⟩
  have hu := hb
  replace HB : Hid _ := bl_trans HB.out hu
  replace HTa : Hid _ := HTa.out.below hu
  replace HTb : Hid _ := HTb.out.below hu
  replace HTc : Hid _ := HTc.out.below hu
  replace K10 := cell_below hu K10
  replace K11 := cell_below hu K11
  replace K20 := cell_below hu K20
  replace K21 := cell_below hu K21
  replace K30 := cell_below hu K30
  replace K31 := cell_below hu K31
  clear hu
  clear hb
  go_wp2_with fail
  refine (hS3 _ HB.out).mono ?_
  rintro e w3 ⟨rfl, hb⟩
  have hu := hb
  replace HB : Hid _ := bl_trans HB.out hu
  replace HTa : Hid _ := HTa.out.below hu
  replace HTb : Hid _ := HTb.out.below hu
  replace HTc : Hid _ := HTc.out.below hu
  replace K10 := cell_below hu K10
  replace K11 := cell_below hu K11
  replace K20 := cell_below hu K20
  replace K21 := cell_below hu K21
  replace K30 := cell_below hu K30
  replace K31 := cell_below hu K31
  clear hu
  clear hb
  go_wp2_with fail
  refine (zmm c1 d1 c2 d2 (HE.out.below HB.out) HTa.out HTb.out hpq hN (by omega)).mono ?_
  rintro e w4 ⟨a4', c4', b4', d4', rfl, hT, hb⟩
  have hu := bl_alloc hb (.cells #[.slice a4' 2 c4', .slice b4' N d4'] 25)
  replace HB : Hid _ := bl_trans HB.out hu
  replace HTa : Hid _ := HTa.out.below hu
  replace HTb : Hid _ := HTb.out.below hu
  replace HTc : Hid _ := HTc.out.below hu
  replace K10 := cell_below hu K10
  replace K11 := cell_below hu K11
  replace K20 := cell_below hu K20
  replace K21 := cell_below hu K21
  replace K30 := cell_below hu K30
  replace K31 := cell_below hu K31
  clear hu
  have HTp : Hid _ := hT.below (bl_alloc (Below.refl w4.heap.size w4) (.cells #[.slice a4' 2 c4', .slice b4' N d4'] 25))
  have Kp0 : (w4.alloc (.cells #[.slice a4' 2 c4', .slice b4' N d4'] 25)).cell? ⟨w4.heap.size, 0, none⟩ = some (.slice a4' 2 c4') := by simp
  have Kp1 : (w4.alloc (.cells #[.slice a4' 2 c4', .slice b4' N d4'] 25)).cell? ⟨w4.heap.size, 1, none⟩ = some (.slice b4' N d4') := by simp
  clear hb hT
  go_wp2_with fail
  refine (zadd c2 d2 c2 d2 (HE.out.below HB.out) HTb.out HTb.out (by omega)).mono ?_
  rintro e w5 ⟨a5', c5', b5', d5', rfl, hT, hb⟩
  have hu := bl_alloc hb (.cells #[.slice a5' 2 c5', .slice b5' n2 d5'] 25)
  replace HB : Hid _ := bl_trans HB.out hu
  replace HTa : Hid _ := HTa.out.below hu
  replace HTb : Hid _ := HTb.out.below hu
  replace HTc : Hid _ := HTc.out.below hu
  replace HTp : Hid _ := HTp.out.below hu
  replace K10 := cell_below hu K10
  replace K11 := cell_below hu K11
  replace K20 := cell_below hu K20
  replace K21 := cell_below hu K21
  replace K30 := cell_below hu K30
  replace K31 := cell_below hu K31
  replace Kp0 := cell_below hu Kp0
  replace Kp1 := cell_below hu Kp1
  clear hu
  have HTs : Hid _ := hT.below (bl_alloc (Below.refl w5.heap.size w5) (.cells #[.slice a5' 2 c5', .slice b5' n2 d5'] 25))
  have Ks0 : (w5.alloc (.cells #[.slice a5' 2 c5', .slice b5' n2 d5'] 25)).cell? ⟨w5.heap.size, 0, none⟩ = some (.slice a5' 2 c5') := by simp
  have Ks1 : (w5.alloc (.cells #[.slice a5' 2 c5', .slice b5' n2 d5'] 25)).cell? ⟨w5.heap.size, 1, none⟩ = some (.slice b5' n2 d5') := by simp
  clear hb hT
  go_wp2_with fail
  refine (zmm c1 d1 c5' d5' (HE.out.below HB.out) HTa.out HTs.out hpq hN (by omega)).mono ?_
  rintro e w6 ⟨a6', c6', b6', d6', rfl, hT, hb⟩
  have hu := bl_alloc hb (.cells #[.slice a6' 2 c6', .slice b6' N d6'] 25)
  replace HB : Hid _ := bl_trans HB.out hu
  replace HTa : Hid _ := HTa.out.below hu
  replace HTb : Hid _ := HTb.out.below hu
  replace HTc : Hid _ := HTc.out.below hu
  replace HTp : Hid _ := HTp.out.below hu
  replace HTs : Hid _ := HTs.out.below hu
  replace K10 := cell_below hu K10
  replace K11 := cell_below hu K11
  replace K20 := cell_below hu K20
  replace K21 := cell_below hu K21
  replace K30 := cell_below hu K30
  replace K31 := cell_below hu K31
  replace Kp0 := cell_below hu Kp0
  replace Kp1 := cell_below hu Kp1
  replace Ks0 := cell_below hu Ks0
  replace Ks1 := cell_below hu Ks1
  clear hu
  have HTq : Hid _ := hT.below (bl_alloc (Below.refl w6.heap.size w6) (.cells #[.slice a6' 2 c6', .slice b6' N d6'] 25))
  have Kq0 : (w6.alloc (.cells #[.slice a6' 2 c6', .slice b6' N d6'] 25)).cell? ⟨w6.heap.size, 0, none⟩ = some (.slice a6' 2 c6') := by simp
  have Kq1 : (w6.alloc (.cells #[.slice a6' 2 c6', .slice b6' N d6'] 25)).cell? ⟨w6.heap.size, 1, none⟩ = some (.slice b6' N d6') := by simp
  clear hb hT
  go_wp2_with fail
  refine (zadd c4' d4' c4' d4' (HE.out.below HB.out) HTp.out HTp.out (by omega)).mono ?_
  rintro e w7 ⟨a7', c7', b7', d7', rfl, hT, hb⟩
  have hu := bl_alloc hb (.cells #[.slice a7' 2 c7', .slice b7' N d7'] 25)
  replace HB : Hid _ := bl_trans HB.out hu
  replace HTa : Hid _ := HTa.out.below hu
  replace HTb : Hid _ := HTb.out.below hu
  replace HTc : Hid _ := HTc.out.below hu
  replace HTp : Hid _ := HTp.out.below hu
  replace HTs : Hid _ := HTs.out.below hu
  replace HTq : Hid _ := HTq.out.below hu
  replace K10 := cell_below hu K10
  replace K11 := cell_below hu K11
  replace K20 := cell_below hu K20
  replace K21 := cell_below hu K21
  replace K30 := cell_below hu K30
  replace K31 := cell_below hu K31
  replace Kp0 := cell_below hu Kp0
  replace Kp1 := cell_below hu Kp1
  replace Ks0 := cell_below hu Ks0
  replace Ks1 := cell_below hu Ks1
  replace Kq0 := cell_below hu Kq0
  replace Kq1 := cell_below hu Kq1
  clear hu
  have HTd : Hid _ := hT.below (bl_alloc (Below.refl w7.heap.size w7) (.cells #[.slice a7' 2 c7', .slice b7' N d7'] 25))
  have Kd0 : (w7.alloc (.cells #[.slice a7' 2 c7', .slice b7' N d7'] 25)).cell? ⟨w7.heap.size, 0, none⟩ = some (.slice a7' 2 c7') := by simp
  have Kd1 : (w7.alloc (.cells #[.slice a7' 2 c7', .slice b7' N d7'] 25)).cell? ⟨w7.heap.size, 1, none⟩ = some (.slice b7' N d7') := by simp
  clear hb hT
  go_wp2_with fail
  refine (zmm c4' d4' c3 d3 (HE.out.below HB.out) HTp.out HTc.out hpr hX hbx).mono ?_
  rintro e w8 ⟨a8', c8', b8', d8', rfl, hT, hb⟩
  have hu := bl_alloc hb (.cells #[.slice a8' 2 c8', .slice b8' X d8'] 25)
  replace HB : Hid _ := bl_trans HB.out hu
  replace HTa : Hid _ := HTa.out.below hu
  replace HTb : Hid _ := HTb.out.below hu
  replace HTc : Hid _ := HTc.out.below hu
  replace HTp : Hid _ := HTp.out.below hu
  replace HTs : Hid _ := HTs.out.below hu
  replace HTq : Hid _ := HTq.out.below hu
  replace HTd : Hid _ := HTd.out.below hu
  replace K10 := cell_below hu K10
  replace K11 := cell_below hu K11
  replace K20 := cell_below hu K20
  replace K21 := cell_below hu K21
  replace K30 := cell_below hu K30
  replace K31 := cell_below hu K31
  replace Kp0 := cell_below hu Kp0
  replace Kp1 := cell_below hu Kp1
  replace Ks0 := cell_below hu Ks0
  replace Ks1 := cell_below hu Ks1
  replace Kq0 := cell_below hu Kq0
  replace Kq1 := cell_below hu Kq1
  replace Kd0 := cell_below hu Kd0
  replace Kd1 := cell_below hu Kd1
  clear hu
  have HTx : Hid _ := hT.below (bl_alloc (Below.refl w8.heap.size w8) (.cells #[.slice a8' 2 c8', .slice b8' X d8'] 25))
  have Kx0 : (w8.alloc (.cells #[.slice a8' 2 c8', .slice b8' X d8'] 25)).cell? ⟨w8.heap.size, 0, none⟩ = some (.slice a8' 2 c8') := by simp
  have Kx1 : (w8.alloc (.cells #[.slice a8' 2 c8', .slice b8' X d8'] 25)).cell? ⟨w8.heap.size, 1, none⟩ = some (.slice b8' X d8') := by simp
  clear hb hT
  go_wp2_with fail
  refine (zmm c2 d2 c3 d3 (HE.out.below HB.out) HTb.out HTc.out hnr hY (by omega)).mono ?_
  rintro e w9 ⟨a9', c9', b9', d9', rfl, hT, hb⟩
  have hu := bl_alloc hb (.cells #[.slice a9' 2 c9', .slice b9' Y d9'] 25)
  replace HB : Hid _ := bl_trans HB.out hu
  replace HTa : Hid _ := HTa.out.below hu
  replace HTb : Hid _ := HTb.out.below hu
  replace HTc : Hid _ := HTc.out.below hu
  replace HTp : Hid _ := HTp.out.below hu
  replace HTs : Hid _ := HTs.out.below hu
  replace HTq : Hid _ := HTq.out.below hu
  replace HTd : Hid _ := HTd.out.below hu
  replace HTx : Hid _ := HTx.out.below hu
  replace K10 := cell_below hu K10
  replace K11 := cell_below hu K11
  replace K20 := cell_below hu K20
  replace K21 := cell_below hu K21
  replace K30 := cell_below hu K30
  replace K31 := cell_below hu K31
  replace Kp0 := cell_below hu Kp0
  replace Kp1 := cell_below hu Kp1
  replace Ks0 := cell_below hu Ks0
  replace Ks1 := cell_below hu Ks1
  replace Kq0 := cell_below hu Kq0
  replace Kq1 := cell_below hu Kq1
  replace Kd0 := cell_below hu Kd0
  replace Kd1 := cell_below hu Kd1
  replace Kx0 := cell_below hu Kx0
  replace Kx1 := cell_below hu Kx1
  clear hu
  have HTy : Hid _ := hT.below (bl_alloc (Below.refl w9.heap.size w9) (.cells #[.slice a9' 2 c9', .slice b9' Y d9'] 25))
  have Ky0 : (w9.alloc (.cells #[.slice a9' 2 c9', .slice b9' Y d9'] 25)).cell? ⟨w9.heap.size, 0, none⟩ = some (.slice a9' 2 c9') := by simp
  have Ky1 : (w9.alloc (.cells #[.slice a9' 2 c9', .slice b9' Y d9'] 25)).cell? ⟨w9.heap.size, 1, none⟩ = some (.slice b9' Y d9') := by simp
  clear hb hT
  go_wp2_with fail
  refine (zmm c1 d1 c9' d9' (HE.out.below HB.out) HTa.out HTy.out hpr hX hby).mono ?_
  rintro e w10 ⟨a10', c10', b10', d10', rfl, hT, hb⟩
  have hu := bl_alloc hb (.cells #[.slice a10' 2 c10', .slice b10' X d10'] 25)
  replace HB : Hid _ := bl_trans HB.out hu
  replace HTa : Hid _ := HTa.out.below hu
  replace HTb : Hid _ := HTb.out.below hu
  replace HTc : Hid _ := HTc.out.below hu
  replace HTp : Hid _ := HTp.out.below hu
  replace HTs : Hid _ := HTs.out.below hu
  replace HTq : Hid _ := HTq.out.below hu
  replace HTd : Hid _ := HTd.out.below hu
  replace HTx : Hid _ := HTx.out.below hu
  replace HTy : Hid _ := HTy.out.below hu
  replace K10 := cell_below hu K10
  replace K11 := cell_below hu K11
  replace K20 := cell_below hu K20
  replace K21 := cell_below hu K21
  replace K30 := cell_below hu K30
  replace K31 := cell_below hu K31
  replace Kp0 := cell_below hu Kp0
  replace Kp1 := cell_below hu Kp1
  replace Ks0 := cell_below hu Ks0
  replace Ks1 := cell_below hu Ks1
  replace Kq0 := cell_below hu Kq0
  replace Kq1 := cell_below hu Kq1
  replace Kd0 := cell_below hu Kd0
  replace Kd1 := cell_below hu Kd1
  replace Kx0 := cell_below hu Kx0
  replace Kx1 := cell_below hu Kx1
  replace Ky0 := cell_below hu Ky0
  replace Ky1 := cell_below hu Ky1
  clear hu
  have HTz : Hid _ := hT.below (bl_alloc (Below.refl w10.heap.size w10) (.cells #[.slice a10' 2 c10', .slice b10' X d10'] 25))
  have Kz0 : (w10.alloc (.cells #[.slice a10' 2 c10', .slice b10' X d10'] 25)).cell? ⟨w10.heap.size, 0, none⟩ = some (.slice a10' 2 c10') := by simp
  have Kz1 : (w10.alloc (.cells #[.slice a10' 2 c10', .slice b10' X d10'] 25)).cell? ⟨w10.heap.size, 1, none⟩ = some (.slice b10' X d10') := by simp
  clear hb hT
  go_wp2_with fail
  refine (zeq c6' d6' c7' d7' HTq.out HTd.out (mm_add p qs HL.out HL.out)).mono ?_
  rintro e w11 ⟨rfl, hb⟩
  have hu := hb
  replace HB : Hid _ := bl_trans HB.out hu
  replace HTa : Hid _ := HTa.out.below hu
  replace HTb : Hid _ := HTb.out.below hu
  replace HTc : Hid _ := HTc.out.below hu
  replace HTp : Hid _ := HTp.out.below hu
  replace HTs : Hid _ := HTs.out.below hu
  replace HTq : Hid _ := HTq.out.below hu
  replace HTd : Hid _ := HTd.out.below hu
  replace HTx : Hid _ := HTx.out.below hu
  replace HTy : Hid _ := HTy.out.below hu
  replace HTz : Hid _ := HTz.out.below hu
  replace K10 := cell_below hu K10
  replace K11 := cell_below hu K11
  replace K20 := cell_below hu K20
  replace K21 := cell_below hu K21
  replace K30 := cell_below hu K30
  replace K31 := cell_below hu K31
  replace Kp0 := cell_below hu Kp0
  replace Kp1 := cell_below hu Kp1
  replace Ks0 := cell_below hu Ks0
  replace Ks1 := cell_below hu Ks1
  replace Kq0 := cell_below hu Kq0
  replace Kq1 := cell_below hu Kq1
  replace Kd0 := cell_below hu Kd0
  replace Kd1 := cell_below hu Kd1
  replace Kx0 := cell_below hu Kx0
  replace Kx1 := cell_below hu Kx1
  replace Ky0 := cell_below hu Ky0
  replace Ky1 := cell_below hu Ky1
  replace Kz0 := cell_below hu Kz0
  replace Kz1 := cell_below hu Kz1
  clear hu
  clear hb
  go_wp2_with fail
  refine (zeq c8' d8' c10' d10' HTx.out HTz.out (mm_assoc p n q r qs rs ts)).mono ?_
  rintro e w12 ⟨rfl, hb⟩
  have hu := hb
  replace HB : Hid _ := bl_trans HB.out hu
  replace HTa : Hid _ := HTa.out.below hu
  replace HTb : Hid _ := HTb.out.below hu
  replace HTc : Hid _ := HTc.out.below hu
  replace HTp : Hid _ := HTp.out.below hu
  replace HTs : Hid _ := HTs.out.below hu
  replace HTq : Hid _ := HTq.out.below hu
  replace HTd : Hid _ := HTd.out.below hu
  replace HTx : Hid _ := HTx.out.below hu
  replace HTy : Hid _ := HTy.out.below hu
  replace HTz : Hid _ := HTz.out.below hu
  replace K10 := cell_below hu K10
  replace K11 := cell_below hu K11
  replace K20 := cell_below hu K20
  replace K21 := cell_below hu K21
  replace K30 := cell_below hu K30
  replace K31 := cell_below hu K31
  replace Kp0 := cell_below hu Kp0
  replace Kp1 := cell_below hu Kp1
  replace Ks0 := cell_below hu Ks0
  replace Ks1 := cell_below hu Ks1
  replace Kq0 := cell_below hu Kq0
  replace Kq1 := cell_below hu Kq1
  replace Kd0 := cell_below hu Kd0
  replace Kd1 := cell_below hu Kd1
  replace Kx0 := cell_below hu Kx0
  replace Kx1 := cell_below hu Kx1
  replace Ky0 := cell_below hu Ky0
  replace Ky1 := cell_below hu Ky1
  replace Kz0 := cell_below hu Kz0
  replace Kz1 := cell_below hu Kz1
  clear hu
  clear hb
  go_wp2_with fail
  refine (awake_any aF aZ _ (HE.out.below HB.out)).mono ?_
  rintro e w13 ⟨rfl, hb⟩
  have hu := hb
  replace HB : Hid _ := bl_trans HB.out hu
  replace HTa : Hid _ := HTa.out.below hu
  replace HTb : Hid _ := HTb.out.below hu
  replace HTc : Hid _ := HTc.out.below hu
  replace HTp : Hid _ := HTp.out.below hu
  replace HTs : Hid _ := HTs.out.below hu
  replace HTq : Hid _ := HTq.out.below hu
  replace HTd : Hid _ := HTd.out.below hu
  replace HTx : Hid _ := HTx.out.below hu
  replace HTy : Hid _ := HTy.out.below hu
  replace HTz : Hid _ := HTz.out.below hu
  replace K10 := cell_below hu K10
  replace K11 := cell_below hu K11
  replace K20 := cell_below hu K20
  replace K21 := cell_below hu K21
  replace K30 := cell_below hu K30
  replace K31 := cell_below hu K31
  replace Kp0 := cell_below hu Kp0
  replace Kp1 := cell_below hu Kp1
  replace Ks0 := cell_below hu Ks0
  replace Ks1 := cell_below hu Ks1
  replace Kq0 := cell_below hu Kq0
  replace Kq1 := cell_below hu Kq1
  replace Kd0 := cell_below hu Kd0
  replace Kd1 := cell_below hu Kd1
  replace Kx0 := cell_below hu Kx0
  replace Kx1 := cell_below hu Kx1
  replace Ky0 := cell_below hu Ky0
  replace Ky1 := cell_below hu Ky1
  replace Kz0 := cell_below hu Kz0
  replace Kz1 := cell_below hu Kz1
  clear hu
  clear hb
  go_wp2
  go_ret
  exact ⟨rfl, HB.out⟩
end Go.Proofs.YtbfboippaejnmaaGreatDoor.Tn
