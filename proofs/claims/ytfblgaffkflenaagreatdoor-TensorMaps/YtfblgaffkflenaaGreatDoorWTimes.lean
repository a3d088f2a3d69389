/-
  THE WALK OF TensorTimes. Conditions: what the arguments hold.
-/
import Derived.Test.YtfblgaffkflenaaGreatDoorWPowers
namespace Go.Proofs.YtfblgaffkflenaaGreatDoor.Tn
set_option maxRecDepth 100000
open Go.RowKit Nm
set_option linter.unusedVariables false

set_option maxHeartbeats 4000000 in
theorem times_long1 (a1 b1 a2 b2 a3 b3 : Option Addr) (c1 d1 m1 n1 c2 d2 m2 n2 c3 d3 m3 n3 : Nat) (aF aZ : Addr) (w : World) (hE : Er w aF aZ)
    (hS1 : ∀ v, Below w.heap.size w v → Calls Tryz.prog 12 #[.agg #[.slice a1 m1 c1, .slice b1 n1 d1]] v fun e w' => e = .returned (.bool false) ∧ Below v.heap.size v w') :
    Calls Tryz.prog 8 #[.agg #[.slice a1 m1 c1, .slice b1 n1 d1], .agg #[.slice a2 m2 c2, .slice b2 n2 d2], .agg #[.slice a3 m3 c3, .slice b3 n3 d3]] w fun e w' => e = .returned (.bool true) ∧ Below w.heap.size w w' := by
  have HE : Hid _ := hE
  clear hE
  have HB : Hid (Below w.heap.size w w) := Below.refl _ _
  have hu := bl_alloc (Below.refl w.heap.size w) (.cells #[.slice a1 m1 c1, .slice b1 n1 d1] 25)
  replace HB : Hid _ := bl_trans HB.out hu
  clear hu
  have K10 : (w.alloc (.cells #[.slice a1 m1 c1, .slice b1 n1 d1] 25)).cell? ⟨w.heap.size, 0, none⟩ = some (.slice a1 m1 c1) := by first | rw [World.cell?_alloc_at _ _ _ _ (by simp)]; rfl | simp
  have K11 : (w.alloc (.cells #[.slice a1 m1 c1, .slice b1 n1 d1] 25)).cell? ⟨w.heap.size, 1, none⟩ = some (.slice b1 n1 d1) := by first | rw [World.cell?_alloc_at _ _ _ _ (by simp)]; rfl | simp
  have hu := bl_alloc (Below.refl (w.alloc (.cells #[.slice a1 m1 c1, .slice b1 n1 d1] 25)).heap.size (w.alloc (.cells #[.slice a1 m1 c1, .slice b1 n1 d1] 25))) (.cells #[.slice a2 m2 c2, .slice b2 n2 d2] 25)
  replace HB : Hid _ := bl_trans HB.out hu
  replace K10 := cell_below hu K10
  replace K11 := cell_below hu K11
  clear hu
  have K20 : ((w.alloc (.cells #[.slice a1 m1 c1, .slice b1 n1 d1] 25)).alloc (.cells #[.slice a2 m2 c2, .slice b2 n2 d2] 25)).cell? ⟨w.heap.size + 1, 0, none⟩ = some (.slice a2 m2 c2) := by first | rw [World.cell?_alloc_at _ _ _ _ (by simp)]; rfl | simp
  have K21 : ((w.alloc (.cells #[.slice a1 m1 c1, .slice b1 n1 d1] 25)).alloc (.cells #[.slice a2 m2 c2, .slice b2 n2 d2] 25)).cell? ⟨w.heap.size + 1, 1, none⟩ = some (.slice b2 n2 d2) := by first | rw [World.cell?_alloc_at _ _ _ _ (by simp)]; rfl | simp
  have hu := bl_alloc (Below.refl ((w.alloc (.cells #[.slice a1 m1 c1, .slice b1 n1 d1] 25)).alloc (.cells #[.slice a2 m2 c2, .slice b2 n2 d2] 25)).heap.size ((w.alloc (.cells #[.slice a1 m1 c1, .slice b1 n1 d1] 25)).alloc (.cells #[.slice a2 m2 c2, .slice b2 n2 d2] 25))) (.cells #[.slice a3 m3 c3, .slice b3 n3 d3] 25)
  replace HB : Hid _ := bl_trans HB.out hu
  replace K10 := cell_below hu K10
  replace K11 := cell_below hu K11
  replace K20 := cell_below hu K20
  replace K21 := cell_below hu K21
  clear hu
  have K30 : (((w.alloc (.cells #[.slice a1 m1 c1, .slice b1 n1 d1] 25)).alloc (.cells #[.slice a2 m2 c2, .slice b2 n2 d2] 25)).alloc (.cells #[.slice a3 m3 c3, .slice b3 n3 d3] 25)).cell? ⟨w.heap.size + 1 + 1, 0, none⟩ = some (.slice a3 m3 c3) := by first | rw [World.cell?_alloc_at _ _ _ _ (by simp)]; rfl | simp
  have K31 : (((w.alloc (.cells #[.slice a1 m1 c1, .slice b1 n1 d1] 25)).alloc (.cells #[.slice a2 m2 c2, .slice b2 n2 d2] 25)).alloc (.cells #[.slice a3 m3 c3, .slice b3 n3 d3] 25)).cell? ⟨w.heap.size + 1 + 1, 1, none⟩ = some (.slice b3 n3 d3) := by first | rw [World.cell?_alloc_at _ _ _ _ (by simp)]; rfl | simp
  go_enter Tryz.func8, Tryz.ntmps8
  go_wp2_with fail
  refine (hS1 _ HB.out).mono ?_
  rintro e w1 ⟨rfl, hb⟩
  have hu := hb
  replace HB : Hid _ := bl_trans HB.out hu
  replace K10 := cell_below hu K10
  replace K11 := cell_below hu K11
  replace K20 := cell_below hu K20
  replace K21 := cell_below hu K21
  replace K30 := cell_below hu K30
  replace K31 := cell_below hu K31
  clear hu
  clear hb
  go_wp2_with fail
  refine (awake_any aF aZ _ (HE.out.below HB.out)).mono ?_
  rintro e w2 ⟨rfl, hb⟩
  have hu := hb
  replace HB : Hid _ := bl_trans HB.out hu
  replace K10 := cell_below hu K10
  replace K11 := cell_below hu K11
  replace K20 := cell_below hu K20
  replace K21 := cell_below hu K21
  replace K30 := cell_below hu K30
  replace K31 := cell_below hu K31
  clear hu
  clear hb
  go_wp2
  go_ret
  exact ⟨rfl, HB.out⟩

set_option maxHeartbeats 4000000 in
theorem times_long2 (a1 b1 a2 b2 a3 b3 : Option Addr) (c1 d1 m1 n1 c2 d2 m2 n2 c3 d3 m3 n3 : Nat) (aF aZ : Addr) (w : World) (hE : Er w aF aZ)
    (hS1 : ∀ v, Below w.heap.size w v → Calls Tryz.prog 12 #[.agg #[.slice a1 m1 c1, .slice b1 n1 d1]] v fun e w' => e = .returned (.bool true) ∧ Below v.heap.size v w')
    (hS2 : ∀ v, Below w.heap.size w v → Calls Tryz.prog 12 #[.agg #[.slice a2 m2 c2, .slice b2 n2 d2]] v fun e w' => e = .returned (.bool false) ∧ Below v.heap.size v w') :
    Calls Tryz.prog 8 #[.agg #[.slice a1 m1 c1, .slice b1 n1 d1], .agg #[.slice a2 m2 c2, .slice b2 n2 d2], .agg #[.slice a3 m3 c3, .slice b3 n3 d3]] w fun e w' => e = .returned (.bool true) ∧ Below w.heap.size w w' := by
  have HE : Hid _ := hE
  clear hE
  have HB : Hid (Below w.heap.size w w) := Below.refl _ _
  have hu := bl_alloc (Below.refl w.heap.size w) (.cells #[.slice a1 m1 c1, .slice b1 n1 d1] 25)
  replace HB : Hid _ := bl_trans HB.out hu
  clear hu
  have K10 : (w.alloc (.cells #[.slice a1 m1 c1, .slice b1 n1 d1] 25)).cell? ⟨w.heap.size, 0, none⟩ = some (.slice a1 m1 c1) := by first | rw [World.cell?_alloc_at _ _ _ _ (by simp)]; rfl | simp
  have K11 : (w.alloc (.cells #[.slice a1 m1 c1, .slice b1 n1 d1] 25)).cell? ⟨w.heap.size, 1, none⟩ = some (.slice b1 n1 d1) := by first | rw [World.cell?_alloc_at _ _ _ _ (by simp)]; rfl | simp
  have hu := bl_alloc (Below.refl (w.alloc (.cells #[.slice a1 m1 c1, .slice b1 n1 d1] 25)).heap.size (w.alloc (.cells #[.slice a1 m1 c1, .slice b1 n1 d1] 25))) (.cells #[.slice a2 m2 c2, .slice b2 n2 d2] 25)
  replace HB : Hid _ := bl_trans HB.out hu
  replace K10 := cell_below hu K10
  replace K11 := cell_below hu K11
  clear hu
  have K20 : ((w.alloc (.cells #[.slice a1 m1 c1, .slice b1 n1 d1] 25)).alloc (.cells #[.slice a2 m2 c2, .slice b2 n2 d2] 25)).cell? ⟨w.heap.size + 1, 0, none⟩ = some (.slice a2 m2 c2) := by first | rw [World.cell?_alloc_at _ _ _ _ (by simp)]; rfl | simp
  have K21 : ((w.alloc (.cells #[.slice a1 m1 c1, .slice b1 n1 d1] 25)).alloc (.cells #[.slice a2 m2 c2, .slice b2 n2 d2] 25)).cell? ⟨w.heap.size + 1, 1, none⟩ = some (.slice b2 n2 d2) := by first | rw [World.cell?_alloc_at _ _ _ _ (by simp)]; rfl | simp
  have hu := bl_alloc (Below.refl ((w.alloc (.cells #[.slice a1 m1 c1, .slice b1 n1 d1] 25)).alloc (.cells #[.slice a2 m2 c2, .slice b2 n2 d2] 25)).heap.size ((w.alloc (.cells #[.slice a1 m1 c1, .slice b1 n1 d1] 25)).alloc (.cells #[.slice a2 m2 c2, .slice b2 n2 d2] 25))) (.cells #[.slice a3 m3 c3, .slice b3 n3 d3] 25)
  replace HB : Hid _ := bl_trans HB.out hu
  replace K10 := cell_below hu K10
  replace K11 := cell_below hu K11
  replace K20 := cell_below hu K20
  replace K21 := cell_below hu K21
  clear hu
  have K30 : (((w.alloc (.cells #[.slice a1 m1 c1, .slice b1 n1 d1] 25)).alloc (.cells #[.slice a2 m2 c2, .slice b2 n2 d2] 25)).alloc (.cells #[.slice a3 m3 c3, .slice b3 n3 d3] 25)).cell? ⟨w.heap.size + 1 + 1, 0, none⟩ = some (.slice a3 m3 c3) := by first | rw [World.cell?_alloc_at _ _ _ _ (by simp)]; rfl | simp
  have K31 : (((w.alloc (.cells #[.slice a1 m1 c1, .slice b1 n1 d1] 25)).alloc (.cells #[.slice a2 m2 c2, .slice b2 n2 d2] 25)).alloc (.cells #[.slice a3 m3 c3, .slice b3 n3 d3] 25)).cell? ⟨w.heap.size + 1 + 1, 1, none⟩ = some (.slice b3 n3 d3) := by first | rw [World.cell?_alloc_at _ _ _ _ (by simp)]; rfl | simp
  go_enter Tryz.func8, Tryz.ntmps8
  go_wp2_with fail
  refine (hS1 _ HB.out).mono ?_
  rintro e w1 ⟨rfl, hb⟩
  have hu := hb
  replace HB : Hid _ := bl_trans HB.out hu
  replace K10 := cell_below hu K10
  replace K11 := cell_below hu K11
  replace K20 := cell_below hu K20
  replace K21 := cell_below hu K21
  replace K30 := cell_below hu K30
  replace K31 := cell_below hu K31
  clear hu
  clear hb
  go_wp2_with fail
  refine (hS2 _ HB.out).mono ?_
  rintro e w2 ⟨rfl, hb⟩
  have hu := hb
  replace HB : Hid _ := bl_trans HB.out hu
  replace K10 := cell_below hu K10
  replace K11 := cell_below hu K11
  replace K20 := cell_below hu K20
  replace K21 := cell_below hu K21
  replace K30 := cell_below hu K30
  replace K31 := cell_below hu K31
  clear hu
  clear hb
  go_wp2_with fail
  refine (awake_any aF aZ _ (HE.out.below HB.out)).mono ?_
  rintro e w3 ⟨rfl, hb⟩
  have hu := hb
  replace HB : Hid _ := bl_trans HB.out hu
  replace K10 := cell_below hu K10
  replace K11 := cell_below hu K11
  replace K20 := cell_below hu K20
  replace K21 := cell_below hu K21
  replace K30 := cell_below hu K30
  replace K31 := cell_below hu K31
  clear hu
  clear hb
  go_wp2
  go_ret
  exact ⟨rfl, HB.out⟩

set_option maxHeartbeats 4000000 in
theorem times_long3 (a1 b1 a2 b2 a3 b3 : Option Addr) (c1 d1 m1 n1 c2 d2 m2 n2 c3 d3 m3 n3 : Nat) (aF aZ : Addr) (w : World) (hE : Er w aF aZ)
    (hS1 : ∀ v, Below w.heap.size w v → Calls Tryz.prog 12 #[.agg #[.slice a1 m1 c1, .slice b1 n1 d1]] v fun e w' => e = .returned (.bool true) ∧ Below v.heap.size v w')
    (hS2 : ∀ v, Below w.heap.size w v → Calls Tryz.prog 12 #[.agg #[.slice a2 m2 c2, .slice b2 n2 d2]] v fun e w' => e = .returned (.bool true) ∧ Below v.heap.size v w')
    (hS3 : ∀ v, Below w.heap.size w v → Calls Tryz.prog 12 #[.agg #[.slice a3 m3 c3, .slice b3 n3 d3]] v fun e w' => e = .returned (.bool false) ∧ Below v.heap.size v w') :
    Calls Tryz.prog 8 #[.agg #[.slice a1 m1 c1, .slice b1 n1 d1], .agg #[.slice a2 m2 c2, .slice b2 n2 d2], .agg #[.slice a3 m3 c3, .slice b3 n3 d3]] w fun e w' => e = .returned (.bool true) ∧ Below w.heap.size w w' := by
  have HE : Hid _ := hE
  clear hE
  have HB : Hid (Below w.heap.size w w) := Below.refl _ _
  have hu := bl_alloc (Below.refl w.heap.size w) (.cells #[.slice a1 m1 c1, .slice b1 n1 d1] 25)
  replace HB : Hid _ := bl_trans HB.out hu
  clear hu
  have K10 : (w.alloc (.cells #[.slice a1 m1 c1, .slice b1 n1 d1] 25)).cell? ⟨w.heap.size, 0, none⟩ = some (.slice a1 m1 c1) := by first | rw [World.cell?_alloc_at _ _ _ _ (by simp)]; rfl | simp
  have K11 : (w.alloc (.cells #[.slice a1 m1 c1, .slice b1 n1 d1] 25)).cell? ⟨w.heap.size, 1, none⟩ = some (.slice b1 n1 d1) := by first | rw [World.cell?_alloc_at _ _ _ _ (by simp)]; rfl | simp
  have hu := bl_alloc (Below.refl (w.alloc (.cells #[.slice a1 m1 c1, .slice b1 n1 d1] 25)).heap.size (w.alloc (.cells #[.slice a1 m1 c1, .slice b1 n1 d1] 25))) (.cells #[.slice a2 m2 c2, .slice b2 n2 d2] 25)
  replace HB : Hid _ := bl_trans HB.out hu
  replace K10 := cell_below hu K10
  replace K11 := cell_below hu K11
  clear hu
  have K20 : ((w.alloc (.cells #[.slice a1 m1 c1, .slice b1 n1 d1] 25)).alloc (.cells #[.slice a2 m2 c2, .slice b2 n2 d2] 25)).cell? ⟨w.heap.size + 1, 0, none⟩ = some (.slice a2 m2 c2) := by first | rw [World.cell?_alloc_at _ _ _ _ (by simp)]; rfl | simp
  have K21 : ((w.alloc (.cells #[.slice a1 m1 c1, .slice b1 n1 d1] 25)).alloc (.cells #[.slice a2 m2 c2, .slice b2 n2 d2] 25)).cell? ⟨w.heap.size + 1, 1, none⟩ = some (.slice b2 n2 d2) := by first | rw [World.cell?_alloc_at _ _ _ _ (by simp)]; rfl | simp
  have hu := bl_alloc (Below.refl ((w.alloc (.cells #[.slice a1 m1 c1, .slice b1 n1 d1] 25)).alloc (.cells #[.slice a2 m2 c2, .slice b2 n2 d2] 25)).heap.size ((w.alloc (.cells #[.slice a1 m1 c1, .slice b1 n1 d1] 25)).alloc (.cells #[.slice a2 m2 c2, .slice b2 n2 d2] 25))) (.cells #[.slice a3 m3 c3, .slice b3 n3 d3] 25)
  replace HB : Hid _ := bl_trans HB.out hu
  replace K10 := cell_below hu K10
  replace K11 := cell_below hu K11
  replace K20 := cell_below hu K20
  replace K21 := cell_below hu K21
  clear hu
  have K30 : (((w.alloc (.cells #[.slice a1 m1 c1, .slice b1 n1 d1] 25)).alloc (.cells #[.slice a2 m2 c2, .slice b2 n2 d2] 25)).alloc (.cells #[.slice a3 m3 c3, .slice b3 n3 d3] 25)).cell? ⟨w.heap.size + 1 + 1, 0, none⟩ = some (.slice a3 m3 c3) := by first | rw [World.cell?_alloc_at _ _ _ _ (by simp)]; rfl | simp
  have K31 : (((w.alloc (.cells #[.slice a1 m1 c1, .slice b1 n1 d1] 25)).alloc (.cells #[.slice a2 m2 c2, .slice b2 n2 d2] 25)).alloc (.cells #[.slice a3 m3 c3, .slice b3 n3 d3] 25)).cell? ⟨w.heap.size + 1 + 1, 1, none⟩ = some (.slice b3 n3 d3) := by first | rw [World.cell?_alloc_at _ _ _ _ (by simp)]; rfl | simp
  go_enter Tryz.func8, Tryz.ntmps8
  go_wp2_with fail
  refine (hS1 _ HB.out).mono ?_
  rintro e w1 ⟨rfl, hb⟩
  have hu := hb
  replace HB : Hid _ := bl_trans HB.out hu
  replace K10 := cell_below hu K10
  replace K11 := cell_below hu K11
  replace K20 := cell_below hu K20
  replace K21 := cell_below hu K21
  replace K30 := cell_below hu K30
  replace K31 := cell_below hu K31
  clear hu
  clear hb
  go_wp2_with fail
  refine (hS2 _ HB.out).mono ?_
  rintro e w2 ⟨rfl, hb⟩
  have hu := hb
  replace HB : Hid _ := bl_trans HB.out hu
  replace K10 := cell_below hu K10
  replace K11 := cell_below hu K11
  replace K20 := cell_below hu K20
  replace K21 := cell_below hu K21
  replace K30 := cell_below hu K30
  replace K31 := cell_below hu K31
  clear hu
  clear hb
  go_wp2_with fail
  refine (hS3 _ HB.out).mono ?_
  rintro e w3 ⟨rfl, hb⟩
  have hu := hb
  replace HB : Hid _ := bl_trans HB.out hu
  replace K10 := cell_below hu K10
  replace K11 := cell_below hu K11
  replace K20 := cell_below hu K20
  replace K21 := cell_below hu K21
  replace K30 := cell_below hu K30
  replace K31 := cell_below hu K31
  clear hu
  clear hb
  go_wp2_with fail
  refine (awake_any aF aZ _ (HE.out.below HB.out)).mono ?_
  rintro e w4 ⟨rfl, hb⟩
  have hu := hb
  replace HB : Hid _ := bl_trans HB.out hu
  replace K10 := cell_below hu K10
  replace K11 := cell_below hu K11
  replace K20 := cell_below hu K20
  replace K21 := cell_below hu K21
  replace K30 := cell_below hu K30
  replace K31 := cell_below hu K31
  clear hu
  clear hb
  go_wp2
  go_ret
  exact ⟨rfl, HB.out⟩

set_option maxHeartbeats 4000000 in
theorem times_no1 (a1 b1 a2 b2 a3 b3 : Option Addr) (c1 d1 m1 n1 c2 d2 m2 n2 c3 d3 m3 n3 : Nat) (er er2 : Int) (aF aZ : Addr) (w : World) (hE : Er w aF aZ)
    (hS1 : ∀ v, Below w.heap.size w v → Calls Tryz.prog 12 #[.agg #[.slice a1 m1 c1, .slice b1 n1 d1]] v fun e w' => e = .returned (.bool true) ∧ Below v.heap.size v w')
    (hS2 : ∀ v, Below w.heap.size w v → Calls Tryz.prog 12 #[.agg #[.slice a2 m2 c2, .slice b2 n2 d2]] v fun e w' => e = .returned (.bool true) ∧ Below v.heap.size v w')
    (hS3 : ∀ v, Below w.heap.size w v → Calls Tryz.prog 12 #[.agg #[.slice a3 m3 c3, .slice b3 n3 d3]] v fun e w' => e = .returned (.bool true) ∧ Below v.heap.size v w')
    (hZ1 : ∀ v, Below w.heap.size w v → Calls Tryz.prog 14 #[.string sAdd, .agg #[.slice a2 m2 c2, .slice b2 n2 d2], .agg #[.slice a3 m3 c3, .slice b3 n3 d3]] v fun e w' => e = .returned (noTensor er) ∧ Below v.heap.size v w')
    (hZ2 : ∀ v, Below w.heap.size w v → Calls Tryz.prog 14 #[.string sMul, .agg #[.slice a1 m1 c1, .slice b1 n1 d1], .agg #[.slice none 0 0, .slice none 0 0]] v fun e w' => e = .returned (noTensor er2) ∧ Below v.heap.size v w') (hne : (er != 0) = true) :
    Calls Tryz.prog 8 #[.agg #[.slice a1 m1 c1, .slice b1 n1 d1], .agg #[.slice a2 m2 c2, .slice b2 n2 d2], .agg #[.slice a3 m3 c3, .slice b3 n3 d3]] w fun e w' => e = .returned (.bool true) ∧ Below w.heap.size w w' := by
  have HE : Hid _ := hE
  clear hE
  have HB : Hid (Below w.heap.size w w) := Below.refl _ _
  have hu := bl_alloc (Below.refl w.heap.size w) (.cells #[.slice a1 m1 c1, .slice b1 n1 d1] 25)
  replace HB : Hid _ := bl_trans HB.out hu
  clear hu
  have K10 : (w.alloc (.cells #[.slice a1 m1 c1, .slice b1 n1 d1] 25)).cell? ⟨w.heap.size, 0, none⟩ = some (.slice a1 m1 c1) := by first | rw [World.cell?_alloc_at _ _ _ _ (by simp)]; rfl | simp
  have K11 : (w.alloc (.cells #[.slice a1 m1 c1, .slice b1 n1 d1] 25)).cell? ⟨w.heap.size, 1, none⟩ = some (.slice b1 n1 d1) := by first | rw [World.cell?_alloc_at _ _ _ _ (by simp)]; rfl | simp
  have hu := bl_alloc (Below.refl (w.alloc (.cells #[.slice a1 m1 c1, .slice b1 n1 d1] 25)).heap.size (w.alloc (.cells #[.slice a1 m1 c1, .slice b1 n1 d1] 25))) (.cells #[.slice a2 m2 c2, .slice b2 n2 d2] 25)
  replace HB : Hid _ := bl_trans HB.out hu
  replace K10 := cell_below hu K10
  replace K11 := cell_below hu K11
  clear hu
  have K20 : ((w.alloc (.cells #[.slice a1 m1 c1, .slice b1 n1 d1] 25)).alloc (.cells #[.slice a2 m2 c2, .slice b2 n2 d2] 25)).cell? ⟨w.heap.size + 1, 0, none⟩ = some (.slice a2 m2 c2) := by first | rw [World.cell?_alloc_at _ _ _ _ (by simp)]; rfl | simp
  have K21 : ((w.alloc (.cells #[.slice a1 m1 c1, .slice b1 n1 d1] 25)).alloc (.cells #[.slice a2 m2 c2, .slice b2 n2 d2] 25)).cell? ⟨w.heap.size + 1, 1, none⟩ = some (.slice b2 n2 d2) := by first | rw [World.cell?_alloc_at _ _ _ _ (by simp)]; rfl | simp
  have hu := bl_alloc (Below.refl ((w.alloc (.cells #[.slice a1 m1 c1, .slice b1 n1 d1] 25)).alloc (.cells #[.slice a2 m2 c2, .slice b2 n2 d2] 25)).heap.size ((w.alloc (.cells #[.slice a1 m1 c1, .slice b1 n1 d1] 25)).alloc (.cells #[.slice a2 m2 c2, .slice b2 n2 d2] 25))) (.cells #[.slice a3 m3 c3, .slice b3 n3 d3] 25)
  replace HB : Hid _ := bl_trans HB.out hu
  replace K10 := cell_below hu K10
  replace K11 := cell_below hu K11
  replace K20 := cell_below hu K20
  replace K21 := cell_below hu K21
  clear hu
  have K30 : (((w.alloc (.cells #[.slice a1 m1 c1, .slice b1 n1 d1] 25)).alloc (.cells #[.slice a2 m2 c2, .slice b2 n2 d2] 25)).alloc (.cells #[.slice a3 m3 c3, .slice b3 n3 d3] 25)).cell? ⟨w.heap.size + 1 + 1, 0, none⟩ = some (.slice a3 m3 c3) := by first | rw [World.cell?_alloc_at _ _ _ _ (by simp)]; rfl | simp
  have K31 : (((w.alloc (.cells #[.slice a1 m1 c1, .slice b1 n1 d1] 25)).alloc (.cells #[.slice a2 m2 c2, .slice b2 n2 d2] 25)).alloc (.cells #[.slice a3 m3 c3, .slice b3 n3 d3] 25)).cell? ⟨w.heap.size + 1 + 1, 1, none⟩ = some (.slice b3 n3 d3) := by first | rw [World.cell?_alloc_at _ _ _ _ (by simp)]; rfl | simp
  go_enter Tryz.func8, Tryz.ntmps8
  go_wp2_with fail
  refine (hS1 _ HB.out).mono ?_
  rintro e w1 ⟨rfl, hb⟩
  have hu := hb
  replace HB : Hid _ := bl_trans HB.out hu
  replace K10 := cell_below hu K10
  replace K11 := cell_below hu K11
  replace K20 := cell_below hu K20
  replace K21 := cell_below hu K21
  replace K30 := cell_below hu K30
  replace K31 := cell_below hu K31
  clear hu
  clear hb
  go_wp2_with fail
  refine (hS2 _ HB.out).mono ?_
  rintro e w2 ⟨rfl, hb⟩
  have hu := hb
  replace HB : Hid _ := bl_trans HB.out hu
  replace K10 := cell_below hu K10
  replace K11 := cell_below hu K11
  replace K20 := cell_below hu K20
  replace K21 := cell_below hu K21
  replace K30 := cell_below hu K30
  replace K31 := cell_below hu K31
  clear hu
  clear hb
  go_wp2_with fail
  refine (hS3 _ HB.out).mono ?_
  rintro e w3 ⟨rfl, hb⟩
  have hu := hb
  replace HB : Hid _ := bl_trans HB.out hu
  replace K10 := cell_below hu K10
  replace K11 := cell_below hu K11
  replace K20 := cell_below hu K20
  replace K21 := cell_below hu K21
  replace K30 := cell_below hu K30
  replace K31 := cell_below hu K31
  clear hu
  clear hb
  go_wp2_with fail
  refine (hZ1 _ HB.out).mono ?_
  rintro e w4 ⟨rfl, hb⟩
  have hu := bl_alloc hb (.cells #[.slice none 0 0, .slice none 0 0] 25)
  replace HB : Hid _ := bl_trans HB.out hu
  replace K10 := cell_below hu K10
  replace K11 := cell_below hu K11
  replace K20 := cell_below hu K20
  replace K21 := cell_below hu K21
  replace K30 := cell_below hu K30
  replace K31 := cell_below hu K31
  clear hu
  have Ks0 : (w4.alloc (.cells #[.slice none 0 0, .slice none 0 0] 25)).cell? ⟨w4.heap.size, 0, none⟩ = some (.slice none 0 0) := by simp
  have Ks1 : (w4.alloc (.cells #[.slice none 0 0, .slice none 0 0] 25)).cell? ⟨w4.heap.size, 1, none⟩ = some (.slice none 0 0) := by simp
  clear hb
  go_wp2_with fail
  refine (hZ2 _ HB.out).mono ?_
  rintro e w5 ⟨rfl, hb⟩
  have hu := bl_alloc hb (.cells #[.slice none 0 0, .slice none 0 0] 25)
  replace HB : Hid _ := bl_trans HB.out hu
  replace K10 := cell_below hu K10
  replace K11 := cell_below hu K11
  replace K20 := cell_below hu K20
  replace K21 := cell_below hu K21
  replace K30 := cell_below hu K30
  replace K31 := cell_below hu K31
  replace Ks0 := cell_below hu Ks0
  replace Ks1 := cell_below hu Ks1
  clear hu
  have Kp0 : (w5.alloc (.cells #[.slice none 0 0, .slice none 0 0] 25)).cell? ⟨w5.heap.size, 0, none⟩ = some (.slice none 0 0) := by simp
  have Kp1 : (w5.alloc (.cells #[.slice none 0 0, .slice none 0 0] 25)).cell? ⟨w5.heap.size, 1, none⟩ = some (.slice none 0 0) := by simp
  clear hb
  go_wp2_with fail
  refine (awake_any aF aZ _ (HE.out.below HB.out)).mono ?_
  rintro e w6 ⟨rfl, hb⟩
  have hu := hb
  replace HB : Hid _ := bl_trans HB.out hu
  replace K10 := cell_below hu K10
  replace K11 := cell_below hu K11
  replace K20 := cell_below hu K20
  replace K21 := cell_below hu K21
  replace K30 := cell_below hu K30
  replace K31 := cell_below hu K31
  replace Ks0 := cell_below hu Ks0
  replace Ks1 := cell_below hu Ks1
  replace Kp0 := cell_below hu Kp0
  replace Kp1 := cell_below hu Kp1
  clear hu
  clear hb
  go_wp2
  go_ret
  exact ⟨rfl, HB.out⟩

set_option maxHeartbeats 4000000 in
theorem times_no2 (a1 b1 a2 b2 a3 b3 : Option Addr) (c1 d1 m1 n1 c2 d2 m2 n2 c3 d3 m3 n3 : Nat) (er : Int) (us : List Int) (rs ts : List Rat) (aF aZ : Addr) (w : World) (hE : Er w aF aZ)
    (hS1 : ∀ v, Below w.heap.size w v → Calls Tryz.prog 12 #[.agg #[.slice a1 m1 c1, .slice b1 n1 d1]] v fun e w' => e = .returned (.bool true) ∧ Below v.heap.size v w')
    (hS2 : ∀ v, Below w.heap.size w v → Calls Tryz.prog 12 #[.agg #[.slice a2 m2 c2, .slice b2 n2 d2]] v fun e w' => e = .returned (.bool true) ∧ Below v.heap.size v w')
    (hS3 : ∀ v, Below w.heap.size w v → Calls Tryz.prog 12 #[.agg #[.slice a3 m3 c3, .slice b3 n3 d3]] v fun e w' => e = .returned (.bool true) ∧ Below v.heap.size v w') (hT2 : Tt w 0 a2 b2 us m2 n2 rs 40) (hT3 : Tt w 0 a3 b3 us m2 n2 ts 40) (e1 : m3 = m2) (e2 : n3 = n2)
    (hZ2 : ∀ v B a3 b3 c3 d3, Below w.heap.size w v → Tt v B a3 b3 us m2 n2 (List.zipWith (· + ·) rs ts) 81 → Calls Tryz.prog 14 #[.string sMul, .agg #[.slice a1 m1 c1, .slice b1 n1 d1], .agg #[.slice a3 m2 c3, .slice b3 n2 d3]] v fun e w' => e = .returned (noTensor er) ∧ Below v.heap.size v w') (hne : (er != 0) = true) :
    Calls Tryz.prog 8 #[.agg #[.slice a1 m1 c1, .slice b1 n1 d1], .agg #[.slice a2 m2 c2, .slice b2 n2 d2], .agg #[.slice a3 m3 c3, .slice b3 n3 d3]] w fun e w' => e = .returned (.bool true) ∧ Below w.heap.size w w' := by
  have HE : Hid _ := hE
  clear hE
  have HB : Hid (Below w.heap.size w w) := Below.refl _ _
  subst e1 e2
  have HTb : Hid _ := hT2
  clear hT2
  have HTc : Hid _ := hT3
  clear hT3
  have hu := bl_alloc (Below.refl w.heap.size w) (.cells #[.slice a1 m1 c1, .slice b1 n1 d1] 25)
  replace HB : Hid _ := bl_trans HB.out hu
  replace HTb : Hid _ := HTb.out.below hu
  replace HTc : Hid _ := HTc.out.below hu
  clear hu
  have K10 : (w.alloc (.cells #[.slice a1 m1 c1, .slice b1 n1 d1] 25)).cell? ⟨w.heap.size, 0, none⟩ = some (.slice a1 m1 c1) := by first | rw [World.cell?_alloc_at _ _ _ _ (by simp)]; rfl | simp
  have K11 : (w.alloc (.cells #[.slice a1 m1 c1, .slice b1 n1 d1] 25)).cell? ⟨w.heap.size, 1, none⟩ = some (.slice b1 n1 d1) := by first | rw [World.cell?_alloc_at _ _ _ _ (by simp)]; rfl | simp
  have hu := bl_alloc (Below.refl (w.alloc (.cells #[.slice a1 m1 c1, .slice b1 n1 d1] 25)).heap.size (w.alloc (.cells #[.slice a1 m1 c1, .slice b1 n1 d1] 25))) (.cells #[.slice a2 m3 c2, .slice b2 n3 d2] 25)
  replace HB : Hid _ := bl_trans HB.out hu
  replace HTb : Hid _ := HTb.out.below hu
  replace HTc : Hid _ := HTc.out.below hu
  replace K10 := cell_below hu K10
  replace K11 := cell_below hu K11
  clear hu
  have K20 : ((w.alloc (.cells #[.slice a1 m1 c1, .slice b1 n1 d1] 25)).alloc (.cells #[.slice a2 m3 c2, .slice b2 n3 d2] 25)).cell? ⟨w.heap.size + 1, 0, none⟩ = some (.slice a2 m3 c2) := by first | rw [World.cell?_alloc_at _ _ _ _ (by simp)]; rfl | simp
  have K21 : ((w.alloc (.cells #[.slice a1 m1 c1, .slice b1 n1 d1] 25)).alloc (.cells #[.slice a2 m3 c2, .slice b2 n3 d2] 25)).cell? ⟨w.heap.size + 1, 1, none⟩ = some (.slice b2 n3 d2) := by first | rw [World.cell?_alloc_at _ _ _ _ (by simp)]; rfl | simp
  have hu := bl_alloc (Below.refl ((w.alloc (.cells #[.slice a1 m1 c1, .slice b1 n1 d1] 25)).alloc (.cells #[.slice a2 m3 c2, .slice b2 n3 d2] 25)).heap.size ((w.alloc (.cells #[.slice a1 m1 c1, .slice b1 n1 d1] 25)).alloc (.cells #[.slice a2 m3 c2, .slice b2 n3 d2] 25))) (.cells #[.slice a3 m3 c3, .slice b3 n3 d3] 25)
  replace HB : Hid _ := bl_trans HB.out hu
  replace HTb : Hid _ := HTb.out.below hu
  replace HTc : Hid _ := HTc.out.below hu
  replace K10 := cell_below hu K10
  replace K11 := cell_below hu K11
  replace K20 := cell_below hu K20
  replace K21 := cell_below hu K21
  clear hu
  have K30 : (((w.alloc (.cells #[.slice a1 m1 c1, .slice b1 n1 d1] 25)).alloc (.cells #[.slice a2 m3 c2, .slice b2 n3 d2] 25)).alloc (.cells #[.slice a3 m3 c3, .slice b3 n3 d3] 25)).cell? ⟨w.heap.size + 1 + 1, 0, none⟩ = some (.slice a3 m3 c3) := by first | rw [World.cell?_alloc_at _ _ _ _ (by simp)]; rfl | simp
  have K31 : (((w.alloc (.cells #[.slice a1 m1 c1, .slice b1 n1 d1] 25)).alloc (.cells #[.slice a2 m3 c2, .slice b2 n3 d2] 25)).alloc (.cells #[.slice a3 m3 c3, .slice b3 n3 d3] 25)).cell? ⟨w.heap.size + 1 + 1, 1, none⟩ = some (.slice b3 n3 d3) := by first | rw [World.cell?_alloc_at _ _ _ _ (by simp)]; rfl | simp
  go_enter Tryz.func8, Tryz.ntmps8
  go_wp2_with fail
  refine (hS1 _ HB.out).mono ?_
  rintro e w1 ⟨rfl, hb⟩
  have hu := hb
  replace HB : Hid _ := bl_trans HB.out hu
  replace HTb : Hid _ := HTb.out.below hu
  replace HTc : Hid _ := HTc.out.below hu
  replace K10 := cell_below hu K10
  replace K11 := cell_below hu K11
  replace K20 := cell_below hu K20
  replace K21 := cell_below hu K21
  replace K30 := cell_below hu K30
  replace K31 := cell_below hu K31
  clear hu
  clear hb
  go_wp2_with fail
  refine (hS2 _ HB.out).mono ?_
  rintro e w2 ⟨rfl, hb⟩
  have hu := hb
  replace HB : Hid _ := bl_trans HB.out hu
  replace HTb : Hid _ := HTb.out.below hu
  replace HTc : Hid _ := HTc.out.below hu
  replace K10 := cell_below hu K10
  replace K11 := cell_below hu K11
  replace K20 := cell_below hu K20
  replace K21 := cell_below hu K21
  replace K30 := cell_below hu K30
  replace K31 := cell_below hu K31
  clear hu
  clear hb
  go_wp2_with fail
  refine (hS3 _ HB.out).mono ?_
  rintro e w3 ⟨rfl, hb⟩
  have hu := hb
  replace HB : Hid _ := bl_trans HB.out hu
  replace HTb : Hid _ := HTb.out.below hu
  replace HTc : Hid _ := HTc.out.below hu
  replace K10 := cell_below hu K10
  replace K11 := cell_below hu K11
  replace K20 := cell_below hu K20
  replace K21 := cell_below hu K21
  replace K30 := cell_below hu K30
  replace K31 := cell_below hu K31
  clear hu
  clear hb
  go_wp2_with fail
  refine (zadd c2 d2 c3 d3 (HE.out.below HB.out) HTb.out HTc.out (by omega)).mono ?_
  rintro e w4 ⟨a4', c4', b4', d4', rfl, hT, hb⟩
  have hu := bl_alloc hb (.cells #[.slice a4' m3 c4', .slice b4' n3 d4'] 25)
  replace HB : Hid _ := bl_trans HB.out hu
  replace HTb : Hid _ := HTb.out.below hu
  replace HTc : Hid _ := HTc.out.below hu
  replace K10 := cell_below hu K10
  replace K11 := cell_below hu K11
  replace K20 := cell_below hu K20
  replace K21 := cell_below hu K21
  replace K30 := cell_below hu K30
  replace K31 := cell_below hu K31
  clear hu
  have HTs : Hid _ := hT.below (bl_alloc (Below.refl w4.heap.size w4) (.cells #[.slice a4' m3 c4', .slice b4' n3 d4'] 25))
  have Ks0 : (w4.alloc (.cells #[.slice a4' m3 c4', .slice b4' n3 d4'] 25)).cell? ⟨w4.heap.size, 0, none⟩ = some (.slice a4' m3 c4') := by simp
  have Ks1 : (w4.alloc (.cells #[.slice a4' m3 c4', .slice b4' n3 d4'] 25)).cell? ⟨w4.heap.size, 1, none⟩ = some (.slice b4' n3 d4') := by simp
  clear hb hT
  go_wp2_with fail
  refine (hZ2 _ _ _ _ c4' d4' HB.out HTs.out).mono ?_
  rintro e w5 ⟨rfl, hb⟩
  have hu := bl_alloc hb (.cells #[.slice none 0 0, .slice none 0 0] 25)
  replace HB : Hid _ := bl_trans HB.out hu
  replace HTb : Hid _ := HTb.out.below hu
  replace HTc : Hid _ := HTc.out.below hu
  replace HTs : Hid _ := HTs.out.below hu
  replace K10 := cell_below hu K10
  replace K11 := cell_below hu K11
  replace K20 := cell_below hu K20
  replace K21 := cell_below hu K21
  replace K30 := cell_below hu K30
  replace K31 := cell_below hu K31
  replace Ks0 := cell_below hu Ks0
  replace Ks1 := cell_below hu Ks1
  clear hu
  have Kp0 : (w5.alloc (.cells #[.slice none 0 0, .slice none 0 0] 25)).cell? ⟨w5.heap.size, 0, none⟩ = some (.slice none 0 0) := by simp
  have Kp1 : (w5.alloc (.cells #[.slice none 0 0, .slice none 0 0] 25)).cell? ⟨w5.heap.size, 1, none⟩ = some (.slice none 0 0) := by simp
  clear hb
  go_wp2_with fail
  refine (awake_any aF aZ _ (HE.out.below HB.out)).mono ?_
  rintro e w6 ⟨rfl, hb⟩
  have hu := hb
  replace HB : Hid _ := bl_trans HB.out hu
  replace HTb : Hid _ := HTb.out.below hu
  replace HTc : Hid _ := HTc.out.below hu
  replace HTs : Hid _ := HTs.out.below hu
  replace K10 := cell_below hu K10
  replace K11 := cell_below hu K11
  replace K20 := cell_below hu K20
  replace K21 := cell_below hu K21
  replace K30 := cell_below hu K30
  replace K31 := cell_below hu K31
  replace Ks0 := cell_below hu Ks0
  replace Ks1 := cell_below hu Ks1
  replace Kp0 := cell_below hu Kp0
  replace Kp1 := cell_below hu Kp1
  clear hu
  clear hb
  go_wp2
  go_ret
  exact ⟨rfl, HB.out⟩

set_option maxHeartbeats 4000000 in
theorem times_good (a1 b1 a2 b2 a3 b3 : Option Addr) (c1 d1 m1 n1 c2 d2 m2 n2 c3 d3 m3 n3 : Nat) (zs : List Int) (qs rs ts : List Rat) (aF aZ : Addr) (w : World) (hE : Er w aF aZ)
    (hS1 : ∀ v, Below w.heap.size w v → Calls Tryz.prog 12 #[.agg #[.slice a1 m1 c1, .slice b1 n1 d1]] v fun e w' => e = .returned (.bool true) ∧ Below v.heap.size v w')
    (hS2 : ∀ v, Below w.heap.size w v → Calls Tryz.prog 12 #[.agg #[.slice a2 m2 c2, .slice b2 n2 d2]] v fun e w' => e = .returned (.bool true) ∧ Below v.heap.size v w')
    (hS3 : ∀ v, Below w.heap.size w v → Calls Tryz.prog 12 #[.agg #[.slice a3 m3 c3, .slice b3 n3 d3]] v fun e w' => e = .returned (.bool true) ∧ Below v.heap.size v w') (hT1 : Tt w 0 a1 b1 zs m1 n1 qs 40) (hT2 : Tt w 0 a2 b2 zs m1 n1 rs 40) (hT3 : Tt w 0 a3 b3 zs m1 n1 ts 40) (e1 : m2 = m1) (e2 : n2 = n1) (e3 : m3 = m1) (e4 : n3 = n1) :
    Calls Tryz.prog 8 #[.agg #[.slice a1 m1 c1, .slice b1 n1 d1], .agg #[.slice a2 m2 c2, .slice b2 n2 d2], .agg #[.slice a3 m3 c3, .slice b3 n3 d3]] w fun e w' => e = .returned (.bool true) ∧ Below w.heap.size w w' := by
  have HE : Hid _ := hE
  clear hE
  have HB : Hid (Below w.heap.size w w) := Below.refl _ _
  subst e1 e2 e3 e4
  have HTa : Hid _ := hT1
  clear hT1
  have HTb : Hid _ := hT2
  clear hT2
  have HTc : Hid _ := hT3
  clear hT3
  have hu := bl_alloc (Below.refl w.heap.size w) (.cells #[.slice a1 m3 c1, .slice b1 n3 d1] 25)
  replace HB : Hid _ := bl_trans HB.out hu
  replace HTa : Hid _ := HTa.out.below hu
  replace HTb : Hid _ := HTb.out.below hu
  replace HTc : Hid _ := HTc.out.below hu
  clear hu
  have K10 : (w.alloc (.cells #[.slice a1 m3 c1, .slice b1 n3 d1] 25)).cell? ⟨w.heap.size, 0, none⟩ = some (.slice a1 m3 c1) := by first | rw [World.cell?_alloc_at _ _ _ _ (by simp)]; rfl | simp
  have K11 : (w.alloc (.cells #[.slice a1 m3 c1, .slice b1 n3 d1] 25)).cell? ⟨w.heap.size, 1, none⟩ = some (.slice b1 n3 d1) := by first | rw [World.cell?_alloc_at _ _ _ _ (by simp)]; rfl | simp
  have hu := bl_alloc (Below.refl (w.alloc (.cells #[.slice a1 m3 c1, .slice b1 n3 d1] 25)).heap.size (w.alloc (.cells #[.slice a1 m3 c1, .slice b1 n3 d1] 25))) (.cells #[.slice a2 m3 c2, .slice b2 n3 d2] 25)
  replace HB : Hid _ := bl_trans HB.out hu
  replace HTa : Hid _ := HTa.out.below hu
  replace HTb : Hid _ := HTb.out.below hu
  replace HTc : Hid _ := HTc.out.below hu
  replace K10 := cell_below hu K10
  replace K11 := cell_below hu K11
  clear hu
  have K20 : ((w.alloc (.cells #[.slice a1 m3 c1, .slice b1 n3 d1] 25)).alloc (.cells #[.slice a2 m3 c2, .slice b2 n3 d2] 25)).cell? ⟨w.heap.size + 1, 0, none⟩ = some (.slice a2 m3 c2) := by first | rw [World.cell?_alloc_at _ _ _ _ (by simp)]; rfl | simp
  have K21 : ((w.alloc (.cells #[.slice a1 m3 c1, .slice b1 n3 d1] 25)).alloc (.cells #[.slice a2 m3 c2, .slice b2 n3 d2] 25)).cell? ⟨w.heap.size + 1, 1, none⟩ = some (.slice b2 n3 d2) := by first | rw [World.cell?_alloc_at _ _ _ _ (by simp)]; rfl | simp
  have hu := bl_alloc (Below.refl ((w.alloc (.cells #[.slice a1 m3 c1, .slice b1 n3 d1] 25)).alloc (.cells #[.slice a2 m3 c2, .slice b2 n3 d2] 25)).heap.size ((w.alloc (.cells #[.slice a1 m3 c1, .slice b1 n3 d1] 25)).alloc (.cells #[.slice a2 m3 c2, .slice b2 n3 d2] 25))) (.cells #[.slice a3 m3 c3, .slice b3 n3 d3] 25)
  replace HB : Hid _ := bl_trans HB.out hu
  replace HTa : Hid _ := HTa.out.below hu
  replace HTb : Hid _ := HTb.out.below hu
  replace HTc : Hid _ := HTc.out.below hu
  replace K10 := cell_below hu K10
  replace K11 := cell_below hu K11
  replace K20 := cell_below hu K20
  replace K21 := cell_below hu K21
  clear hu
  have K30 : (((w.alloc (.cells #[.slice a1 m3 c1, .slice b1 n3 d1] 25)).alloc (.cells #[.slice a2 m3 c2, .slice b2 n3 d2] 25)).alloc (.cells #[.slice a3 m3 c3, .slice b3 n3 d3] 25)).cell? ⟨w.heap.size + 1 + 1, 0, none⟩ = some (.slice a3 m3 c3) := by first | rw [World.cell?_alloc_at _ _ _ _ (by simp)]; rfl | simp
  have K31 : (((w.alloc (.cells #[.slice a1 m3 c1, .slice b1 n3 d1] 25)).alloc (.cells #[.slice a2 m3 c2, .slice b2 n3 d2] 25)).alloc (.cells #[.slice a3 m3 c3, .slice b3 n3 d3] 25)).cell? ⟨w.heap.size + 1 + 1, 1, none⟩ = some (.slice b3 n3 d3) := by first | rw [World.cell?_alloc_at _ _ _ _ (by simp)]; rfl | simp
  go_enter Tryz.func8, Tryz.ntmps8
  go_wp2_with fail
  refine (hS1 _ HB.out).mono ?_
  rintro e w1 ⟨rfl, hb⟩
  have hu := hb
  replace HB : Hid _ := bl_trans HB.out hu
  replace HTa : Hid _ := HTa.out.below hu
  replace HTb : Hid _ := HTb.out.below hu
  replace HTc : Hid _ := HTc.out.below hu
  replace K10 := cell_below hu K10
  replace K11 := cell_below hu K11
  replace K20 := cell_below hu K20
  replace K21 := cell_below hu K21
  replace K30 := cell_below hu K30
  replace K31 := cell_below hu K31
  clear hu
  clear hb
  go_wp2_with fail
  refine (hS2 _ HB.out).mono ?_
  rintro e w2 ⟨rfl, hb⟩
  have hu := hb
  replace HB : Hid _ := bl_trans HB.out hu
  replace HTa : Hid _ := HTa.out.below hu
  replace HTb : Hid _ := HTb.out.below hu
  replace HTc : Hid _ := HTc.out.below hu
  replace K10 := cell_below hu K10
  replace K11 := cell_below hu K11
  replace K20 := cell_below hu K20
  replace K21 := cell_below hu K21
  replace K30 := cell_below hu K30
  replace K31 := cell_below hu K31
  clear hu
  clear hb
  go_wp2_with fail
  refine (hS3 _ HB.out).mono ?_
  rintro e w3 ⟨rfl, hb⟩
  have hu := hb
  replace HB : Hid _ := bl_trans HB.out hu
  replace HTa : Hid _ := HTa.out.below hu
  replace HTb : Hid _ := HTb.out.below hu
  replace HTc : Hid _ := HTc.out.below hu
  replace K10 := cell_below hu K10
  replace K11 := cell_below hu K11
  replace K20 := cell_below hu K20
  replace K21 := cell_below hu K21
  replace K30 := cell_below hu K30
  replace K31 := cell_below hu K31
  clear hu
  clear hb
  go_wp2_with fail
  refine (zadd c2 d2 c3 d3 (HE.out.below HB.out) HTb.out HTc.out (by omega)).mono ?_
  rintro e w4 ⟨a4', c4', b4', d4', rfl, hT, hb⟩
  have hu := bl_alloc hb (.cells #[.slice a4' m3 c4', .slice b4' n3 d4'] 25)
  replace HB : Hid _ := bl_trans HB.out hu
  replace HTa : Hid _ := HTa.out.below hu
  replace HTb : Hid _ := HTb.out.below hu
  replace HTc : Hid _ := HTc.out.below hu
  replace K10 := cell_below hu K10
  replace K11 := cell_below hu K11
  replace K20 := cell_below hu K20
  replace K21 := cell_below hu K21
  replace K30 := cell_below hu K30
  replace K31 := cell_below hu K31
  clear hu
  have HTs : Hid _ := hT.below (bl_alloc (Below.refl w4.heap.size w4) (.cells #[.slice a4' m3 c4', .slice b4' n3 d4'] 25))
  have Ks0 : (w4.alloc (.cells #[.slice a4' m3 c4', .slice b4' n3 d4'] 25)).cell? ⟨w4.heap.size, 0, none⟩ = some (.slice a4' m3 c4') := by simp
  have Ks1 : (w4.alloc (.cells #[.slice a4' m3 c4', .slice b4' n3 d4'] 25)).cell? ⟨w4.heap.size, 1, none⟩ = some (.slice b4' n3 d4') := by simp
  clear hb hT
  go_wp2_with fail
  refine (zmul c1 d1 c4' d4' (HE.out.below HB.out) HTa.out HTs.out (by omega)).mono ?_
  rintro e w5 ⟨a5', c5', b5', d5', rfl, hT, hb⟩
  have hu := bl_alloc hb (.cells #[.slice a5' m3 c5', .slice b5' n3 d5'] 25)
  replace HB : Hid _ := bl_trans HB.out hu
  replace HTa : Hid _ := HTa.out.below hu
  replace HTb : Hid _ := HTb.out.below hu
  replace HTc : Hid _ := HTc.out.below hu
  replace HTs : Hid _ := HTs.out.below hu
  replace K10 := cell_below hu K10
  replace K11 := cell_below hu K11
  replace K20 := cell_below hu K20
  replace K21 := cell_below hu K21
  replace K30 := cell_below hu K30
  replace K31 := cell_below hu K31
  replace Ks0 := cell_below hu Ks0
  replace Ks1 := cell_below hu Ks1
  clear hu
  have HTp : Hid _ := hT.below (bl_alloc (Below.refl w5.heap.size w5) (.cells #[.slice a5' m3 c5', .slice b5' n3 d5'] 25))
  have Kp0 : (w5.alloc (.cells #[.slice a5' m3 c5', .slice b5' n3 d5'] 25)).cell? ⟨w5.heap.size, 0, none⟩ = some (.slice a5' m3 c5') := by simp
  have Kp1 : (w5.alloc (.cells #[.slice a5' m3 c5', .slice b5' n3 d5'] 25)).cell? ⟨w5.heap.size, 1, none⟩ = some (.slice b5' n3 d5') := by simp
  clear hb hT
  go_wp2_with fail
  refine (zmul c1 d1 c2 d2 (HE.out.below HB.out) HTa.out HTb.out (by omega)).mono ?_
  rintro e w6 ⟨a6', c6', b6', d6', rfl, hT, hb⟩
  have hu := bl_alloc hb (.cells #[.slice a6' m3 c6', .slice b6' n3 d6'] 25)
  replace HB : Hid _ := bl_trans HB.out hu
  replace HTa : Hid _ := HTa.out.below hu
  replace HTb : Hid _ := HTb.out.below hu
  replace HTc : Hid _ := HTc.out.below hu
  replace HTs : Hid _ := HTs.out.below hu
  replace HTp : Hid _ := HTp.out.below hu
  replace K10 := cell_below hu K10
  replace K11 := cell_below hu K11
  replace K20 := cell_below hu K20
  replace K21 := cell_below hu K21
  replace K30 := cell_below hu K30
  replace K31 := cell_below hu K31
  replace Ks0 := cell_below hu Ks0
  replace Ks1 := cell_below hu Ks1
  replace Kp0 := cell_below hu Kp0
  replace Kp1 := cell_below hu Kp1
  clear hu
  have HTx : Hid _ := hT.below (bl_alloc (Below.refl w6.heap.size w6) (.cells #[.slice a6' m3 c6', .slice b6' n3 d6'] 25))
  have Kx0 : (w6.alloc (.cells #[.slice a6' m3 c6', .slice b6' n3 d6'] 25)).cell? ⟨w6.heap.size, 0, none⟩ = some (.slice a6' m3 c6') := by simp
  have Kx1 : (w6.alloc (.cells #[.slice a6' m3 c6', .slice b6' n3 d6'] 25)).cell? ⟨w6.heap.size, 1, none⟩ = some (.slice b6' n3 d6') := by simp
  clear hb hT
  go_wp2_with fail
  refine (zmul c3 d3 c1 d1 (HE.out.below HB.out) HTc.out HTa.out (by omega)).mono ?_
  rintro e w7 ⟨a7', c7', b7', d7', rfl, hT, hb⟩
  have hu := bl_alloc hb (.cells #[.slice a7' m3 c7', .slice b7' n3 d7'] 25)
  replace HB : Hid _ := bl_trans HB.out hu
  replace HTa : Hid _ := HTa.out.below hu
  replace HTb : Hid _ := HTb.out.below hu
  replace HTc : Hid _ := HTc.out.below hu
  replace HTs : Hid _ := HTs.out.below hu
  replace HTp : Hid _ := HTp.out.below hu
  replace HTx : Hid _ := HTx.out.below hu
  replace K10 := cell_below hu K10
  replace K11 := cell_below hu K11
  replace K20 := cell_below hu K20
  replace K21 := cell_below hu K21
  replace K30 := cell_below hu K30
  replace K31 := cell_below hu K31
  replace Ks0 := cell_below hu Ks0
  replace Ks1 := cell_below hu Ks1
  replace Kp0 := cell_below hu Kp0
  replace Kp1 := cell_below hu Kp1
  replace Kx0 := cell_below hu Kx0
  replace Kx1 := cell_below hu Kx1
  clear hu
  have HTy : Hid _ := hT.below (bl_alloc (Below.refl w7.heap.size w7) (.cells #[.slice a7' m3 c7', .slice b7' n3 d7'] 25))
  have Ky0 : (w7.alloc (.cells #[.slice a7' m3 c7', .slice b7' n3 d7'] 25)).cell? ⟨w7.heap.size, 0, none⟩ = some (.slice a7' m3 c7') := by simp
  have Ky1 : (w7.alloc (.cells #[.slice a7' m3 c7', .slice b7' n3 d7'] 25)).cell? ⟨w7.heap.size, 1, none⟩ = some (.slice b7' n3 d7') := by simp
  clear hb hT
  go_wp2_with fail
  refine (zadd c6' d6' c7' d7' (HE.out.below HB.out) HTx.out HTy.out (by omega)).mono ?_
  rintro e w8 ⟨a8', c8', b8', d8', rfl, hT, hb⟩
  have hu := bl_alloc hb (.cells #[.slice a8' m3 c8', .slice b8' n3 d8'] 25)
  replace HB : Hid _ := bl_trans HB.out hu
  replace HTa : Hid _ := HTa.out.below hu
  replace HTb : Hid _ := HTb.out.below hu
  replace HTc : Hid _ := HTc.out.below hu
  replace HTs : Hid _ := HTs.out.below hu
  replace HTp : Hid _ := HTp.out.below hu
  replace HTx : Hid _ := HTx.out.below hu
  replace HTy : Hid _ := HTy.out.below hu
  replace K10 := cell_below hu K10
  replace K11 := cell_below hu K11
  replace K20 := cell_below hu K20
  replace K21 := cell_below hu K21
  replace K30 := cell_below hu K30
  replace K31 := cell_below hu K31
  replace Ks0 := cell_below hu Ks0
  replace Ks1 := cell_below hu Ks1
  replace Kp0 := cell_below hu Kp0
  replace Kp1 := cell_below hu Kp1
  replace Kx0 := cell_below hu Kx0
  replace Kx1 := cell_below hu Kx1
  replace Ky0 := cell_below hu Ky0
  replace Ky1 := cell_below hu Ky1
  clear hu
  have HTz : Hid _ := hT.below (bl_alloc (Below.refl w8.heap.size w8) (.cells #[.slice a8' m3 c8', .slice b8' n3 d8'] 25))
  have Kz0 : (w8.alloc (.cells #[.slice a8' m3 c8', .slice b8' n3 d8'] 25)).cell? ⟨w8.heap.size, 0, none⟩ = some (.slice a8' m3 c8') := by simp
  have Kz1 : (w8.alloc (.cells #[.slice a8' m3 c8', .slice b8' n3 d8'] 25)).cell? ⟨w8.heap.size, 1, none⟩ = some (.slice b8' n3 d8') := by simp
  clear hb hT
  go_wp2_with fail
  refine (zeq c5' d5' c8' d8' HTp.out HTz.out (zip_over qs rs ts)).mono ?_
  rintro e w9 ⟨rfl, hb⟩
  have hu := hb
  replace HB : Hid _ := bl_trans HB.out hu
  replace HTa : Hid _ := HTa.out.below hu
  replace HTb : Hid _ := HTb.out.below hu
  replace HTc : Hid _ := HTc.out.below hu
  replace HTs : Hid _ := HTs.out.below hu
  replace HTp : Hid _ := HTp.out.below hu
  replace HTx : Hid _ := HTx.out.below hu
  replace HTy : Hid _ := HTy.out.below hu
  replace HTz : Hid _ := HTz.out.below hu
  replace K10 := cell_below hu K10
  replace K11 := cell_below hu K11
  replace K20 := cell_below hu K20
  replace K21 := cell_below hu K21
  replace K30 := cell_below hu K30
  replace K31 := cell_below hu K31
  replace Ks0 := cell_below hu Ks0
  replace Ks1 := cell_below hu Ks1
  replace Kp0 := cell_below hu Kp0
  replace Kp1 := cell_below hu Kp1
  replace Kx0 := cell_below hu Kx0
  replace Kx1 := cell_below hu Kx1
  replace Ky0 := cell_below hu Ky0
  replace Ky1 := cell_below hu Ky1
  replace Kz0 := cell_below hu Kz0
  replace Kz1 := cell_below hu Kz1
  clear hu
  clear hb
  go_wp2_with fail
  refine (awake_any aF aZ _ (HE.out.below HB.out)).mono ?_
  rintro e w10 ⟨rfl, hb⟩
  have hu := hb
  replace HB : Hid _ := bl_trans HB.out hu
  replace HTa : Hid _ := HTa.out.below hu
  replace HTb : Hid _ := HTb.out.below hu
  replace HTc : Hid _ := HTc.out.below hu
  replace HTs : Hid _ := HTs.out.below hu
  replace HTp : Hid _ := HTp.out.below hu
  replace HTx : Hid _ := HTx.out.below hu
  replace HTy : Hid _ := HTy.out.below hu
  replace HTz : Hid _ := HTz.out.below hu
  replace K10 := cell_below hu K10
  replace K11 := cell_below hu K11
  replace K20 := cell_below hu K20
  replace K21 := cell_below hu K21
  replace K30 := cell_below hu K30
  replace K31 := cell_below hu K31
  replace Ks0 := cell_below hu Ks0
  replace Ks1 := cell_below hu Ks1
  replace Kp0 := cell_below hu Kp0
  replace Kp1 := cell_below hu Kp1
  replace Kx0 := cell_below hu Kx0
  replace Kx1 := cell_below hu Kx1
  replace Ky0 := cell_below hu Ky0
  replace Ky1 := cell_below hu Ky1
  replace Kz0 := cell_below hu Kz0
  replace Kz1 := cell_below hu Kz1
  clear hu
  clear hb
  go_wp2
  go_ret
  exact ⟨rfl, HB.out⟩
end Go.Proofs.YtfblgaffkflenaaGreatDoor.Tn
