/-
  THE WALK OF TensorLaws. Conditions: what the arguments hold.
-/
import Derived.Test.YtfblgaffkflenaaGreatDoorWPowers
namespace Go.Proofs.YtfblgaffkflenaaGreatDoor.Tn
set_option maxRecDepth 100000
open Go.RowKit Nm
set_option linter.unusedVariables false

set_option maxHeartbeats 4000000 in
theorem laws_long1 (a1 b1 a2 b2 : Option Addr) (c1 d1 m1 n1 c2 d2 m2 n2 : Nat) (aF aZ : Addr) (w : World) (hE : Er w aF aZ)
    (hS1 : ∀ v, Below w.heap.size w v → Calls Tryz.prog 12 #[.agg #[.slice a1 m1 c1, .slice b1 n1 d1]] v fun e w' => e = .returned (.bool false) ∧ Below v.heap.size v w') :
    Calls Tryz.prog 5 #[.agg #[.slice a1 m1 c1, .slice b1 n1 d1], .agg #[.slice a2 m2 c2, .slice b2 n2 d2]] w fun e w' => e = .returned (.bool true) ∧ Below w.heap.size w w' := by
  have HE : Hid _ := hE
  clear hE
  have HB : Hid (Below w.heap.size w w) := Below.refl _ _
  have hu := bl_alloc (Below.refl w.heap.size w) (.cells #[.slice a1 m1 c1, .slice b1 n1 d1] 25)
  replace HB : Hid _ := bl_trans HB.out hu
  clear hu
  have K10 : (w.alloc (.cells #[.slice a1 m1 c1, .slice b1 n1 d1] 25)).cell? ⟨w.heap.size, 0, none⟩ = some (.slice a1 m1 c1) := by first | rw [World.cell?_alloc_at _ _ _ _ (by simp)]; rfl | simp
  have K11 : (w.alloc (.cells #[.slice a1 m1 c1, .slice b1 n1 d1] 25)).cell? ⟨w.heap.size, 1, none⟩ = some (.slice b1 n1 d1) := by first | rw [World.cell?_alloc_at _ _ _ _ (by simp)]; rfl | simp
  have hu := bl_alloc (Below.refl (w.alloc (.cells #[.slice a1 m1 c1, .slice b1 n1 d1] 25)).heap.size (w.alloc (.cells #[.slice a1 m1 c1, .slice b1 n1 d1] 25))) (.cells #[.slice a2 m2 c2, .slice b2 n2 d2] 25)
  replace HB : Hid _ := bl_trans HB.out hu
  replace K10 := cell_below hu K10
  replace K11 := cell_below hu K11
  clear hu
  have K20 : ((w.alloc (.cells #[.slice a1 m1 c1, .slice b1 n1 d1] 25)).alloc (.cells #[.slice a2 m2 c2, .slice b2 n2 d2] 25)).cell? ⟨w.heap.size + 1, 0, none⟩ = some (.slice a2 m2 c2) := by first | rw [World.cell?_alloc_at _ _ _ _ (by simp)]; rfl | simp
  have K21 : ((w.alloc (.cells #[.slice a1 m1 c1, .slice b1 n1 d1] 25)).alloc (.cells #[.slice a2 m2 c2, .slice b2 n2 d2] 25)).cell? ⟨w.heap.size + 1, 1, none⟩ = some (.slice b2 n2 d2) := by first | rw [World.cell?_alloc_at _ _ _ _ (by simp)]; rfl | simp
  go_enter Tryz.func5, Tryz.ntmps5
  go_wp2_with fail
  refine (hS1 _ HB.out).mono ?_
  rintro e w1 ⟨rfl, hb⟩
  have hu := hb
  replace HB : Hid _ := bl_trans HB.out hu
  replace K10 := cell_below hu K10
  replace K11 := cell_below hu K11
  replace K20 := cell_below hu K20
  replace K21 := cell_below hu K21
  clear hu
  clear hb
  go_wp2_with fail
  refine (awake_any aF aZ _ (HE.out.below HB.out)).mono ?_
  rintro e w2 ⟨rfl, hb⟩
  have hu := hb
  replace HB : Hid _ := bl_trans HB.out hu
  replace K10 := cell_below hu K10
  replace K11 := cell_below hu K11
  replace K20 := cell_below hu K20
  replace K21 := cell_below hu K21
  clear hu
  clear hb
  go_wp2
  go_ret
  exact ⟨rfl, HB.out⟩

set_option maxHeartbeats 4000000 in
theorem laws_long2 (a1 b1 a2 b2 : Option Addr) (c1 d1 m1 n1 c2 d2 m2 n2 : Nat) (aF aZ : Addr) (w : World) (hE : Er w aF aZ)
    (hS1 : ∀ v, Below w.heap.size w v → Calls Tryz.prog 12 #[.agg #[.slice a1 m1 c1, .slice b1 n1 d1]] v fun e w' => e = .returned (.bool true) ∧ Below v.heap.size v w')
    (hS2 : ∀ v, Below w.heap.size w v → Calls Tryz.prog 12 #[.agg #[.slice a2 m2 c2, .slice b2 n2 d2]] v fun e w' => e = .returned (.bool false) ∧ Below v.heap.size v w') :
    Calls Tryz.prog 5 #[.agg #[.slice a1 m1 c1, .slice b1 n1 d1], .agg #[.slice a2 m2 c2, .slice b2 n2 d2]] w fun e w' => e = .returned (.bool true) ∧ Below w.heap.size w w' := by
  have HE : Hid _ := hE
  clear hE
  have HB : Hid (Below w.heap.size w w) := Below.refl _ _
  have hu := bl_alloc (Below.refl w.heap.size w) (.cells #[.slice a1 m1 c1, .slice b1 n1 d1] 25)
  replace HB : Hid _ := bl_trans HB.out hu
  clear hu
  have K10 : (w.alloc (.cells #[.slice a1 m1 c1, .slice b1 n1 d1] 25)).cell? ⟨w.heap.size, 0, none⟩ = some (.slice a1 m1 c1) := by first | rw [World.cell?_alloc_at _ _ _ _ (by simp)]; rfl | simp
  have K11 : (w.alloc (.cells #[.slice a1 m1 c1, .slice b1 n1 d1] 25)).cell? ⟨w.heap.size, 1, none⟩ = some (.slice b1 n1 d1) := by first | rw [World.cell?_alloc_at _ _ _ _ (by simp)]; rfl | simp
  have hu := bl_alloc (Below.refl (w.alloc (.cells #[.slice a1 m1 c1, .slice b1 n1 d1] 25)).heap.size (w.alloc (.cells #[.slice a1 m1 c1, .slice b1 n1 d1] 25))) (.cells #[.slice a2 m2 c2, .slice b2 n2 d2] 25)
  replace HB : Hid _ := bl_trans HB.out hu
  replace K10 := cell_below hu K10
  replace K11 := cell_below hu K11
  clear hu
  have K20 : ((w.alloc (.cells #[.slice a1 m1 c1, .slice b1 n1 d1] 25)).alloc (.cells #[.slice a2 m2 c2, .slice b2 n2 d2] 25)).cell? ⟨w.heap.size + 1, 0, none⟩ = some (.slice a2 m2 c2) := by first | rw [World.cell?_alloc_at _ _ _ _ (by simp)]; rfl | simp
  have K21 : ((w.alloc (.cells #[.slice a1 m1 c1, .slice b1 n1 d1] 25)).alloc (.cells #[.slice a2 m2 c2, .slice b2 n2 d2] 25)).cell? ⟨w.heap.size + 1, 1, none⟩ = some (.slice b2 n2 d2) := by first | rw [World.cell?_alloc_at _ _ _ _ (by simp)]; rfl | simp
  go_enter Tryz.func5, Tryz.ntmps5
  go_wp2_with fail
  refine (hS1 _ HB.out).mono ?_
  rintro e w1 ⟨rfl, hb⟩
  have hu := hb
  replace HB : Hid _ := bl_trans HB.out hu
  replace K10 := cell_below hu K10
  replace K11 := cell_below hu K11
  replace K20 := cell_below hu K20
  replace K21 := cell_below hu K21
  clear hu
  clear hb
  go_wp2_with fail
  refine (hS2 _ HB.out).mono ?_
  rintro e w2 ⟨rfl, hb⟩
  have hu := hb
  replace HB : Hid _ := bl_trans HB.out hu
  replace K10 := cell_below hu K10
  replace K11 := cell_below hu K11
  replace K20 := cell_below hu K20
  replace K21 := cell_below hu K21
  clear hu
  clear hb
  go_wp2_with fail
  refine (awake_any aF aZ _ (HE.out.below HB.out)).mono ?_
  rintro e w3 ⟨rfl, hb⟩
  have hu := hb
  replace HB : Hid _ := bl_trans HB.out hu
  replace K10 := cell_below hu K10
  replace K11 := cell_below hu K11
  replace K20 := cell_below hu K20
  replace K21 := cell_below hu K21
  clear hu
  clear hb
  go_wp2
  go_ret
  exact ⟨rfl, HB.out⟩

set_option maxHeartbeats 4000000 in
theorem laws_no1 (a1 b1 a2 b2 : Option Addr) (c1 d1 m1 n1 c2 d2 m2 n2 : Nat) (er er3 er4 : Int) (aF aZ : Addr) (w : World) (hE : Er w aF aZ)
    (hS1 : ∀ v, Below w.heap.size w v → Calls Tryz.prog 12 #[.agg #[.slice a1 m1 c1, .slice b1 n1 d1]] v fun e w' => e = .returned (.bool true) ∧ Below v.heap.size v w')
    (hS2 : ∀ v, Below w.heap.size w v → Calls Tryz.prog 12 #[.agg #[.slice a2 m2 c2, .slice b2 n2 d2]] v fun e w' => e = .returned (.bool true) ∧ Below v.heap.size v w')
    (hZ1 : ∀ v, Below w.heap.size w v → Calls Tryz.prog 14 #[.string sAdd, .agg #[.slice a1 m1 c1, .slice b1 n1 d1], .agg #[.slice a2 m2 c2, .slice b2 n2 d2]] v fun e w' => e = .returned (noTensor er) ∧ Below v.heap.size v w')
    (hZ2 : ∀ v, Below w.heap.size w v → Calls Tryz.prog 14 #[.string sAdd, .agg #[.slice a2 m2 c2, .slice b2 n2 d2], .agg #[.slice a1 m1 c1, .slice b1 n1 d1]] v fun e w' => e = .returned (noTensor er) ∧ Below v.heap.size v w')
    (hZ3 : ∀ v, Below w.heap.size w v → Calls Tryz.prog 14 #[.string sSub, .agg #[.slice a1 m1 c1, .slice b1 n1 d1], .agg #[.slice a2 m2 c2, .slice b2 n2 d2]] v fun e w' => e = .returned (noTensor er3) ∧ Below v.heap.size v w')
    (hZ4 : ∀ v, Below w.heap.size w v → Calls Tryz.prog 20 #[.agg #[.slice a2 m2 c2, .slice b2 n2 d2], .string ⟨#[45, 49]⟩] v fun e w' => e = .returned (noTensor 1) ∧ Below v.heap.size v w')
    (hZ5 : ∀ v, Below w.heap.size w v → Calls Tryz.prog 14 #[.string sAdd, .agg #[.slice a1 m1 c1, .slice b1 n1 d1], .agg #[.slice none 0 0, .slice none 0 0]] v fun e w' => e = .returned (noTensor er4) ∧ Below v.heap.size v w') (hne : (er != 0) = true) (heq : (er == er) = true) :
    Calls Tryz.prog 5 #[.agg #[.slice a1 m1 c1, .slice b1 n1 d1], .agg #[.slice a2 m2 c2, .slice b2 n2 d2]] w fun e w' => e = .returned (.bool true) ∧ Below w.heap.size w w' := by
  have HE : Hid _ := hE
  clear hE
  have HB : Hid (Below w.heap.size w w) := Below.refl _ _
  have hu := bl_alloc (Below.refl w.heap.size w) (.cells #[.slice a1 m1 c1, .slice b1 n1 d1] 25)
  replace HB : Hid _ := bl_trans HB.out hu
  clear hu
  have K10 : (w.alloc (.cells #[.slice a1 m1 c1, .slice b1 n1 d1] 25)).cell? ⟨w.heap.size, 0, none⟩ = some (.slice a1 m1 c1) := by first | rw [World.cell?_alloc_at _ _ _ _ (by simp)]; rfl | simp
  have K11 : (w.alloc (.cells #[.slice a1 m1 c1, .slice b1 n1 d1] 25)).cell? ⟨w.heap.size, 1, none⟩ = some (.slice b1 n1 d1) := by first | rw [World.cell?_alloc_at _ _ _ _ (by simp)]; rfl | simp
  have hu := bl_alloc (Below.refl (w.alloc (.cells #[.slice a1 m1 c1, .slice b1 n1 d1] 25)).heap.size (w.alloc (.cells #[.slice a1 m1 c1, .slice b1 n1 d1] 25))) (.cells #[.slice a2 m2 c2, .slice b2 n2 d2] 25)
  replace HB : Hid _ := bl_trans HB.out hu
  replace K10 := cell_below hu K10
  replace K11 := cell_below hu K11
  clear hu
  have K20 : ((w.alloc (.cells #[.slice a1 m1 c1, .slice b1 n1 d1] 25)).alloc (.cells #[.slice a2 m2 c2, .slice b2 n2 d2] 25)).cell? ⟨w.heap.size + 1, 0, none⟩ = some (.slice a2 m2 c2) := by first | rw [World.cell?_alloc_at _ _ _ _ (by simp)]; rfl | simp
  have K21 : ((w.alloc (.cells #[.slice a1 m1 c1, .slice b1 n1 d1] 25)).alloc (.cells #[.slice a2 m2 c2, .slice b2 n2 d2] 25)).cell? ⟨w.heap.size + 1, 1, none⟩ = some (.slice b2 n2 d2) := by first | rw [World.cell?_alloc_at _ _ _ _ (by simp)]; rfl | simp
  go_enter Tryz.func5, Tryz.ntmps5
  go_wp2_with fail
  refine (hS1 _ HB.out).mono ?_
  rintro e w1 ⟨rfl, hb⟩
  have hu := hb
  replace HB : Hid _ := bl_trans HB.out hu
  replace K10 := cell_below hu K10
  replace K11 := cell_below hu K11
  replace K20 := cell_below hu K20
  replace K21 := cell_below hu K21
  clear hu
  clear hb
  go_wp2_with fail
  refine (hS2 _ HB.out).mono ?_
  rintro e w2 ⟨rfl, hb⟩
  have hu := hb
  replace HB : Hid _ := bl_trans HB.out hu
  replace K10 := cell_below hu K10
  replace K11 := cell_below hu K11
  replace K20 := cell_below hu K20
  replace K21 := cell_below hu K21
  clear hu
  clear hb
  go_wp2_with fail
  refine (hZ1 _ HB.out).mono ?_
  rintro e w3 ⟨rfl, hb⟩
  have hu := bl_alloc hb (.cells #[.slice none 0 0, .slice none 0 0] 25)
  replace HB : Hid _ := bl_trans HB.out hu
  replace K10 := cell_below hu K10
  replace K11 := cell_below hu K11
  replace K20 := cell_below hu K20
  replace K21 := cell_below hu K21
  clear hu
  have Ks0 : (w3.alloc (.cells #[.slice none 0 0, .slice none 0 0] 25)).cell? ⟨w3.heap.size, 0, none⟩ = some (.slice none 0 0) := by simp
  have Ks1 : (w3.alloc (.cells #[.slice none 0 0, .slice none 0 0] 25)).cell? ⟨w3.heap.size, 1, none⟩ = some (.slice none 0 0) := by simp
  clear hb
  go_wp2_with fail
  refine (hZ2 _ HB.out).mono ?_
  rintro e w4 ⟨rfl, hb⟩
  have hu := bl_alloc hb (.cells #[.slice none 0 0, .slice none 0 0] 25)
  replace HB : Hid _ := bl_trans HB.out hu
  replace K10 := cell_below hu K10
  replace K11 := cell_below hu K11
  replace K20 := cell_below hu K20
  replace K21 := cell_below hu K21
  replace Ks0 := cell_below hu Ks0
  replace Ks1 := cell_below hu Ks1
  clear hu
  have Kt0 : (w4.alloc (.cells #[.slice none 0 0, .slice none 0 0] 25)).cell? ⟨w4.heap.size, 0, none⟩ = some (.slice none 0 0) := by simp
  have Kt1 : (w4.alloc (.cells #[.slice none 0 0, .slice none 0 0] 25)).cell? ⟨w4.heap.size, 1, none⟩ = some (.slice none 0 0) := by simp
  clear hb
  go_wp2_with fail
  refine (hZ3 _ HB.out).mono ?_
  rintro e w5 ⟨rfl, hb⟩
  have hu := bl_alloc hb (.cells #[.slice none 0 0, .slice none 0 0] 25)
  replace HB : Hid _ := bl_trans HB.out hu
  replace K10 := cell_below hu K10
  replace K11 := cell_below hu K11
  replace K20 := cell_below hu K20
  replace K21 := cell_below hu K21
  replace Ks0 := cell_below hu Ks0
  replace Ks1 := cell_below hu Ks1
  replace Kt0 := cell_below hu Kt0
  replace Kt1 := cell_below hu Kt1
  clear hu
  have Kd0 : (w5.alloc (.cells #[.slice none 0 0, .slice none 0 0] 25)).cell? ⟨w5.heap.size, 0, none⟩ = some (.slice none 0 0) := by simp
  have Kd1 : (w5.alloc (.cells #[.slice none 0 0, .slice none 0 0] 25)).cell? ⟨w5.heap.size, 1, none⟩ = some (.slice none 0 0) := by simp
  clear hb
  go_wp2_with fail
  refine (hZ4 _ HB.out).mono ?_
  rintro e w6 ⟨rfl, hb⟩
  have hu := bl_alloc hb (.cells #[.slice none 0 0, .slice none 0 0] 25)
  replace HB : Hid _ := bl_trans HB.out hu
  replace K10 := cell_below hu K10
  replace K11 := cell_below hu K11
  replace K20 := cell_below hu K20
  replace K21 := cell_below hu K21
  replace Ks0 := cell_below hu Ks0
  replace Ks1 := cell_below hu Ks1
  replace Kt0 := cell_below hu Kt0
  replace Kt1 := cell_below hu Kt1
  replace Kd0 := cell_below hu Kd0
  replace Kd1 := cell_below hu Kd1
  clear hu
  have Kn0 : (w6.alloc (.cells #[.slice none 0 0, .slice none 0 0] 25)).cell? ⟨w6.heap.size, 0, none⟩ = some (.slice none 0 0) := by simp
  have Kn1 : (w6.alloc (.cells #[.slice none 0 0, .slice none 0 0] 25)).cell? ⟨w6.heap.size, 1, none⟩ = some (.slice none 0 0) := by simp
  clear hb
  go_wp2_with fail
  refine (hZ5 _ HB.out).mono ?_
  rintro e w7 ⟨rfl, hb⟩
  have hu := bl_alloc hb (.cells #[.slice none 0 0, .slice none 0 0] 25)
  replace HB : Hid _ := bl_trans HB.out hu
  replace K10 := cell_below hu K10
  replace K11 := cell_below hu K11
  replace K20 := cell_below hu K20
  replace K21 := cell_below hu K21
  replace Ks0 := cell_below hu Ks0
  replace Ks1 := cell_below hu Ks1
  replace Kt0 := cell_below hu Kt0
  replace Kt1 := cell_below hu Kt1
  replace Kd0 := cell_below hu Kd0
  replace Kd1 := cell_below hu Kd1
  replace Kn0 := cell_below hu Kn0
  replace Kn1 := cell_below hu Kn1
  clear hu
  have Km0 : (w7.alloc (.cells #[.slice none 0 0, .slice none 0 0] 25)).cell? ⟨w7.heap.size, 0, none⟩ = some (.slice none 0 0) := by simp
  have Km1 : (w7.alloc (.cells #[.slice none 0 0, .slice none 0 0] 25)).cell? ⟨w7.heap.size, 1, none⟩ = some (.slice none 0 0) := by simp
  clear hb
  go_wp2_with fail
  refine (awake_any aF aZ _ (HE.out.below HB.out)).mono ?_
  rintro e w8 ⟨rfl, hb⟩
  have hu := hb
  replace HB : Hid _ := bl_trans HB.out hu
  replace K10 := cell_below hu K10
  replace K11 := cell_below hu K11
  replace K20 := cell_below hu K20
  replace K21 := cell_below hu K21
  replace Ks0 := cell_below hu Ks0
  replace Ks1 := cell_below hu Ks1
  replace Kt0 := cell_below hu Kt0
  replace Kt1 := cell_below hu Kt1
  replace Kd0 := cell_below hu Kd0
  replace Kd1 := cell_below hu Kd1
  replace Kn0 := cell_below hu Kn0
  replace Kn1 := cell_below hu Kn1
  replace Km0 := cell_below hu Km0
  replace Km1 := cell_below hu Km1
  clear hu
  clear hb
  go_wp2
  go_ret
  exact ⟨rfl, HB.out⟩

set_option maxHeartbeats 4000000 in
theorem laws_no2 (a1 b1 a2 b2 : Option Addr) (c1 d1 m1 n1 c2 d2 m2 n2 : Nat) (er er3 er4 : Int) (us : List Int) (rs : List Rat) (aF aZ : Addr) (w : World) (hE : Er w aF aZ)
    (hS1 : ∀ v, Below w.heap.size w v → Calls Tryz.prog 12 #[.agg #[.slice a1 m1 c1, .slice b1 n1 d1]] v fun e w' => e = .returned (.bool true) ∧ Below v.heap.size v w')
    (hS2 : ∀ v, Below w.heap.size w v → Calls Tryz.prog 12 #[.agg #[.slice a2 m2 c2, .slice b2 n2 d2]] v fun e w' => e = .returned (.bool true) ∧ Below v.heap.size v w')
    (hZ1 : ∀ v, Below w.heap.size w v → Calls Tryz.prog 14 #[.string sAdd, .agg #[.slice a1 m1 c1, .slice b1 n1 d1], .agg #[.slice a2 m2 c2, .slice b2 n2 d2]] v fun e w' => e = .returned (noTensor er) ∧ Below v.heap.size v w')
    (hZ2 : ∀ v, Below w.heap.size w v → Calls Tryz.prog 14 #[.string sAdd, .agg #[.slice a2 m2 c2, .slice b2 n2 d2], .agg #[.slice a1 m1 c1, .slice b1 n1 d1]] v fun e w' => e = .returned (noTensor er) ∧ Below v.heap.size v w')
    (hZ3 : ∀ v, Below w.heap.size w v → Calls Tryz.prog 14 #[.string sSub, .agg #[.slice a1 m1 c1, .slice b1 n1 d1], .agg #[.slice a2 m2 c2, .slice b2 n2 d2]] v fun e w' => e = .returned (noTensor er3) ∧ Below v.heap.size v w') (hT : Tt w 0 a2 b2 us m2 n2 rs 40)
    (hZ5 : ∀ v B a3 b3 c3 d3, Below w.heap.size w v → Tt v B a3 b3 us m2 n2 (rs.map (· * (-1))) 41 → Calls Tryz.prog 14 #[.string sAdd, .agg #[.slice a1 m1 c1, .slice b1 n1 d1], .agg #[.slice a3 m2 c3, .slice b3 n2 d3]] v fun e w' => e = .returned (noTensor er4) ∧ Below v.heap.size v w') (hne : (er != 0) = true) (heq : (er == er) = true) :
    Calls Tryz.prog 5 #[.agg #[.slice a1 m1 c1, .slice b1 n1 d1], .agg #[.slice a2 m2 c2, .slice b2 n2 d2]] w fun e w' => e = .returned (.bool true) ∧ Below w.heap.size w w' := by
  have HE : Hid _ := hE
  clear hE
  have HB : Hid (Below w.heap.size w w) := Below.refl _ _
  have HTb : Hid _ := hT
  clear hT
  have hu := bl_alloc (Below.refl w.heap.size w) (.cells #[.slice a1 m1 c1, .slice b1 n1 d1] 25)
  replace HB : Hid _ := bl_trans HB.out hu
  replace HTb : Hid _ := HTb.out.below hu
  clear hu
  have K10 : (w.alloc (.cells #[.slice a1 m1 c1, .slice b1 n1 d1] 25)).cell? ⟨w.heap.size, 0, none⟩ = some (.slice a1 m1 c1) := by first | rw [World.cell?_alloc_at _ _ _ _ (by simp)]; rfl | simp
  have K11 : (w.alloc (.cells #[.slice a1 m1 c1, .slice b1 n1 d1] 25)).cell? ⟨w.heap.size, 1, none⟩ = some (.slice b1 n1 d1) := by first | rw [World.cell?_alloc_at _ _ _ _ (by simp)]; rfl | simp
  have hu := bl_alloc (Below.refl (w.alloc (.cells #[.slice a1 m1 c1, .slice b1 n1 d1] 25)).heap.size (w.alloc (.cells #[.slice a1 m1 c1, .slice b1 n1 d1] 25))) (.cells #[.slice a2 m2 c2, .slice b2 n2 d2] 25)
  replace HB : Hid _ := bl_trans HB.out hu
  replace HTb : Hid _ := HTb.out.below hu
  replace K10 := cell_below hu K10
  replace K11 := cell_below hu K11
  clear hu
  have K20 : ((w.alloc (.cells #[.slice a1 m1 c1, .slice b1 n1 d1] 25)).alloc (.cells #[.slice a2 m2 c2, .slice b2 n2 d2] 25)).cell? ⟨w.heap.size + 1, 0, none⟩ = some (.slice a2 m2 c2) := by first | rw [World.cell?_alloc_at _ _ _ _ (by simp)]; rfl | simp
  have K21 : ((w.alloc (.cells #[.slice a1 m1 c1, .slice b1 n1 d1] 25)).alloc (.cells #[.slice a2 m2 c2, .slice b2 n2 d2] 25)).cell? ⟨w.heap.size + 1, 1, none⟩ = some (.slice b2 n2 d2) := by first | rw [World.cell?_alloc_at _ _ _ _ (by simp)]; rfl | simp
  go_enter Tryz.func5, Tryz.ntmps5
  go_wp2_with fail
  refine (hS1 _ HB.out).mono ?_
  rintro e w1 ⟨rfl, hb⟩
  have hu := hb
  replace HB : Hid _ := bl_trans HB.out hu
  replace HTb : Hid _ := HTb.out.below hu
  replace K10 := cell_below hu K10
  replace K11 := cell_below hu K11
  replace K20 := cell_below hu K20
  replace K21 := cell_below hu K21
  clear hu
  clear hb
  go_wp2_with fail
  refine (hS2 _ HB.out).mono ?_
  rintro e w2 ⟨rfl, hb⟩
  have hu := hb
  replace HB : Hid _ := bl_trans HB.out hu
  replace HTb : Hid _ := HTb.out.below hu
  replace K10 := cell_below hu K10
  replace K11 := cell_below hu K11
  replace K20 := cell_below hu K20
  replace K21 := cell_below hu K21
  clear hu
  clear hb
  go_wp2_with fail
  refine (hZ1 _ HB.out).mono ?_
  rintro e w3 ⟨rfl, hb⟩
  have hu := bl_alloc hb (.cells #[.slice none 0 0, .slice none 0 0] 25)
  replace HB : Hid _ := bl_trans HB.out hu
  replace HTb : Hid _ := HTb.out.below hu
  replace K10 := cell_below hu K10
  replace K11 := cell_below hu K11
  replace K20 := cell_below hu K20
  replace K21 := cell_below hu K21
  clear hu
  have Ks0 : (w3.alloc (.cells #[.slice none 0 0, .slice none 0 0] 25)).cell? ⟨w3.heap.size, 0, none⟩ = some (.slice none 0 0) := by simp
  have Ks1 : (w3.alloc (.cells #[.slice none 0 0, .slice none 0 0] 25)).cell? ⟨w3.heap.size, 1, none⟩ = some (.slice none 0 0) := by simp
  clear hb
  go_wp2_with fail
  refine (hZ2 _ HB.out).mono ?_
  rintro e w4 ⟨rfl, hb⟩
  have hu := bl_alloc hb (.cells #[.slice none 0 0, .slice none 0 0] 25)
  replace HB : Hid _ := bl_trans HB.out hu
  replace HTb : Hid _ := HTb.out.below hu
  replace K10 := cell_below hu K10
  replace K11 := cell_below hu K11
  replace K20 := cell_below hu K20
  replace K21 := cell_below hu K21
  replace Ks0 := cell_below hu Ks0
  replace Ks1 := cell_below hu Ks1
  clear hu
  have Kt0 : (w4.alloc (.cells #[.slice none 0 0, .slice none 0 0] 25)).cell? ⟨w4.heap.size, 0, none⟩ = some (.slice none 0 0) := by simp
  have Kt1 : (w4.alloc (.cells #[.slice none 0 0, .slice none 0 0] 25)).cell? ⟨w4.heap.size, 1, none⟩ = some (.slice none 0 0) := by simp
  clear hb
  go_wp2_with fail
  refine (hZ3 _ HB.out).mono ?_
  rintro e w5 ⟨rfl, hb⟩
  have hu := bl_alloc hb (.cells #[.slice none 0 0, .slice none 0 0] 25)
  replace HB : Hid _ := bl_trans HB.out hu
  replace HTb : Hid _ := HTb.out.below hu
  replace K10 := cell_below hu K10
  replace K11 := cell_below hu K11
  replace K20 := cell_below hu K20
  replace K21 := cell_below hu K21
  replace Ks0 := cell_below hu Ks0
  replace Ks1 := cell_below hu Ks1
  replace Kt0 := cell_below hu Kt0
  replace Kt1 := cell_below hu Kt1
  clear hu
  have Kd0 : (w5.alloc (.cells #[.slice none 0 0, .slice none 0 0] 25)).cell? ⟨w5.heap.size, 0, none⟩ = some (.slice none 0 0) := by simp
  have Kd1 : (w5.alloc (.cells #[.slice none 0 0, .slice none 0 0] 25)).cell? ⟨w5.heap.size, 1, none⟩ = some (.slice none 0 0) := by simp
  clear hb
  have hk := zscale c2 d2 (HE.out.below HB.out) HTb.out (-1) bdm1 (by omega)
  rw [lm1] at hk
  go_wp2_with fail
  refine (hk).mono ?_
  rintro e w6 ⟨a6', c6', b6', d6', rfl, hT, hb⟩
  have hu := bl_alloc hb (.cells #[.slice a6' m2 c6', .slice b6' n2 d6'] 25)
  replace HB : Hid _ := bl_trans HB.out hu
  replace HTb : Hid _ := HTb.out.below hu
  replace K10 := cell_below hu K10
  replace K11 := cell_below hu K11
  replace K20 := cell_below hu K20
  replace K21 := cell_below hu K21
  replace Ks0 := cell_below hu Ks0
  replace Ks1 := cell_below hu Ks1
  replace Kt0 := cell_below hu Kt0
  replace Kt1 := cell_below hu Kt1
  replace Kd0 := cell_below hu Kd0
  replace Kd1 := cell_below hu Kd1
  clear hu
  have HTn : Hid _ := hT.below (bl_alloc (Below.refl w6.heap.size w6) (.cells #[.slice a6' m2 c6', .slice b6' n2 d6'] 25))
  have Kn0 : (w6.alloc (.cells #[.slice a6' m2 c6', .slice b6' n2 d6'] 25)).cell? ⟨w6.heap.size, 0, none⟩ = some (.slice a6' m2 c6') := by simp
  have Kn1 : (w6.alloc (.cells #[.slice a6' m2 c6', .slice b6' n2 d6'] 25)).cell? ⟨w6.heap.size, 1, none⟩ = some (.slice b6' n2 d6') := by simp
  clear hb hT
  clear hk
  go_wp2_with fail
  refine (hZ5 _ _ _ _ c6' d6' HB.out HTn.out).mono ?_
  rintro e w7 ⟨rfl, hb⟩
  have hu := bl_alloc hb (.cells #[.slice none 0 0, .slice none 0 0] 25)
  replace HB : Hid _ := bl_trans HB.out hu
  replace HTb : Hid _ := HTb.out.below hu
  replace HTn : Hid _ := HTn.out.below hu
  replace K10 := cell_below hu K10
  replace K11 := cell_below hu K11
  replace K20 := cell_below hu K20
  replace K21 := cell_below hu K21
  replace Ks0 := cell_below hu Ks0
  replace Ks1 := cell_below hu Ks1
  replace Kt0 := cell_below hu Kt0
  replace Kt1 := cell_below hu Kt1
  replace Kd0 := cell_below hu Kd0
  replace Kd1 := cell_below hu Kd1
  replace Kn0 := cell_below hu Kn0
  replace Kn1 := cell_below hu Kn1
  clear hu
  have Km0 : (w7.alloc (.cells #[.slice none 0 0, .slice none 0 0] 25)).cell? ⟨w7.heap.size, 0, none⟩ = some (.slice none 0 0) := by simp
  have Km1 : (w7.alloc (.cells #[.slice none 0 0, .slice none 0 0] 25)).cell? ⟨w7.heap.size, 1, none⟩ = some (.slice none 0 0) := by simp
  clear hb
  go_wp2_with fail
  refine (awake_any aF aZ _ (HE.out.below HB.out)).mono ?_
  rintro e w8 ⟨rfl, hb⟩
  have hu := hb
  replace HB : Hid _ := bl_trans HB.out hu
  replace HTb : Hid _ := HTb.out.below hu
  replace HTn : Hid _ := HTn.out.below hu
  replace K10 := cell_below hu K10
  replace K11 := cell_below hu K11
  replace K20 := cell_below hu K20
  replace K21 := cell_below hu K21
  replace Ks0 := cell_below hu Ks0
  replace Ks1 := cell_below hu Ks1
  replace Kt0 := cell_below hu Kt0
  replace Kt1 := cell_below hu Kt1
  replace Kd0 := cell_below hu Kd0
  replace Kd1 := cell_below hu Kd1
  replace Kn0 := cell_below hu Kn0
  replace Kn1 := cell_below hu Kn1
  replace Km0 := cell_below hu Km0
  replace Km1 := cell_below hu Km1
  clear hu
  clear hb
  go_wp2
  go_ret
  exact ⟨rfl, HB.out⟩

set_option maxHeartbeats 4000000 in
theorem laws_good (a1 b1 a2 b2 : Option Addr) (c1 d1 m1 n1 c2 d2 m2 n2 : Nat) (zs : List Int) (qs rs : List Rat) (aF aZ : Addr) (w : World) (hE : Er w aF aZ)
    (hS1 : ∀ v, Below w.heap.size w v → Calls Tryz.prog 12 #[.agg #[.slice a1 m1 c1, .slice b1 n1 d1]] v fun e w' => e = .returned (.bool true) ∧ Below v.heap.size v w')
    (hS2 : ∀ v, Below w.heap.size w v → Calls Tryz.prog 12 #[.agg #[.slice a2 m2 c2, .slice b2 n2 d2]] v fun e w' => e = .returned (.bool true) ∧ Below v.heap.size v w') (hT1 : Tt w 0 a1 b1 zs m1 n1 qs 40) (hT2 : Tt w 0 a2 b2 zs m1 n1 rs 40) (e1 : m2 = m1) (e2 : n2 = n1) :
    Calls Tryz.prog 5 #[.agg #[.slice a1 m1 c1, .slice b1 n1 d1], .agg #[.slice a2 m2 c2, .slice b2 n2 d2]] w fun e w' => e = .returned (.bool true) ∧ Below w.heap.size w w' := by
  have HE : Hid _ := hE
  clear hE
  have HB : Hid (Below w.heap.size w w) := Below.refl _ _
  subst e1 e2
  have hle := hT1.le
  have HQ1 : Hid (Bd (tot qs) 2625) := (Bd.tot hT1.tr.b).mono (by have h1 := hT1.hn; have h2 : qs.length * (40 + 1) ≤ 64 * (40 + 1) := Nat.mul_le_mul_right _ (by omega); omega)
  have HQ2 : Hid (Bd (tot rs) 2625) := (Bd.tot hT2.tr.b).mono (by have h1 := hT2.hn; have h2 : rs.length * (40 + 1) ≤ 64 * (40 + 1) := Nat.mul_le_mul_right _ (by omega); omega)
  have HL : Hid (qs.length = rs.length) := by unfold Hid; rw [hT1.hn, hT2.hn]
  have HTa : Hid _ := hT1
  clear hT1
  have HTb : Hid _ := hT2
  clear hT2
  have hu := bl_alloc (Below.refl w.heap.size w) (.cells #[.slice a1 m2 c1, .slice b1 n2 d1] 25)
  replace HB : Hid _ := bl_trans HB.out hu
  replace HTa : Hid _ := HTa.out.below hu
  replace HTb : Hid _ := HTb.out.below hu
  clear hu
  have K10 : (w.alloc (.cells #[.slice a1 m2 c1, .slice b1 n2 d1] 25)).cell? ⟨w.heap.size, 0, none⟩ = some (.slice a1 m2 c1) := by first | rw [World.cell?_alloc_at _ _ _ _ (by simp)]; rfl | simp
  have K11 : (w.alloc (.cells #[.slice a1 m2 c1, .slice b1 n2 d1] 25)).cell? ⟨w.heap.size, 1, none⟩ = some (.slice b1 n2 d1) := by first | rw [World.cell?_alloc_at _ _ _ _ (by simp)]; rfl | simp
  have hu := bl_alloc (Below.refl (w.alloc (.cells #[.slice a1 m2 c1, .slice b1 n2 d1] 25)).heap.size (w.alloc (.cells #[.slice a1 m2 c1, .slice b1 n2 d1] 25))) (.cells #[.slice a2 m2 c2, .slice b2 n2 d2] 25)
  replace HB : Hid _ := bl_trans HB.out hu
  replace HTa : Hid _ := HTa.out.below hu
  replace HTb : Hid _ := HTb.out.below hu
  replace K10 := cell_below hu K10
  replace K11 := cell_below hu K11
  clear hu
  have K20 : ((w.alloc (.cells #[.slice a1 m2 c1, .slice b1 n2 d1] 25)).alloc (.cells #[.slice a2 m2 c2, .slice b2 n2 d2] 25)).cell? ⟨w.heap.size + 1, 0, none⟩ = some (.slice a2 m2 c2) := by first | rw [World.cell?_alloc_at _ _ _ _ (by simp)]; rfl | simp
  have K21 : ((w.alloc (.cells #[.slice a1 m2 c1, .slice b1 n2 d1] 25)).alloc (.cells #[.slice a2 m2 c2, .slice b2 n2 d2] 25)).cell? ⟨w.heap.size + 1, 1, none⟩ = some (.slice b2 n2 d2) := by first | rw [World.cell?_alloc_at _ _ _ _ (by simp)]; rfl | simp
  go_enter Tryz.func5, Tryz.ntmps5
  go_wp2_with fail
  refine (hS1 _ HB.out).mono ?_
  rintro e w1 ⟨rfl, hb⟩
  have hu := hb
  replace HB : Hid _ := bl_trans HB.out hu
  replace HTa : Hid _ := HTa.out.below hu
  replace HTb : Hid _ := HTb.out.below hu
  replace K10 := cell_below hu K10
  replace K11 := cell_below hu K11
  replace K20 := cell_below hu K20
  replace K21 := cell_below hu K21
  clear hu
  clear hb
  go_wp2_with fail
  refine (hS2 _ HB.out).mono ?_
  rintro e w2 ⟨rfl, hb⟩
  have hu := hb
  replace HB : Hid _ := bl_trans HB.out hu
  replace HTa : Hid _ := HTa.out.below hu
  replace HTb : Hid _ := HTb.out.below hu
  replace K10 := cell_below hu K10
  replace K11 := cell_below hu K11
  replace K20 := cell_below hu K20
  replace K21 := cell_below hu K21
  clear hu
  clear hb
  go_wp2_with fail
  refine (zadd c1 d1 c2 d2 (HE.out.below HB.out) HTa.out HTb.out (by omega)).mono ?_
  rintro e w3 ⟨a3', c3', b3', d3', rfl, hT, hb⟩
  have hu := bl_alloc hb (.cells #[.slice a3' m2 c3', .slice b3' n2 d3'] 25)
  replace HB : Hid _ := bl_trans HB.out hu
  replace HTa : Hid _ := HTa.out.below hu
  replace HTb : Hid _ := HTb.out.below hu
  replace K10 := cell_below hu K10
  replace K11 := cell_below hu K11
  replace K20 := cell_below hu K20
  replace K21 := cell_below hu K21
  clear hu
  have HTs : Hid _ := hT.below (bl_alloc (Below.refl w3.heap.size w3) (.cells #[.slice a3' m2 c3', .slice b3' n2 d3'] 25))
  have Ks0 : (w3.alloc (.cells #[.slice a3' m2 c3', .slice b3' n2 d3'] 25)).cell? ⟨w3.heap.size, 0, none⟩ = some (.slice a3' m2 c3') := by simp
  have Ks1 : (w3.alloc (.cells #[.slice a3' m2 c3', .slice b3' n2 d3'] 25)).cell? ⟨w3.heap.size, 1, none⟩ = some (.slice b3' n2 d3') := by simp
  clear hb hT
  go_wp2_with fail
  refine (zadd c2 d2 c1 d1 (HE.out.below HB.out) HTb.out HTa.out (by omega)).mono ?_
  rintro e w4 ⟨a4', c4', b4', d4', rfl, hT, hb⟩
  have hu := bl_alloc hb (.cells #[.slice a4' m2 c4', .slice b4' n2 d4'] 25)
  replace HB : Hid _ := bl_trans HB.out hu
  replace HTa : Hid _ := HTa.out.below hu
  replace HTb : Hid _ := HTb.out.below hu
  replace HTs : Hid _ := HTs.out.below hu
  replace K10 := cell_below hu K10
  replace K11 := cell_below hu K11
  replace K20 := cell_below hu K20
  replace K21 := cell_below hu K21
  replace Ks0 := cell_below hu Ks0
  replace Ks1 := cell_below hu Ks1
  clear hu
  have HTt : Hid _ := hT.below (bl_alloc (Below.refl w4.heap.size w4) (.cells #[.slice a4' m2 c4', .slice b4' n2 d4'] 25))
  have Kt0 : (w4.alloc (.cells #[.slice a4' m2 c4', .slice b4' n2 d4'] 25)).cell? ⟨w4.heap.size, 0, none⟩ = some (.slice a4' m2 c4') := by simp
  have Kt1 : (w4.alloc (.cells #[.slice a4' m2 c4', .slice b4' n2 d4'] 25)).cell? ⟨w4.heap.size, 1, none⟩ = some (.slice b4' n2 d4') := by simp
  clear hb hT
  go_wp2_with fail
  refine (zsub c1 d1 c2 d2 (HE.out.below HB.out) HTa.out HTb.out (by omega)).mono ?_
  rintro e w5 ⟨a5', c5', b5', d5', rfl, hT, hb⟩
  have hu := bl_alloc hb (.cells #[.slice a5' m2 c5', .slice b5' n2 d5'] 25)
  replace HB : Hid _ := bl_trans HB.out hu
  replace HTa : Hid _ := HTa.out.below hu
  replace HTb : Hid _ := HTb.out.below hu
  replace HTs : Hid _ := HTs.out.below hu
  replace HTt : Hid _ := HTt.out.below hu
  replace K10 := cell_below hu K10
  replace K11 := cell_below hu K11
  replace K20 := cell_below hu K20
  replace K21 := cell_below hu K21
  replace Ks0 := cell_below hu Ks0
  replace Ks1 := cell_below hu Ks1
  replace Kt0 := cell_below hu Kt0
  replace Kt1 := cell_below hu Kt1
  clear hu
  have HTd : Hid _ := hT.below (bl_alloc (Below.refl w5.heap.size w5) (.cells #[.slice a5' m2 c5', .slice b5' n2 d5'] 25))
  have Kd0 : (w5.alloc (.cells #[.slice a5' m2 c5', .slice b5' n2 d5'] 25)).cell? ⟨w5.heap.size, 0, none⟩ = some (.slice a5' m2 c5') := by simp
  have Kd1 : (w5.alloc (.cells #[.slice a5' m2 c5', .slice b5' n2 d5'] 25)).cell? ⟨w5.heap.size, 1, none⟩ = some (.slice b5' n2 d5') := by simp
  clear hb hT
  have hk := zscale c2 d2 (HE.out.below HB.out) HTb.out (-1) bdm1 (by omega)
  rw [lm1] at hk
  go_wp2_with fail
  refine (hk).mono ?_
  rintro e w6 ⟨a6', c6', b6', d6', rfl, hT, hb⟩
  have hu := bl_alloc hb (.cells #[.slice a6' m2 c6', .slice b6' n2 d6'] 25)
  replace HB : Hid _ := bl_trans HB.out hu
  replace HTa : Hid _ := HTa.out.below hu
  replace HTb : Hid _ := HTb.out.below hu
  replace HTs : Hid _ := HTs.out.below hu
  replace HTt : Hid _ := HTt.out.below hu
  replace HTd : Hid _ := HTd.out.below hu
  replace K10 := cell_below hu K10
  replace K11 := cell_below hu K11
  replace K20 := cell_below hu K20
  replace K21 := cell_below hu K21
  replace Ks0 := cell_below hu Ks0
  replace Ks1 := cell_below hu Ks1
  replace Kt0 := cell_below hu Kt0
  replace Kt1 := cell_below hu Kt1
  replace Kd0 := cell_below hu Kd0
  replace Kd1 := cell_below hu Kd1
  clear hu
  have HTn : Hid _ := hT.below (bl_alloc (Below.refl w6.heap.size w6) (.cells #[.slice a6' m2 c6', .slice b6' n2 d6'] 25))
  have Kn0 : (w6.alloc (.cells #[.slice a6' m2 c6', .slice b6' n2 d6'] 25)).cell? ⟨w6.heap.size, 0, none⟩ = some (.slice a6' m2 c6') := by simp
  have Kn1 : (w6.alloc (.cells #[.slice a6' m2 c6', .slice b6' n2 d6'] 25)).cell? ⟨w6.heap.size, 1, none⟩ = some (.slice b6' n2 d6') := by simp
  clear hb hT
  clear hk
  go_wp2_with fail
  refine (zadd c1 d1 c6' d6' (HE.out.below HB.out) HTa.out HTn.out (by omega)).mono ?_
  rintro e w7 ⟨a7', c7', b7', d7', rfl, hT, hb⟩
  have hu := bl_alloc hb (.cells #[.slice a7' m2 c7', .slice b7' n2 d7'] 25)
  replace HB : Hid _ := bl_trans HB.out hu
  replace HTa : Hid _ := HTa.out.below hu
  replace HTb : Hid _ := HTb.out.below hu
  replace HTs : Hid _ := HTs.out.below hu
  replace HTt : Hid _ := HTt.out.below hu
  replace HTd : Hid _ := HTd.out.below hu
  replace HTn : Hid _ := HTn.out.below hu
  replace K10 := cell_below hu K10
  replace K11 := cell_below hu K11
  replace K20 := cell_below hu K20
  replace K21 := cell_below hu K21
  replace Ks0 := cell_below hu Ks0
  replace Ks1 := cell_below hu Ks1
  replace Kt0 := cell_below hu Kt0
  replace Kt1 := cell_below hu Kt1
  replace Kd0 := cell_below hu Kd0
  replace Kd1 := cell_below hu Kd1
  replace Kn0 := cell_below hu Kn0
  replace Kn1 := cell_below hu Kn1
  clear hu
  have HTm : Hid _ := hT.below (bl_alloc (Below.refl w7.heap.size w7) (.cells #[.slice a7' m2 c7', .slice b7' n2 d7'] 25))
  have Km0 : (w7.alloc (.cells #[.slice a7' m2 c7', .slice b7' n2 d7'] 25)).cell? ⟨w7.heap.size, 0, none⟩ = some (.slice a7' m2 c7') := by simp
  have Km1 : (w7.alloc (.cells #[.slice a7' m2 c7', .slice b7' n2 d7'] 25)).cell? ⟨w7.heap.size, 1, none⟩ = some (.slice b7' n2 d7') := by simp
  clear hb hT
  go_wp2_with fail
  refine (zsum c1 d1 (HE.out.below HB.out) HTa.out (by omega)).mono ?_
  rintro e w8 ⟨rfl, hb⟩
  have hu := hb
  replace HB : Hid _ := bl_trans HB.out hu
  replace HTa : Hid _ := HTa.out.below hu
  replace HTb : Hid _ := HTb.out.below hu
  replace HTs : Hid _ := HTs.out.below hu
  replace HTt : Hid _ := HTt.out.below hu
  replace HTd : Hid _ := HTd.out.below hu
  replace HTn : Hid _ := HTn.out.below hu
  replace HTm : Hid _ := HTm.out.below hu
  replace K10 := cell_below hu K10
  replace K11 := cell_below hu K11
  replace K20 := cell_below hu K20
  replace K21 := cell_below hu K21
  replace Ks0 := cell_below hu Ks0
  replace Ks1 := cell_below hu Ks1
  replace Kt0 := cell_below hu Kt0
  replace Kt1 := cell_below hu Kt1
  replace Kd0 := cell_below hu Kd0
  replace Kd1 := cell_below hu Kd1
  replace Kn0 := cell_below hu Kn0
  replace Kn1 := cell_below hu Kn1
  replace Km0 := cell_below hu Km0
  replace Km1 := cell_below hu Km1
  clear hu
  clear hb
  go_wp2_with fail
  refine (zsum c2 d2 (HE.out.below HB.out) HTb.out (by omega)).mono ?_
  rintro e w9 ⟨rfl, hb⟩
  have hu := hb
  replace HB : Hid _ := bl_trans HB.out hu
  replace HTa : Hid _ := HTa.out.below hu
  replace HTb : Hid _ := HTb.out.below hu
  replace HTs : Hid _ := HTs.out.below hu
  replace HTt : Hid _ := HTt.out.below hu
  replace HTd : Hid _ := HTd.out.below hu
  replace HTn : Hid _ := HTn.out.below hu
  replace HTm : Hid _ := HTm.out.below hu
  replace K10 := cell_below hu K10
  replace K11 := cell_below hu K11
  replace K20 := cell_below hu K20
  replace K21 := cell_below hu K21
  replace Ks0 := cell_below hu Ks0
  replace Ks1 := cell_below hu Ks1
  replace Kt0 := cell_below hu Kt0
  replace Kt1 := cell_below hu Kt1
  replace Kd0 := cell_below hu Kd0
  replace Kd1 := cell_below hu Kd1
  replace Kn0 := cell_below hu Kn0
  replace Kn1 := cell_below hu Kn1
  replace Km0 := cell_below hu Km0
  replace Km1 := cell_below hu Km1
  clear hu
  clear hb
  have hk := zsum c3' d3' (HE.out.below HB.out) HTs.out (by omega)
  rw [tot_zip HL.out] at hk
  go_wp2_with fail
  refine (hk).mono ?_
  rintro e w10 ⟨rfl, hb⟩
  have hu := hb
  replace HB : Hid _ := bl_trans HB.out hu
  replace HTa : Hid _ := HTa.out.below hu
  replace HTb : Hid _ := HTb.out.below hu
  replace HTs : Hid _ := HTs.out.below hu
  replace HTt : Hid _ := HTt.out.below hu
  replace HTd : Hid _ := HTd.out.below hu
  replace HTn : Hid _ := HTn.out.below hu
  replace HTm : Hid _ := HTm.out.below hu
  replace K10 := cell_below hu K10
  replace K11 := cell_below hu K11
  replace K20 := cell_below hu K20
  replace K21 := cell_below hu K21
  replace Ks0 := cell_below hu Ks0
  replace Ks1 := cell_below hu Ks1
  replace Kt0 := cell_below hu Kt0
  replace Kt1 := cell_below hu Kt1
  replace Kd0 := cell_below hu Kd0
  replace Kd1 := cell_below hu Kd1
  replace Kn0 := cell_below hu Kn0
  replace Kn1 := cell_below hu Kn1
  replace Km0 := cell_below hu Km0
  replace Km1 := cell_below hu Km1
  clear hu
  clear hb
  clear hk
  have hu := bl_alloc (Below.refl w10.heap.size w10) (.cells #[.string (R (tot qs))] 9)
  replace HB : Hid _ := bl_trans HB.out hu
  replace HTa : Hid _ := HTa.out.below hu
  replace HTb : Hid _ := HTb.out.below hu
  replace HTs : Hid _ := HTs.out.below hu
  replace HTt : Hid _ := HTt.out.below hu
  replace HTd : Hid _ := HTd.out.below hu
  replace HTn : Hid _ := HTn.out.below hu
  replace HTm : Hid _ := HTm.out.below hu
  replace K10 := cell_below hu K10
  replace K11 := cell_below hu K11
  replace K20 := cell_below hu K20
  replace K21 := cell_below hu K21
  replace Ks0 := cell_below hu Ks0
  replace Ks1 := cell_below hu Ks1
  replace Kt0 := cell_below hu Kt0
  replace Kt1 := cell_below hu Kt1
  replace Kd0 := cell_below hu Kd0
  replace Kd1 := cell_below hu Kd1
  replace Kn0 := cell_below hu Kn0
  replace Kn1 := cell_below hu Kn1
  replace Km0 := cell_below hu Km0
  replace Km1 := cell_below hu Km1
  clear hu
  have Kp0 : (w10.alloc (.cells #[.string (R (tot qs))] 9)).cell? ⟨w10.heap.size, 0, none⟩ = some (.string (R (tot qs))) := by first | rw [World.cell?_alloc_at _ _ _ _ (by simp)]; rfl | simp
  have HTp : Hid _ := Tt.one (B := 0) Kp0 (Nat.zero_le _) HQ1.out
  have hu := bl_alloc (Below.refl (w10.alloc (.cells #[.string (R (tot qs))] 9)).heap.size (w10.alloc (.cells #[.string (R (tot qs))] 9))) (.cells #[.slice none 0 0, .slice (some ⟨w10.heap.size, 0, none⟩) 1 1] 25)
  replace HB : Hid _ := bl_trans HB.out hu
  replace HTa : Hid _ := HTa.out.below hu
  replace HTb : Hid _ := HTb.out.below hu
  replace HTs : Hid _ := HTs.out.below hu
  replace HTt : Hid _ := HTt.out.below hu
  replace HTd : Hid _ := HTd.out.below hu
  replace HTn : Hid _ := HTn.out.below hu
  replace HTm : Hid _ := HTm.out.below hu
  replace HTp : Hid _ := HTp.out.below hu
  replace K10 := cell_below hu K10
  replace K11 := cell_below hu K11
  replace K20 := cell_below hu K20
  replace K21 := cell_below hu K21
  replace Ks0 := cell_below hu Ks0
  replace Ks1 := cell_below hu Ks1
  replace Kt0 := cell_below hu Kt0
  replace Kt1 := cell_below hu Kt1
  replace Kd0 := cell_below hu Kd0
  replace Kd1 := cell_below hu Kd1
  replace Kn0 := cell_below hu Kn0
  replace Kn1 := cell_below hu Kn1
  replace Km0 := cell_below hu Km0
  replace Km1 := cell_below hu Km1
  replace Kp0 := cell_below hu Kp0
  clear hu
  have KP0 : ((w10.alloc (.cells #[.string (R (tot qs))] 9)).alloc (.cells #[.slice none 0 0, .slice (some ⟨w10.heap.size, 0, none⟩) 1 1] 25)).cell? ⟨w10.heap.size + 1, 0, none⟩ = some (.slice none 0 0) := by first | rw [World.cell?_alloc_at _ _ _ _ (by simp)]; rfl | simp
  have KP1 : ((w10.alloc (.cells #[.string (R (tot qs))] 9)).alloc (.cells #[.slice none 0 0, .slice (some ⟨w10.heap.size, 0, none⟩) 1 1] 25)).cell? ⟨w10.heap.size + 1, 1, none⟩ = some (.slice (some ⟨w10.heap.size, 0, none⟩) 1 1) := by first | rw [World.cell?_alloc_at _ _ _ _ (by simp)]; rfl | simp
  have hu := bl_alloc (Below.refl ((w10.alloc (.cells #[.string (R (tot qs))] 9)).alloc (.cells #[.slice none 0 0, .slice (some ⟨w10.heap.size, 0, none⟩) 1 1] 25)).heap.size ((w10.alloc (.cells #[.string (R (tot qs))] 9)).alloc (.cells #[.slice none 0 0, .slice (some ⟨w10.heap.size, 0, none⟩) 1 1] 25))) (.cells #[.string (R (tot rs))] 9)
  replace HB : Hid _ := bl_trans HB.out hu
  replace HTa : Hid _ := HTa.out.below hu
  replace HTb : Hid _ := HTb.out.below hu
  replace HTs : Hid _ := HTs.out.below hu
  replace HTt : Hid _ := HTt.out.below hu
  replace HTd : Hid _ := HTd.out.below hu
  replace HTn : Hid _ := HTn.out.below hu
  replace HTm : Hid _ := HTm.out.below hu
  replace HTp : Hid _ := HTp.out.below hu
  replace K10 := cell_below hu K10
  replace K11 := cell_below hu K11
  replace K20 := cell_below hu K20
  replace K21 := cell_below hu K21
  replace Ks0 := cell_below hu Ks0
  replace Ks1 := cell_below hu Ks1
  replace Kt0 := cell_below hu Kt0
  replace Kt1 := cell_below hu Kt1
  replace Kd0 := cell_below hu Kd0
  replace Kd1 := cell_below hu Kd1
  replace Kn0 := cell_below hu Kn0
  replace Kn1 := cell_below hu Kn1
  replace Km0 := cell_below hu Km0
  replace Km1 := cell_below hu Km1
  replace Kp0 := cell_below hu Kp0
  replace KP0 := cell_below hu KP0
  replace KP1 := cell_below hu KP1
  clear hu
  have Kq0 : (((w10.alloc (.cells #[.string (R (tot qs))] 9)).alloc (.cells #[.slice none 0 0, .slice (some ⟨w10.heap.size, 0, none⟩) 1 1] 25)).alloc (.cells #[.string (R (tot rs))] 9)).cell? ⟨w10.heap.size + 1 + 1, 0, none⟩ = some (.string (R (tot rs))) := by first | rw [World.cell?_alloc_at _ _ _ _ (by simp)]; rfl | simp
  have HTq : Hid _ := Tt.one (B := 0) Kq0 (Nat.zero_le _) HQ2.out
  have hu := bl_alloc (Below.refl (((w10.alloc (.cells #[.string (R (tot qs))] 9)).alloc (.cells #[.slice none 0 0, .slice (some ⟨w10.heap.size, 0, none⟩) 1 1] 25)).alloc (.cells #[.string (R (tot rs))] 9)).heap.size (((w10.alloc (.cells #[.string (R (tot qs))] 9)).alloc (.cells #[.slice none 0 0, .slice (some ⟨w10.heap.size, 0, none⟩) 1 1] 25)).alloc (.cells #[.string (R (tot rs))] 9))) (.cells #[.slice none 0 0, .slice (some ⟨w10.heap.size + 1 + 1, 0, none⟩) 1 1] 25)
  replace HB : Hid _ := bl_trans HB.out hu
  replace HTa : Hid _ := HTa.out.below hu
  replace HTb : Hid _ := HTb.out.below hu
  replace HTs : Hid _ := HTs.out.below hu
  replace HTt : Hid _ := HTt.out.below hu
  replace HTd : Hid _ := HTd.out.below hu
  replace HTn : Hid _ := HTn.out.below hu
  replace HTm : Hid _ := HTm.out.below hu
  replace HTp : Hid _ := HTp.out.below hu
  replace HTq : Hid _ := HTq.out.below hu
  replace K10 := cell_below hu K10
  replace K11 := cell_below hu K11
  replace K20 := cell_below hu K20
  replace K21 := cell_below hu K21
  replace Ks0 := cell_below hu Ks0
  replace Ks1 := cell_below hu Ks1
  replace Kt0 := cell_below hu Kt0
  replace Kt1 := cell_below hu Kt1
  replace Kd0 := cell_below hu Kd0
  replace Kd1 := cell_below hu Kd1
  replace Kn0 := cell_below hu Kn0
  replace Kn1 := cell_below hu Kn1
  replace Km0 := cell_below hu Km0
  replace Km1 := cell_below hu Km1
  replace Kp0 := cell_below hu Kp0
  replace KP0 := cell_below hu KP0
  replace KP1 := cell_below hu KP1
  replace Kq0 := cell_below hu Kq0
  clear hu
  have KQ0 : ((((w10.alloc (.cells #[.string (R (tot qs))] 9)).alloc (.cells #[.slice none 0 0, .slice (some ⟨w10.heap.size, 0, none⟩) 1 1] 25)).alloc (.cells #[.string (R (tot rs))] 9)).alloc (.cells #[.slice none 0 0, .slice (some ⟨w10.heap.size + 1 + 1, 0, none⟩) 1 1] 25)).cell? ⟨w10.heap.size + 1 + 1 + 1, 0, none⟩ = some (.slice none 0 0) := by first | rw [World.cell?_alloc_at _ _ _ _ (by simp)]; rfl | simp
  have KQ1 : ((((w10.alloc (.cells #[.string (R (tot qs))] 9)).alloc (.cells #[.slice none 0 0, .slice (some ⟨w10.heap.size, 0, none⟩) 1 1] 25)).alloc (.cells #[.string (R (tot rs))] 9)).alloc (.cells #[.slice none 0 0, .slice (some ⟨w10.heap.size + 1 + 1, 0, none⟩) 1 1] 25)).cell? ⟨w10.heap.size + 1 + 1 + 1, 1, none⟩ = some (.slice (some ⟨w10.heap.size + 1 + 1, 0, none⟩) 1 1) := by first | rw [World.cell?_alloc_at _ _ _ _ (by simp)]; rfl | simp
  go_wp2_with fail
  refine (zadd 0 1 0 1 (HE.out.below HB.out) HTp.out HTq.out (by omega)).mono ?_
  rintro e w11 ⟨a11', c11', b11', d11', rfl, hT, hb⟩
  have hu := bl_alloc hb (.cells #[.slice a11' 0 c11', .slice b11' 1 d11'] 25)
  replace HB : Hid _ := bl_trans HB.out hu
  replace HTa : Hid _ := HTa.out.below hu
  replace HTb : Hid _ := HTb.out.below hu
  replace HTs : Hid _ := HTs.out.below hu
  replace HTt : Hid _ := HTt.out.below hu
  replace HTd : Hid _ := HTd.out.below hu
  replace HTn : Hid _ := HTn.out.below hu
  replace HTm : Hid _ := HTm.out.below hu
  replace HTp : Hid _ := HTp.out.below hu
  replace HTq : Hid _ := HTq.out.below hu
  replace K10 := cell_below hu K10
  replace K11 := cell_below hu K11
  replace K20 := cell_below hu K20
  replace K21 := cell_below hu K21
  replace Ks0 := cell_below hu Ks0
  replace Ks1 := cell_below hu Ks1
  replace Kt0 := cell_below hu Kt0
  replace Kt1 := cell_below hu Kt1
  replace Kd0 := cell_below hu Kd0
  replace Kd1 := cell_below hu Kd1
  replace Kn0 := cell_below hu Kn0
  replace Kn1 := cell_below hu Kn1
  replace Km0 := cell_below hu Km0
  replace Km1 := cell_below hu Km1
  replace Kp0 := cell_below hu Kp0
  replace KP0 := cell_below hu KP0
  replace KP1 := cell_below hu KP1
  replace Kq0 := cell_below hu Kq0
  replace KQ0 := cell_below hu KQ0
  replace KQ1 := cell_below hu KQ1
  clear hu
  have HTu : Hid _ := hT.below (bl_alloc (Below.refl w11.heap.size w11) (.cells #[.slice a11' 0 c11', .slice b11' 1 d11'] 25))
  have Ku0 : (w11.alloc (.cells #[.slice a11' 0 c11', .slice b11' 1 d11'] 25)).cell? ⟨w11.heap.size, 0, none⟩ = some (.slice a11' 0 c11') := by simp
  have Ku1 : (w11.alloc (.cells #[.slice a11' 0 c11', .slice b11' 1 d11'] 25)).cell? ⟨w11.heap.size, 1, none⟩ = some (.slice b11' 1 d11') := by simp
  clear hb hT
  go_wp2_with fail
  refine (zeq c3' d3' c4' d4' HTs.out HTt.out (zip_comm qs rs)).mono ?_
  rintro e w12 ⟨rfl, hb⟩
  have hu := hb
  replace HB : Hid _ := bl_trans HB.out hu
  replace HTa : Hid _ := HTa.out.below hu
  replace HTb : Hid _ := HTb.out.below hu
  replace HTs : Hid _ := HTs.out.below hu
  replace HTt : Hid _ := HTt.out.below hu
  replace HTd : Hid _ := HTd.out.below hu
  replace HTn : Hid _ := HTn.out.below hu
  replace HTm : Hid _ := HTm.out.below hu
  replace HTp : Hid _ := HTp.out.below hu
  replace HTq : Hid _ := HTq.out.below hu
  replace HTu : Hid _ := HTu.out.below hu
  replace K10 := cell_below hu K10
  replace K11 := cell_below hu K11
  replace K20 := cell_below hu K20
  replace K21 := cell_below hu K21
  replace Ks0 := cell_below hu Ks0
  replace Ks1 := cell_below hu Ks1
  replace Kt0 := cell_below hu Kt0
  replace Kt1 := cell_below hu Kt1
  replace Kd0 := cell_below hu Kd0
  replace Kd1 := cell_below hu Kd1
  replace Kn0 := cell_below hu Kn0
  replace Kn1 := cell_below hu Kn1
  replace Km0 := cell_below hu Km0
  replace Km1 := cell_below hu Km1
  replace Kp0 := cell_below hu Kp0
  replace KP0 := cell_below hu KP0
  replace KP1 := cell_below hu KP1
  replace Kq0 := cell_below hu Kq0
  replace KQ0 := cell_below hu KQ0
  replace KQ1 := cell_below hu KQ1
  replace Ku0 := cell_below hu Ku0
  replace Ku1 := cell_below hu Ku1
  clear hu
  clear hb
  go_wp2_with fail
  refine (zeq c5' d5' c7' d7' HTd.out HTm.out (zip_sub qs rs)).mono ?_
  rintro e w13 ⟨rfl, hb⟩
  have hu := hb
  replace HB : Hid _ := bl_trans HB.out hu
  replace HTa : Hid _ := HTa.out.below hu
  replace HTb : Hid _ := HTb.out.below hu
  replace HTs : Hid _ := HTs.out.below hu
  replace HTt : Hid _ := HTt.out.below hu
  replace HTd : Hid _ := HTd.out.below hu
  replace HTn : Hid _ := HTn.out.below hu
  replace HTm : Hid _ := HTm.out.below hu
  replace HTp : Hid _ := HTp.out.below hu
  replace HTq : Hid _ := HTq.out.below hu
  replace HTu : Hid _ := HTu.out.below hu
  replace K10 := cell_below hu K10
  replace K11 := cell_below hu K11
  replace K20 := cell_below hu K20
  replace K21 := cell_below hu K21
  replace Ks0 := cell_below hu Ks0
  replace Ks1 := cell_below hu Ks1
  replace Kt0 := cell_below hu Kt0
  replace Kt1 := cell_below hu Kt1
  replace Kd0 := cell_below hu Kd0
  replace Kd1 := cell_below hu Kd1
  replace Kn0 := cell_below hu Kn0
  replace Kn1 := cell_below hu Kn1
  replace Km0 := cell_below hu Km0
  replace Km1 := cell_below hu Km1
  replace Kp0 := cell_below hu Kp0
  replace KP0 := cell_below hu KP0
  replace KP1 := cell_below hu KP1
  replace Kq0 := cell_below hu Kq0
  replace KQ0 := cell_below hu KQ0
  replace KQ1 := cell_below hu KQ1
  replace Ku0 := cell_below hu Ku0
  replace Ku1 := cell_below hu Ku1
  clear hu
  clear hb
  obtain ⟨p, q, eb, hc⟩ := row_str HTu.out.tm.r (i := 0) (by simp)
  simp only [List.zipWith_cons_cons, List.zipWith_nil_right, List.map_cons, List.map_nil, List.getD, List.getElem?_cons_zero, Option.getD_some, Nat.add_zero] at hc
  have HC : Hid _ := hc
  subst eb
  go_wp2_with fail
  refine (awake_any aF aZ _ (HE.out.below HB.out)).mono ?_
  rintro e w14 ⟨rfl, hb⟩
  have hu := hb
  replace HB : Hid _ := bl_trans HB.out hu
  replace HTa : Hid _ := HTa.out.below hu
  replace HTb : Hid _ := HTb.out.below hu
  replace HTs : Hid _ := HTs.out.below hu
  replace HTt : Hid _ := HTt.out.below hu
  replace HTd : Hid _ := HTd.out.below hu
  replace HTn : Hid _ := HTn.out.below hu
  replace HTm : Hid _ := HTm.out.below hu
  replace HTp : Hid _ := HTp.out.below hu
  replace HTq : Hid _ := HTq.out.below hu
  replace HTu : Hid _ := HTu.out.below hu
  replace K10 := cell_below hu K10
  replace K11 := cell_below hu K11
  replace K20 := cell_below hu K20
  replace K21 := cell_below hu K21
  replace Ks0 := cell_below hu Ks0
  replace Ks1 := cell_below hu Ks1
  replace Kt0 := cell_below hu Kt0
  replace Kt1 := cell_below hu Kt1
  replace Kd0 := cell_below hu Kd0
  replace Kd1 := cell_below hu Kd1
  replace Kn0 := cell_below hu Kn0
  replace Kn1 := cell_below hu Kn1
  replace Km0 := cell_below hu Km0
  replace Km1 := cell_below hu Km1
  replace Kp0 := cell_below hu Kp0
  replace KP0 := cell_below hu KP0
  replace KP1 := cell_below hu KP1
  replace Kq0 := cell_below hu Kq0
  replace KQ0 := cell_below hu KQ0
  replace KQ1 := cell_below hu KQ1
  replace Ku0 := cell_below hu Ku0
  replace Ku1 := cell_below hu Ku1
  clear hu
  clear hb
  go_wp2
  go_ret
  exact ⟨rfl, HB.out⟩
end Go.Proofs.YtfblgaffkflenaaGreatDoor.Tn
