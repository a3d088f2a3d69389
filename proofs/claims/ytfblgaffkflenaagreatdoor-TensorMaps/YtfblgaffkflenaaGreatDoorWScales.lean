/-
  THE WALK OF TensorScales. Conditions: what the arguments hold.
-/
import Derived.Test.YtfblgaffkflenaaGreatDoorWPowers
namespace Go.Proofs.YtfblgaffkflenaaGreatDoor.Tn
set_option maxRecDepth 100000
open Go.RowKit Nm
set_option linter.unusedVariables false

set_option maxHeartbeats 4000000 in
theorem scales_long1 (a1 b1 : Option Addr) (c1 d1 m1 n1 : Nat) (y z : ByteArray) (aF aZ : Addr) (w : World) (hE : Er w aF aZ)
    (hS1 : ∀ v, Below w.heap.size w v → Calls Tryz.prog 12 #[.agg #[.slice a1 m1 c1, .slice b1 n1 d1]] v fun e w' => e = .returned (.bool false) ∧ Below v.heap.size v w') :
    Calls Tryz.prog 9 #[.agg #[.slice a1 m1 c1, .slice b1 n1 d1], .string y, .string z] w fun e w' => e = .returned (.bool true) ∧ Below w.heap.size w w' := by
  have HE : Hid _ := hE
  clear hE
  have HB : Hid (Below w.heap.size w w) := Below.refl _ _
  have hu := bl_alloc (Below.refl w.heap.size w) (.cells #[.slice a1 m1 c1, .slice b1 n1 d1] 25)
  replace HB : Hid _ := bl_trans HB.out hu
  clear hu
  have K10 : (w.alloc (.cells #[.slice a1 m1 c1, .slice b1 n1 d1] 25)).cell? ⟨w.heap.size, 0, none⟩ = some (.slice a1 m1 c1) := by first | rw [World.cell?_alloc_at _ _ _ _ (by simp)]; rfl | simp
  have K11 : (w.alloc (.cells #[.slice a1 m1 c1, .slice b1 n1 d1] 25)).cell? ⟨w.heap.size, 1, none⟩ = some (.slice b1 n1 d1) := by first | rw [World.cell?_alloc_at _ _ _ _ (by simp)]; rfl | simp
  go_enter Tryz.func9, Tryz.ntmps9
  go_wp2_with fail
  refine (hS1 _ HB.out).mono ?_
  rintro e w1 ⟨rfl, hb⟩
  have hu := hb
  replace HB : Hid _ := bl_trans HB.out hu
  replace K10 := cell_below hu K10
  replace K11 := cell_below hu K11
  clear hu
  clear hb
  go_wp2_with fail
  refine (awake_any aF aZ _ (HE.out.below HB.out)).mono ?_
  rintro e w2 ⟨rfl, hb⟩
  have hu := hb
  replace HB : Hid _ := bl_trans HB.out hu
  replace K10 := cell_below hu K10
  replace K11 := cell_below hu K11
  clear hu
  clear hb
  go_wp2
  go_ret
  exact ⟨rfl, HB.out⟩

set_option maxHeartbeats 4000000 in
theorem scales_long2 (a1 b1 : Option Addr) (c1 d1 m1 n1 : Nat) (y z : ByteArray) (aF aZ : Addr) (w : World) (hE : Er w aF aZ)
    (hS1 : ∀ v, Below w.heap.size w v → Calls Tryz.prog 12 #[.agg #[.slice a1 m1 c1, .slice b1 n1 d1]] v fun e w' => e = .returned (.bool true) ∧ Below v.heap.size v w') (hy : 20 < y.size) :
    Calls Tryz.prog 9 #[.agg #[.slice a1 m1 c1, .slice b1 n1 d1], .string y, .string z] w fun e w' => e = .returned (.bool true) ∧ Below w.heap.size w w' := by
  have HE : Hid _ := hE
  clear hE
  have HB : Hid (Below w.heap.size w w) := Below.refl _ _
  have hu := bl_alloc (Below.refl w.heap.size w) (.cells #[.slice a1 m1 c1, .slice b1 n1 d1] 25)
  replace HB : Hid _ := bl_trans HB.out hu
  clear hu
  have K10 : (w.alloc (.cells #[.slice a1 m1 c1, .slice b1 n1 d1] 25)).cell? ⟨w.heap.size, 0, none⟩ = some (.slice a1 m1 c1) := by first | rw [World.cell?_alloc_at _ _ _ _ (by simp)]; rfl | simp
  have K11 : (w.alloc (.cells #[.slice a1 m1 c1, .slice b1 n1 d1] 25)).cell? ⟨w.heap.size, 1, none⟩ = some (.slice b1 n1 d1) := by first | rw [World.cell?_alloc_at _ _ _ _ (by simp)]; rfl | simp
  go_enter Tryz.func9, Tryz.ntmps9
  go_wp2_with fail
  refine (hS1 _ HB.out).mono ?_
  rintro e w1 ⟨rfl, hb⟩
  have hu := hb
  replace HB : Hid _ := bl_trans HB.out hu
  replace K10 := cell_below hu K10
  replace K11 := cell_below hu K11
  clear hu
  clear hb
  go_wp2_with fail
  refine (awake_any aF aZ _ (HE.out.below HB.out)).mono ?_
  rintro e w2 ⟨rfl, hb⟩
  have hu := hb
  replace HB : Hid _ := bl_trans HB.out hu
  replace K10 := cell_below hu K10
  replace K11 := cell_below hu K11
  clear hu
  clear hb
  go_wp2
  go_ret
  exact ⟨rfl, HB.out⟩

set_option maxHeartbeats 4000000 in
theorem scales_long3 (a1 b1 : Option Addr) (c1 d1 m1 n1 : Nat) (y z : ByteArray) (aF aZ : Addr) (w : World) (hE : Er w aF aZ)
    (hS1 : ∀ v, Below w.heap.size w v → Calls Tryz.prog 12 #[.agg #[.slice a1 m1 c1, .slice b1 n1 d1]] v fun e w' => e = .returned (.bool true) ∧ Below v.heap.size v w') (hy : ¬ 20 < y.size) (hz : 20 < z.size) :
    Calls Tryz.prog 9 #[.agg #[.slice a1 m1 c1, .slice b1 n1 d1], .string y, .string z] w fun e w' => e = .returned (.bool true) ∧ Below w.heap.size w w' := by
  have HE : Hid _ := hE
  clear hE
  have HB : Hid (Below w.heap.size w w) := Below.refl _ _
  have hu := bl_alloc (Below.refl w.heap.size w) (.cells #[.slice a1 m1 c1, .slice b1 n1 d1] 25)
  replace HB : Hid _ := bl_trans HB.out hu
  clear hu
  have K10 : (w.alloc (.cells #[.slice a1 m1 c1, .slice b1 n1 d1] 25)).cell? ⟨w.heap.size, 0, none⟩ = some (.slice a1 m1 c1) := by first | rw [World.cell?_alloc_at _ _ _ _ (by simp)]; rfl | simp
  have K11 : (w.alloc (.cells #[.slice a1 m1 c1, .slice b1 n1 d1] 25)).cell? ⟨w.heap.size, 1, none⟩ = some (.slice b1 n1 d1) := by first | rw [World.cell?_alloc_at _ _ _ _ (by simp)]; rfl | simp
  go_enter Tryz.func9, Tryz.ntmps9
  go_wp2_with fail
  refine (hS1 _ HB.out).mono ?_
  rintro e w1 ⟨rfl, hb⟩
  have hu := hb
  replace HB : Hid _ := bl_trans HB.out hu
  replace K10 := cell_below hu K10
  replace K11 := cell_below hu K11
  clear hu
  clear hb
  go_wp2_with fail
  refine (awake_any aF aZ _ (HE.out.below HB.out)).mono ?_
  rintro e w2 ⟨rfl, hb⟩
  have hu := hb
  replace HB : Hid _ := bl_trans HB.out hu
  replace K10 := cell_below hu K10
  replace K11 := cell_below hu K11
  clear hu
  clear hb
  go_wp2
  go_ret
  exact ⟨rfl, HB.out⟩

set_option maxHeartbeats 4000000 in
theorem scales_no1 (a1 b1 : Option Addr) (c1 d1 m1 n1 : Nat) (y z : ByteArray) (p : ByteArray) (g : Int) (aF aZ : Addr) (w : World) (hE : Er w aF aZ)
    (hS1 : ∀ v, Below w.heap.size w v → Calls Tryz.prog 12 #[.agg #[.slice a1 m1 c1, .slice b1 n1 d1]] v fun e w' => e = .returned (.bool true) ∧ Below v.heap.size v w')
    (h1 : ∀ v, Below w.heap.size w v → Calls Tryz.prog 20 #[.agg #[.slice a1 m1 c1, .slice b1 n1 d1], .string y] v fun e w' => e = .returned (noTensor 1) ∧ Below v.heap.size v w')
    (h2 : ∀ v, Below w.heap.size w v → Calls Tryz.prog 20 #[.agg #[.slice none 0 0, .slice none 0 0], .string z] v fun e w' => e = .returned (noTensor 1) ∧ Below v.heap.size v w')
    (h3 : ∀ v, Below w.heap.size w v → Calls Tryz.prog 33 #[.string y, .string z] v fun e w' => e = .returned (.tuple #[.string p, .int .i64 g]) ∧ Below v.heap.size v w')
    (h4 : ∀ v, Below w.heap.size w v → Calls Tryz.prog 20 #[.agg #[.slice a1 m1 c1, .slice b1 n1 d1], .string p] v fun e w' => e = .returned (noTensor 1) ∧ Below v.heap.size v w')
    (h5 : ∀ v, Below w.heap.size w v → Calls Tryz.prog 20 #[.agg #[.slice a1 m1 c1, .slice b1 n1 d1], .string ⟨#[49]⟩] v fun e w' => e = .returned (noTensor 1) ∧ Below v.heap.size v w') (hy : ¬ 20 < y.size) (hz : ¬ 20 < z.size) :
    Calls Tryz.prog 9 #[.agg #[.slice a1 m1 c1, .slice b1 n1 d1], .string y, .string z] w fun e w' => e = .returned (.bool true) ∧ Below w.heap.size w w' := by
  have HE : Hid _ := hE
  clear hE
  have HB : Hid (Below w.heap.size w w) := Below.refl _ _
  have hu := bl_alloc (Below.refl w.heap.size w) (.cells #[.slice a1 m1 c1, .slice b1 n1 d1] 25)
  replace HB : Hid _ := bl_trans HB.out hu
  clear hu
  have K10 : (w.alloc (.cells #[.slice a1 m1 c1, .slice b1 n1 d1] 25)).cell? ⟨w.heap.size, 0, none⟩ = some (.slice a1 m1 c1) := by first | rw [World.cell?_alloc_at _ _ _ _ (by simp)]; rfl | simp
  have K11 : (w.alloc (.cells #[.slice a1 m1 c1, .slice b1 n1 d1] 25)).cell? ⟨w.heap.size, 1, none⟩ = some (.slice b1 n1 d1) := by first | rw [World.cell?_alloc_at _ _ _ _ (by simp)]; rfl | simp
  go_enter Tryz.func9, Tryz.ntmps9
  go_wp2_with fail
  refine (hS1 _ HB.out).mono ?_
  rintro e w1 ⟨rfl, hb⟩
  have hu := hb
  replace HB : Hid _ := bl_trans HB.out hu
  replace K10 := cell_below hu K10
  replace K11 := cell_below hu K11
  clear hu
  clear hb
  go_wp2_with fail
  refine (h1 _ HB.out).mono ?_
  rintro e w2 ⟨rfl, hb⟩
  have hu := bl_alloc hb (.cells #[.slice none 0 0, .slice none 0 0] 25)
  replace HB : Hid _ := bl_trans HB.out hu
  replace K10 := cell_below hu K10
  replace K11 := cell_below hu K11
  clear hu
  have Kx0 : (w2.alloc (.cells #[.slice none 0 0, .slice none 0 0] 25)).cell? ⟨w2.heap.size, 0, none⟩ = some (.slice none 0 0) := by simp
  have Kx1 : (w2.alloc (.cells #[.slice none 0 0, .slice none 0 0] 25)).cell? ⟨w2.heap.size, 1, none⟩ = some (.slice none 0 0) := by simp
  clear hb
  go_wp2_with fail
  refine (h2 _ HB.out).mono ?_
  rintro e w3 ⟨rfl, hb⟩
  have hu := bl_alloc hb (.cells #[.slice none 0 0, .slice none 0 0] 25)
  replace HB : Hid _ := bl_trans HB.out hu
  replace K10 := cell_below hu K10
  replace K11 := cell_below hu K11
  replace Kx0 := cell_below hu Kx0
  replace Kx1 := cell_below hu Kx1
  clear hu
  have Ky0 : (w3.alloc (.cells #[.slice none 0 0, .slice none 0 0] 25)).cell? ⟨w3.heap.size, 0, none⟩ = some (.slice none 0 0) := by simp
  have Ky1 : (w3.alloc (.cells #[.slice none 0 0, .slice none 0 0] 25)).cell? ⟨w3.heap.size, 1, none⟩ = some (.slice none 0 0) := by simp
  clear hb
  go_wp2_with fail
  refine (h3 _ HB.out).mono ?_
  rintro e w4 ⟨rfl, hb⟩
  have hu := hb
  replace HB : Hid _ := bl_trans HB.out hu
  replace K10 := cell_below hu K10
  replace K11 := cell_below hu K11
  replace Kx0 := cell_below hu Kx0
  replace Kx1 := cell_below hu Kx1
  replace Ky0 := cell_below hu Ky0
  replace Ky1 := cell_below hu Ky1
  clear hu
  clear hb
  go_wp2_with fail
  refine (h4 _ HB.out).mono ?_
  rintro e w5 ⟨rfl, hb⟩
  have hu := bl_alloc hb (.cells #[.slice none 0 0, .slice none 0 0] 25)
  replace HB : Hid _ := bl_trans HB.out hu
  replace K10 := cell_below hu K10
  replace K11 := cell_below hu K11
  replace Kx0 := cell_below hu Kx0
  replace Kx1 := cell_below hu Kx1
  replace Ky0 := cell_below hu Ky0
  replace Ky1 := cell_below hu Ky1
  clear hu
  have Kz0 : (w5.alloc (.cells #[.slice none 0 0, .slice none 0 0] 25)).cell? ⟨w5.heap.size, 0, none⟩ = some (.slice none 0 0) := by simp
  have Kz1 : (w5.alloc (.cells #[.slice none 0 0, .slice none 0 0] 25)).cell? ⟨w5.heap.size, 1, none⟩ = some (.slice none 0 0) := by simp
  clear hb
  go_wp2_with fail
  refine (h5 _ HB.out).mono ?_
  rintro e w6 ⟨rfl, hb⟩
  have hu := bl_alloc hb (.cells #[.slice none 0 0, .slice none 0 0] 25)
  replace HB : Hid _ := bl_trans HB.out hu
  replace K10 := cell_below hu K10
  replace K11 := cell_below hu K11
  replace Kx0 := cell_below hu Kx0
  replace Kx1 := cell_below hu Kx1
  replace Ky0 := cell_below hu Ky0
  replace Ky1 := cell_below hu Ky1
  replace Kz0 := cell_below hu Kz0
  replace Kz1 := cell_below hu Kz1
  clear hu
  have Ko0 : (w6.alloc (.cells #[.slice none 0 0, .slice none 0 0] 25)).cell? ⟨w6.heap.size, 0, none⟩ = some (.slice none 0 0) := by simp
  have Ko1 : (w6.alloc (.cells #[.slice none 0 0, .slice none 0 0] 25)).cell? ⟨w6.heap.size, 1, none⟩ = some (.slice none 0 0) := by simp
  clear hb
  go_wp2_with fail
  refine (awake_any aF aZ _ (HE.out.below HB.out)).mono ?_
  rintro e w7 ⟨rfl, hb⟩
  have hu := hb
  replace HB : Hid _ := bl_trans HB.out hu
  replace K10 := cell_below hu K10
  replace K11 := cell_below hu K11
  replace Kx0 := cell_below hu Kx0
  replace Kx1 := cell_below hu Kx1
  replace Ky0 := cell_below hu Ky0
  replace Ky1 := cell_below hu Ky1
  replace Kz0 := cell_below hu Kz0
  replace Kz1 := cell_below hu Kz1
  replace Ko0 := cell_below hu Ko0
  replace Ko1 := cell_below hu Ko1
  clear hu
  clear hb
  go_wp2
  go_ret
  exact ⟨rfl, HB.out⟩

set_option maxHeartbeats 4000000 in
theorem scales_no2 (a1 b1 : Option Addr) (c1 d1 m1 n1 : Nat) (y z : ByteArray) (zs : List Int) (qs : List Rat) (aF aZ : Addr) (w : World) (hE : Er w aF aZ)
    (hS1 : ∀ v, Below w.heap.size w v → Calls Tryz.prog 12 #[.agg #[.slice a1 m1 c1, .slice b1 n1 d1]] v fun e w' => e = .returned (.bool true) ∧ Below v.heap.size v w') (hT : Tt w 0 a1 b1 zs m1 n1 qs 40)
    (h1 : ∀ v, Below w.heap.size w v → Calls Tryz.prog 20 #[.agg #[.slice a1 m1 c1, .slice b1 n1 d1], .string y] v fun e w' => e = .returned (noTensor 1) ∧ Below v.heap.size v w')
    (h2 : ∀ v, Below w.heap.size w v → Calls Tryz.prog 20 #[.agg #[.slice none 0 0, .slice none 0 0], .string z] v fun e w' => e = .returned (noTensor 1) ∧ Below v.heap.size v w')
    (h3 : ∀ v, Below w.heap.size w v → Calls Tryz.prog 33 #[.string y, .string z] v fun e w' => e = .returned (.tuple #[.string ⟨#[]⟩, .int .i64 2]) ∧ Below v.heap.size v w')
    (h4 : ∀ v, Below w.heap.size w v → Calls Tryz.prog 20 #[.agg #[.slice a1 m1 c1, .slice b1 n1 d1], .string ⟨#[]⟩] v fun e w' => e = .returned (noTensor 1) ∧ Below v.heap.size v w') (hy : ¬ 20 < y.size) (hz : ¬ 20 < z.size) :
    Calls Tryz.prog 9 #[.agg #[.slice a1 m1 c1, .slice b1 n1 d1], .string y, .string z] w fun e w' => e = .returned (.bool true) ∧ Below w.heap.size w w' := by
  have HE : Hid _ := hE
  clear hE
  have HB : Hid (Below w.heap.size w w) := Below.refl _ _
  have HTa : Hid _ := hT
  clear hT
  have hu := bl_alloc (Below.refl w.heap.size w) (.cells #[.slice a1 m1 c1, .slice b1 n1 d1] 25)
  replace HB : Hid _ := bl_trans HB.out hu
  replace HTa : Hid _ := HTa.out.below hu
  clear hu
  have K10 : (w.alloc (.cells #[.slice a1 m1 c1, .slice b1 n1 d1] 25)).cell? ⟨w.heap.size, 0, none⟩ = some (.slice a1 m1 c1) := by first | rw [World.cell?_alloc_at _ _ _ _ (by simp)]; rfl | simp
  have K11 : (w.alloc (.cells #[.slice a1 m1 c1, .slice b1 n1 d1] 25)).cell? ⟨w.heap.size, 1, none⟩ = some (.slice b1 n1 d1) := by first | rw [World.cell?_alloc_at _ _ _ _ (by simp)]; rfl | simp
  go_enter Tryz.func9, Tryz.ntmps9
  go_wp2_with fail
  refine (hS1 _ HB.out).mono ?_
  rintro e w1 ⟨rfl, hb⟩
  have hu := hb
  replace HB : Hid _ := bl_trans HB.out hu
  replace HTa : Hid _ := HTa.out.below hu
  replace K10 := cell_below hu K10
  replace K11 := cell_below hu K11
  clear hu
  clear hb
  go_wp2_with fail
  refine (h1 _ HB.out).mono ?_
  rintro e w2 ⟨rfl, hb⟩
  have hu := bl_alloc hb (.cells #[.slice none 0 0, .slice none 0 0] 25)
  replace HB : Hid _ := bl_trans HB.out hu
  replace HTa : Hid _ := HTa.out.below hu
  replace K10 := cell_below hu K10
  replace K11 := cell_below hu K11
  clear hu
  have Kx0 : (w2.alloc (.cells #[.slice none 0 0, .slice none 0 0] 25)).cell? ⟨w2.heap.size, 0, none⟩ = some (.slice none 0 0) := by simp
  have Kx1 : (w2.alloc (.cells #[.slice none 0 0, .slice none 0 0] 25)).cell? ⟨w2.heap.size, 1, none⟩ = some (.slice none 0 0) := by simp
  clear hb
  go_wp2_with fail
  refine (h2 _ HB.out).mono ?_
  rintro e w3 ⟨rfl, hb⟩
  have hu := bl_alloc hb (.cells #[.slice none 0 0, .slice none 0 0] 25)
  replace HB : Hid _ := bl_trans HB.out hu
  replace HTa : Hid _ := HTa.out.below hu
  replace K10 := cell_below hu K10
  replace K11 := cell_below hu K11
  replace Kx0 := cell_below hu Kx0
  replace Kx1 := cell_below hu Kx1
  clear hu
  have Ky0 : (w3.alloc (.cells #[.slice none 0 0, .slice none 0 0] 25)).cell? ⟨w3.heap.size, 0, none⟩ = some (.slice none 0 0) := by simp
  have Ky1 : (w3.alloc (.cells #[.slice none 0 0, .slice none 0 0] 25)).cell? ⟨w3.heap.size, 1, none⟩ = some (.slice none 0 0) := by simp
  clear hb
  go_wp2_with fail
  refine (h3 _ HB.out).mono ?_
  rintro e w4 ⟨rfl, hb⟩
  have hu := hb
  replace HB : Hid _ := bl_trans HB.out hu
  replace HTa : Hid _ := HTa.out.below hu
  replace K10 := cell_below hu K10
  replace K11 := cell_below hu K11
  replace Kx0 := cell_below hu Kx0
  replace Kx1 := cell_below hu Kx1
  replace Ky0 := cell_below hu Ky0
  replace Ky1 := cell_below hu Ky1
  clear hu
  clear hb
  go_wp2_with fail
  refine (h4 _ HB.out).mono ?_
  rintro e w5 ⟨rfl, hb⟩
  have hu := bl_alloc hb (.cells #[.slice none 0 0, .slice none 0 0] 25)
  replace HB : Hid _ := bl_trans HB.out hu
  replace HTa : Hid _ := HTa.out.below hu
  replace K10 := cell_below hu K10
  replace K11 := cell_below hu K11
  replace Kx0 := cell_below hu Kx0
  replace Kx1 := cell_below hu Kx1
  replace Ky0 := cell_below hu Ky0
  replace Ky1 := cell_below hu Ky1
  clear hu
  have Kz0 : (w5.alloc (.cells #[.slice none 0 0, .slice none 0 0] 25)).cell? ⟨w5.heap.size, 0, none⟩ = some (.slice none 0 0) := by simp
  have Kz1 : (w5.alloc (.cells #[.slice none 0 0, .slice none 0 0] 25)).cell? ⟨w5.heap.size, 1, none⟩ = some (.slice none 0 0) := by simp
  clear hb
  have hk := zscale c1 d1 (HE.out.below HB.out) HTa.out 1 bd1 (by omega)
  rw [l1] at hk
  go_wp2_with fail
  refine (hk).mono ?_
  rintro e w6 ⟨a6', c6', b6', d6', rfl, hT, hb⟩
  have hu := bl_alloc hb (.cells #[.slice a6' m1 c6', .slice b6' n1 d6'] 25)
  replace HB : Hid _ := bl_trans HB.out hu
  replace HTa : Hid _ := HTa.out.below hu
  replace K10 := cell_below hu K10
  replace K11 := cell_below hu K11
  replace Kx0 := cell_below hu Kx0
  replace Kx1 := cell_below hu Kx1
  replace Ky0 := cell_below hu Ky0
  replace Ky1 := cell_below hu Ky1
  replace Kz0 := cell_below hu Kz0
  replace Kz1 := cell_below hu Kz1
  clear hu
  have HTo : Hid _ := hT.below (bl_alloc (Below.refl w6.heap.size w6) (.cells #[.slice a6' m1 c6', .slice b6' n1 d6'] 25))
  have Ko0 : (w6.alloc (.cells #[.slice a6' m1 c6', .slice b6' n1 d6'] 25)).cell? ⟨w6.heap.size, 0, none⟩ = some (.slice a6' m1 c6') := by simp
  have Ko1 : (w6.alloc (.cells #[.slice a6' m1 c6', .slice b6' n1 d6'] 25)).cell? ⟨w6.heap.size, 1, none⟩ = some (.slice b6' n1 d6') := by simp
  clear hb hT
  clear hk
  go_wp2_with fail
  refine (zeq c6' d6' c1 d1 HTo.out HTa.out (scale_one qs)).mono ?_
  rintro e w7 ⟨rfl, hb⟩
  have hu := hb
  replace HB : Hid _ := bl_trans HB.out hu
  replace HTa : Hid _ := HTa.out.below hu
  replace HTo : Hid _ := HTo.out.below hu
  replace K10 := cell_below hu K10
  replace K11 := cell_below hu K11
  replace Kx0 := cell_below hu Kx0
  replace Kx1 := cell_below hu Kx1
  replace Ky0 := cell_below hu Ky0
  replace Ky1 := cell_below hu Ky1
  replace Kz0 := cell_below hu Kz0
  replace Kz1 := cell_below hu Kz1
  replace Ko0 := cell_below hu Ko0
  replace Ko1 := cell_below hu Ko1
  clear hu
  clear hb
  go_wp2_with fail
  refine (awake_any aF aZ _ (HE.out.below HB.out)).mono ?_
  rintro e w8 ⟨rfl, hb⟩
  have hu := hb
  replace HB : Hid _ := bl_trans HB.out hu
  replace HTa : Hid _ := HTa.out.below hu
  replace HTo : Hid _ := HTo.out.below hu
  replace K10 := cell_below hu K10
  replace K11 := cell_below hu K11
  replace Kx0 := cell_below hu Kx0
  replace Kx1 := cell_below hu Kx1
  replace Ky0 := cell_below hu Ky0
  replace Ky1 := cell_below hu Ky1
  replace Kz0 := cell_below hu Kz0
  replace Kz1 := cell_below hu Kz1
  replace Ko0 := cell_below hu Ko0
  replace Ko1 := cell_below hu Ko1
  clear hu
  clear hb
  go_wp2
  go_ret
  exact ⟨rfl, HB.out⟩

set_option maxHeartbeats 4000000 in
theorem scales_no3 (a1 b1 : Option Addr) (c1 d1 m1 n1 : Nat) (z : ByteArray) (zs : List Int) (qs : List Rat) (y : Rat) (aF aZ : Addr) (w : World) (hE : Er w aF aZ)
    (hS1 : ∀ v, Below w.heap.size w v → Calls Tryz.prog 12 #[.agg #[.slice a1 m1 c1, .slice b1 n1 d1]] v fun e w' => e = .returned (.bool true) ∧ Below v.heap.size v w') (hT : Tt w 0 a1 b1 zs m1 n1 qs 40) (hb : Bd y 20)
    (h2 : ∀ v B a3 b3 c3 d3, Below w.heap.size w v → Tt v B a3 b3 zs m1 n1 (qs.map (· * y)) 60 → Calls Tryz.prog 20 #[.agg #[.slice a3 m1 c3, .slice b3 n1 d3], .string z] v fun e w' => e = .returned (noTensor 1) ∧ Below v.heap.size v w')
    (h3 : ∀ v, Below w.heap.size w v → Calls Tryz.prog 33 #[.string (R y), .string z] v fun e w' => e = .returned (.tuple #[.string ⟨#[]⟩, .int .i64 2]) ∧ Below v.heap.size v w')
    (h4 : ∀ v, Below w.heap.size w v → Calls Tryz.prog 20 #[.agg #[.slice a1 m1 c1, .slice b1 n1 d1], .string ⟨#[]⟩] v fun e w' => e = .returned (noTensor 1) ∧ Below v.heap.size v w') (hy : ¬ 20 < (R y).size) (hz : ¬ 20 < z.size) :
    Calls Tryz.prog 9 #[.agg #[.slice a1 m1 c1, .slice b1 n1 d1], .string (R y), .string z] w fun e w' => e = .returned (.bool true) ∧ Below w.heap.size w w' := by
  have HE : Hid _ := hE
  clear hE
  have HB : Hid (Below w.heap.size w w) := Below.refl _ _
  have HTa : Hid _ := hT
  clear hT
  have hu := bl_alloc (Below.refl w.heap.size w) (.cells #[.slice a1 m1 c1, .slice b1 n1 d1] 25)
  replace HB : Hid _ := bl_trans HB.out hu
  replace HTa : Hid _ := HTa.out.below hu
  clear hu
  have K10 : (w.alloc (.cells #[.slice a1 m1 c1, .slice b1 n1 d1] 25)).cell? ⟨w.heap.size, 0, none⟩ = some (.slice a1 m1 c1) := by first | rw [World.cell?_alloc_at _ _ _ _ (by simp)]; rfl | simp
  have K11 : (w.alloc (.cells #[.slice a1 m1 c1, .slice b1 n1 d1] 25)).cell? ⟨w.heap.size, 1, none⟩ = some (.slice b1 n1 d1) := by first | rw [World.cell?_alloc_at _ _ _ _ (by simp)]; rfl | simp
  obtain ⟨Y, hY⟩ : ∃ Y, R y = Y := ⟨_, rfl⟩
  have HY : Hid _ := hY
  rw [hY] at hy h3 ⊢
  clear hY
  go_enter Tryz.func9, Tryz.ntmps9
  go_wp2_with fail
  refine (hS1 _ HB.out).mono ?_
  rintro e w1 ⟨rfl, hb⟩
  have hu := hb
  replace HB : Hid _ := bl_trans HB.out hu
  replace HTa : Hid _ := HTa.out.below hu
  replace K10 := cell_below hu K10
  replace K11 := cell_below hu K11
  clear hu
  clear hb
  have hk := zscale c1 d1 (HE.out.below HB.out) HTa.out y hb (by omega)
  rw [HY.out] at hk
  go_wp2_with fail
  refine (hk).mono ?_
  rintro e w2 ⟨a2', c2', b2', d2', rfl, hT, hb⟩
  have hu := bl_alloc hb (.cells #[.slice a2' m1 c2', .slice b2' n1 d2'] 25)
  replace HB : Hid _ := bl_trans HB.out hu
  replace HTa : Hid _ := HTa.out.below hu
  replace K10 := cell_below hu K10
  replace K11 := cell_below hu K11
  clear hu
  have HTx : Hid _ := hT.below (bl_alloc (Below.refl w2.heap.size w2) (.cells #[.slice a2' m1 c2', .slice b2' n1 d2'] 25))
  have Kx0 : (w2.alloc (.cells #[.slice a2' m1 c2', .slice b2' n1 d2'] 25)).cell? ⟨w2.heap.size, 0, none⟩ = some (.slice a2' m1 c2') := by simp
  have Kx1 : (w2.alloc (.cells #[.slice a2' m1 c2', .slice b2' n1 d2'] 25)).cell? ⟨w2.heap.size, 1, none⟩ = some (.slice b2' n1 d2') := by simp
  clear hb hT
  clear hk
  go_wp2_with fail
  refine (h2 _ _ _ _ c2' d2' HB.out HTx.out).mono ?_
  rintro e w3 ⟨rfl, hb⟩
  have hu := bl_alloc hb (.cells #[.slice none 0 0, .slice none 0 0] 25)
  replace HB : Hid _ := bl_trans HB.out hu
  replace HTa : Hid _ := HTa.out.below hu
  replace HTx : Hid _ := HTx.out.below hu
  replace K10 := cell_below hu K10
  replace K11 := cell_below hu K11
  replace Kx0 := cell_below hu Kx0
  replace Kx1 := cell_below hu Kx1
  clear hu
  have Ky0 : (w3.alloc (.cells #[.slice none 0 0, .slice none 0 0] 25)).cell? ⟨w3.heap.size, 0, none⟩ = some (.slice none 0 0) := by simp
  have Ky1 : (w3.alloc (.cells #[.slice none 0 0, .slice none 0 0] 25)).cell? ⟨w3.heap.size, 1, none⟩ = some (.slice none 0 0) := by simp
  clear hb
  go_wp2_with fail
  refine (h3 _ HB.out).mono ?_
  rintro e w4 ⟨rfl, hb⟩
  have hu := hb
  replace HB : Hid _ := bl_trans HB.out hu
  replace HTa : Hid _ := HTa.out.below hu
  replace HTx : Hid _ := HTx.out.below hu
  replace K10 := cell_below hu K10
  replace K11 := cell_below hu K11
  replace Kx0 := cell_below hu Kx0
  replace Kx1 := cell_below hu Kx1
  replace Ky0 := cell_below hu Ky0
  replace Ky1 := cell_below hu Ky1
  clear hu
  clear hb
  go_wp2_with fail
  refine (h4 _ HB.out).mono ?_
  rintro e w5 ⟨rfl, hb⟩
  have hu := bl_alloc hb (.cells #[.slice none 0 0, .slice none 0 0] 25)
  replace HB : Hid _ := bl_trans HB.out hu
  replace HTa : Hid _ := HTa.out.below hu
  replace HTx : Hid _ := HTx.out.below hu
  replace K10 := cell_below hu K10
  replace K11 := cell_below hu K11
  replace Kx0 := cell_below hu Kx0
  replace Kx1 := cell_below hu Kx1
  replace Ky0 := cell_below hu Ky0
  replace Ky1 := cell_below hu Ky1
  clear hu
  have Kz0 : (w5.alloc (.cells #[.slice none 0 0, .slice none 0 0] 25)).cell? ⟨w5.heap.size, 0, none⟩ = some (.slice none 0 0) := by simp
  have Kz1 : (w5.alloc (.cells #[.slice none 0 0, .slice none 0 0] 25)).cell? ⟨w5.heap.size, 1, none⟩ = some (.slice none 0 0) := by simp
  clear hb
  have hk := zscale c1 d1 (HE.out.below HB.out) HTa.out 1 bd1 (by omega)
  rw [l1] at hk
  go_wp2_with fail
  refine (hk).mono ?_
  rintro e w6 ⟨a6', c6', b6', d6', rfl, hT, hb⟩
  have hu := bl_alloc hb (.cells #[.slice a6' m1 c6', .slice b6' n1 d6'] 25)
  replace HB : Hid _ := bl_trans HB.out hu
  replace HTa : Hid _ := HTa.out.below hu
  replace HTx : Hid _ := HTx.out.below hu
  replace K10 := cell_below hu K10
  replace K11 := cell_below hu K11
  replace Kx0 := cell_below hu Kx0
  replace Kx1 := cell_below hu Kx1
  replace Ky0 := cell_below hu Ky0
  replace Ky1 := cell_below hu Ky1
  replace Kz0 := cell_below hu Kz0
  replace Kz1 := cell_below hu Kz1
  clear hu
  have HTo : Hid _ := hT.below (bl_alloc (Below.refl w6.heap.size w6) (.cells #[.slice a6' m1 c6', .slice b6' n1 d6'] 25))
  have Ko0 : (w6.alloc (.cells #[.slice a6' m1 c6', .slice b6' n1 d6'] 25)).cell? ⟨w6.heap.size, 0, none⟩ = some (.slice a6' m1 c6') := by simp
  have Ko1 : (w6.alloc (.cells #[.slice a6' m1 c6', .slice b6' n1 d6'] 25)).cell? ⟨w6.heap.size, 1, none⟩ = some (.slice b6' n1 d6') := by simp
  clear hb hT
  clear hk
  go_wp2_with fail
  refine (zeq c6' d6' c1 d1 HTo.out HTa.out (scale_one qs)).mono ?_
  rintro e w7 ⟨rfl, hb⟩
  have hu := hb
  replace HB : Hid _ := bl_trans HB.out hu
  replace HTa : Hid _ := HTa.out.below hu
  replace HTx : Hid _ := HTx.out.below hu
  replace HTo : Hid _ := HTo.out.below hu
  replace K10 := cell_below hu K10
  replace K11 := cell_below hu K11
  replace Kx0 := cell_below hu Kx0
  replace Kx1 := cell_below hu Kx1
  replace Ky0 := cell_below hu Ky0
  replace Ky1 := cell_below hu Ky1
  replace Kz0 := cell_below hu Kz0
  replace Kz1 := cell_below hu Kz1
  replace Ko0 := cell_below hu Ko0
  replace Ko1 := cell_below hu Ko1
  clear hu
  clear hb
  go_wp2_with fail
  refine (awake_any aF aZ _ (HE.out.below HB.out)).mono ?_
  rintro e w8 ⟨rfl, hb⟩
  have hu := hb
  replace HB : Hid _ := bl_trans HB.out hu
  replace HTa : Hid _ := HTa.out.below hu
  replace HTx : Hid _ := HTx.out.below hu
  replace HTo : Hid _ := HTo.out.below hu
  replace K10 := cell_below hu K10
  replace K11 := cell_below hu K11
  replace Kx0 := cell_below hu Kx0
  replace Kx1 := cell_below hu Kx1
  replace Ky0 := cell_below hu Ky0
  replace Ky1 := cell_below hu Ky1
  replace Kz0 := cell_below hu Kz0
  replace Kz1 := cell_below hu Kz1
  replace Ko0 := cell_below hu Ko0
  replace Ko1 := cell_below hu Ko1
  clear hu
  clear hb
  go_wp2
  go_ret
  exact ⟨rfl, HB.out⟩

set_option maxHeartbeats 4000000 in
theorem scales_good (a1 b1 : Option Addr) (c1 d1 m1 n1 : Nat) (zs : List Int) (qs : List Rat) (y z : Rat) (aF aZ : Addr) (w : World) (hE : Er w aF aZ)
    (hS1 : ∀ v, Below w.heap.size w v → Calls Tryz.prog 12 #[.agg #[.slice a1 m1 c1, .slice b1 n1 d1]] v fun e w' => e = .returned (.bool true) ∧ Below v.heap.size v w') (hT : Tt w 0 a1 b1 zs m1 n1 qs 40) (hb : Bd y 20) (hc : Bd z 20) (hy : ¬ 20 < (R y).size) (hz : ¬ 20 < (R z).size) :
    Calls Tryz.prog 9 #[.agg #[.slice a1 m1 c1, .slice b1 n1 d1], .string (R y), .string (R z)] w fun e w' => e = .returned (.bool true) ∧ Below w.heap.size w w' := by
  have HE : Hid _ := hE
  clear hE
  have HB : Hid (Below w.heap.size w w) := Below.refl _ _
  have hM := fun v => Mul_R y z v (by omega) (by omega)
  have HTa : Hid _ := hT
  clear hT
  have hu := bl_alloc (Below.refl w.heap.size w) (.cells #[.slice a1 m1 c1, .slice b1 n1 d1] 25)
  replace HB : Hid _ := bl_trans HB.out hu
  replace HTa : Hid _ := HTa.out.below hu
  clear hu
  have K10 : (w.alloc (.cells #[.slice a1 m1 c1, .slice b1 n1 d1] 25)).cell? ⟨w.heap.size, 0, none⟩ = some (.slice a1 m1 c1) := by first | rw [World.cell?_alloc_at _ _ _ _ (by simp)]; rfl | simp
  have K11 : (w.alloc (.cells #[.slice a1 m1 c1, .slice b1 n1 d1] 25)).cell? ⟨w.heap.size, 1, none⟩ = some (.slice b1 n1 d1) := by first | rw [World.cell?_alloc_at _ _ _ _ (by simp)]; rfl | simp
  obtain ⟨Y, hY⟩ : ∃ Y, R y = Y := ⟨_, rfl⟩
  obtain ⟨Z, hZ⟩ : ∃ Z, R z = Z := ⟨_, rfl⟩
  obtain ⟨X, hX⟩ : ∃ X, R (y * z) = X := ⟨_, rfl⟩
  have HY : Hid _ := hY
  have HZ : Hid _ := hZ
  have HX : Hid _ := hX
  rw [hY] at hy hM ⊢
  rw [hZ] at hz hM ⊢
  rw [hX] at hM
  clear hY hZ hX
  go_enter Tryz.func9, Tryz.ntmps9
  go_wp2_with fail
  refine (hS1 _ HB.out).mono ?_
  rintro e w1 ⟨rfl, hb⟩
  have hu := hb
  replace HB : Hid _ := bl_trans HB.out hu
  replace HTa : Hid _ := HTa.out.below hu
  replace K10 := cell_below hu K10
  replace K11 := cell_below hu K11
  clear hu
  clear hb
  have hk := zscale c1 d1 (HE.out.below HB.out) HTa.out y hb (by omega)
  rw [HY.out] at hk
  go_wp2_with fail
  refine (hk).mono ?_
  rintro e w2 ⟨a2', c2', b2', d2', rfl, hT, hb⟩
  have hu := bl_alloc hb (.cells #[.slice a2' m1 c2', .slice b2' n1 d2'] 25)
  replace HB : Hid _ := bl_trans HB.out hu
  replace HTa : Hid _ := HTa.out.below hu
  replace K10 := cell_below hu K10
  replace K11 := cell_below hu K11
  clear hu
  have HTx : Hid _ := hT.below (bl_alloc (Below.refl w2.heap.size w2) (.cells #[.slice a2' m1 c2', .slice b2' n1 d2'] 25))
  have Kx0 : (w2.alloc (.cells #[.slice a2' m1 c2', .slice b2' n1 d2'] 25)).cell? ⟨w2.heap.size, 0, none⟩ = some (.slice a2' m1 c2') := by simp
  have Kx1 : (w2.alloc (.cells #[.slice a2' m1 c2', .slice b2' n1 d2'] 25)).cell? ⟨w2.heap.size, 1, none⟩ = some (.slice b2' n1 d2') := by simp
  clear hb hT
  clear hk
  have hk := zscale c2' d2' (HE.out.below HB.out) HTx.out z hc (by omega)
  rw [HZ.out] at hk
  go_wp2_with fail
  refine (hk).mono ?_
  rintro e w3 ⟨a3', c3', b3', d3', rfl, hT, hb⟩
  have hu := bl_alloc hb (.cells #[.slice a3' m1 c3', .slice b3' n1 d3'] 25)
  replace HB : Hid _ := bl_trans HB.out hu
  replace HTa : Hid _ := HTa.out.below hu
  replace HTx : Hid _ := HTx.out.below hu
  replace K10 := cell_below hu K10
  replace K11 := cell_below hu K11
  replace Kx0 := cell_below hu Kx0
  replace Kx1 := cell_below hu Kx1
  clear hu
  have HTy : Hid _ := hT.below (bl_alloc (Below.refl w3.heap.size w3) (.cells #[.slice a3' m1 c3', .slice b3' n1 d3'] 25))
  have Ky0 : (w3.alloc (.cells #[.slice a3' m1 c3', .slice b3' n1 d3'] 25)).cell? ⟨w3.heap.size, 0, none⟩ = some (.slice a3' m1 c3') := by simp
  have Ky1 : (w3.alloc (.cells #[.slice a3' m1 c3', .slice b3' n1 d3'] 25)).cell? ⟨w3.heap.size, 1, none⟩ = some (.slice b3' n1 d3') := by simp
  clear hb hT
  clear hk
  go_wp2_with fail
  refine (hM _).mono ?_
  rintro e w4 ⟨rfl, hb⟩
  have hu := hb
  replace HB : Hid _ := bl_trans HB.out hu
  replace HTa : Hid _ := HTa.out.below hu
  replace HTx : Hid _ := HTx.out.below hu
  replace HTy : Hid _ := HTy.out.below hu
  replace K10 := cell_below hu K10
  replace K11 := cell_below hu K11
  replace Kx0 := cell_below hu Kx0
  replace Kx1 := cell_below hu Kx1
  replace Ky0 := cell_below hu Ky0
  replace Ky1 := cell_below hu Ky1
  clear hu
  clear hb
  have hk := zscale c1 d1 (HE.out.below HB.out) HTa.out (y * z) (hb.mul hc) (by omega)
  rw [HX.out] at hk
  go_wp2_with fail
  refine (hk).mono ?_
  rintro e w5 ⟨a5', c5', b5', d5', rfl, hT, hb⟩
  have hu := bl_alloc hb (.cells #[.slice a5' m1 c5', .slice b5' n1 d5'] 25)
  replace HB : Hid _ := bl_trans HB.out hu
  replace HTa : Hid _ := HTa.out.below hu
  replace HTx : Hid _ := HTx.out.below hu
  replace HTy : Hid _ := HTy.out.below hu
  replace K10 := cell_below hu K10
  replace K11 := cell_below hu K11
  replace Kx0 := cell_below hu Kx0
  replace Kx1 := cell_below hu Kx1
  replace Ky0 := cell_below hu Ky0
  replace Ky1 := cell_below hu Ky1
  clear hu
  have HTz : Hid _ := hT.below (bl_alloc (Below.refl w5.heap.size w5) (.cells #[.slice a5' m1 c5', .slice b5' n1 d5'] 25))
  have Kz0 : (w5.alloc (.cells #[.slice a5' m1 c5', .slice b5' n1 d5'] 25)).cell? ⟨w5.heap.size, 0, none⟩ = some (.slice a5' m1 c5') := by simp
  have Kz1 : (w5.alloc (.cells #[.slice a5' m1 c5', .slice b5' n1 d5'] 25)).cell? ⟨w5.heap.size, 1, none⟩ = some (.slice b5' n1 d5') := by simp
  clear hb hT
  clear hk
  have hk := zscale c1 d1 (HE.out.below HB.out) HTa.out 1 bd1 (by omega)
  rw [l1] at hk
  go_wp2_with fail
  refine (hk).mono ?_
  rintro e w6 ⟨a6', c6', b6', d6', rfl, hT, hb⟩
  have hu := bl_alloc hb (.cells #[.slice a6' m1 c6', .slice b6' n1 d6'] 25)
  replace HB : Hid _ := bl_trans HB.out hu
  replace HTa : Hid _ := HTa.out.below hu
  replace HTx : Hid _ := HTx.out.below hu
  replace HTy : Hid _ := HTy.out.below hu
  replace HTz : Hid _ := HTz.out.below hu
  replace K10 := cell_below hu K10
  replace K11 := cell_below hu K11
  replace Kx0 := cell_below hu Kx0
  replace Kx1 := cell_below hu Kx1
  replace Ky0 := cell_below hu Ky0
  replace Ky1 := cell_below hu Ky1
  replace Kz0 := cell_below hu Kz0
  replace Kz1 := cell_below hu Kz1
  clear hu
  have HTo : Hid _ := hT.below (bl_alloc (Below.refl w6.heap.size w6) (.cells #[.slice a6' m1 c6', .slice b6' n1 d6'] 25))
  have Ko0 : (w6.alloc (.cells #[.slice a6' m1 c6', .slice b6' n1 d6'] 25)).cell? ⟨w6.heap.size, 0, none⟩ = some (.slice a6' m1 c6') := by simp
  have Ko1 : (w6.alloc (.cells #[.slice a6' m1 c6', .slice b6' n1 d6'] 25)).cell? ⟨w6.heap.size, 1, none⟩ = some (.slice b6' n1 d6') := by simp
  clear hb hT
  clear hk
  go_wp2_with fail
  refine (zeq c3' d3' c5' d5' HTy.out HTz.out (scale_twice qs y z)).mono ?_
  rintro e w7 ⟨rfl, hb⟩
  have hu := hb
  replace HB : Hid _ := bl_trans HB.out hu
  replace HTa : Hid _ := HTa.out.below hu
  replace HTx : Hid _ := HTx.out.below hu
  replace HTy : Hid _ := HTy.out.below hu
  replace HTz : Hid _ := HTz.out.below hu
  replace HTo : Hid _ := HTo.out.below hu
  replace K10 := cell_below hu K10
  replace K11 := cell_below hu K11
  replace Kx0 := cell_below hu Kx0
  replace Kx1 := cell_below hu Kx1
  replace Ky0 := cell_below hu Ky0
  replace Ky1 := cell_below hu Ky1
  replace Kz0 := cell_below hu Kz0
  replace Kz1 := cell_below hu Kz1
  replace Ko0 := cell_below hu Ko0
  replace Ko1 := cell_below hu Ko1
  clear hu
  clear hb
  go_wp2_with fail
  refine (zeq c6' d6' c1 d1 HTo.out HTa.out (scale_one qs)).mono ?_
  rintro e w8 ⟨rfl, hb⟩
  have hu := hb
  replace HB : Hid _ := bl_trans HB.out hu
  replace HTa : Hid _ := HTa.out.below hu
  replace HTx : Hid _ := HTx.out.below hu
  replace HTy : Hid _ := HTy.out.below hu
  replace HTz : Hid _ := HTz.out.below hu
  replace HTo : Hid _ := HTo.out.below hu
  replace K10 := cell_below hu K10
  replace K11 := cell_below hu K11
  replace Kx0 := cell_below hu Kx0
  replace Kx1 := cell_below hu Kx1
  replace Ky0 := cell_below hu Ky0
  replace Ky1 := cell_below hu Ky1
  replace Kz0 := cell_below hu Kz0
  replace Kz1 := cell_below hu Kz1
  replace Ko0 := cell_below hu Ko0
  replace Ko1 := cell_below hu Ko1
  clear hu
  clear hb
  go_wp2_with fail
  refine (awake_any aF aZ _ (HE.out.below HB.out)).mono ?_
  rintro e w9 ⟨rfl, hb⟩
  have hu := hb
  replace HB : Hid _ := bl_trans HB.out hu
  replace HTa : Hid _ := HTa.out.below hu
  replace HTx : Hid _ := HTx.out.below hu
  replace HTy : Hid _ := HTy.out.below hu
  replace HTz : Hid _ := HTz.out.below hu
  replace HTo : Hid _ := HTo.out.below hu
  replace K10 := cell_below hu K10
  replace K11 := cell_below hu K11
  replace Kx0 := cell_below hu Kx0
  replace Kx1 := cell_below hu Kx1
  replace Ky0 := cell_below hu Ky0
  replace Ky1 := cell_below hu Ky1
  replace Kz0 := cell_below hu Kz0
  replace Kz1 := cell_below hu Kz1
  replace Ko0 := cell_below hu Ko0
  replace Ko1 := cell_below hu Ko1
  clear hu
  clear hb
  go_wp2
  go_ret
  exact ⟨rfl, HB.out⟩
end Go.Proofs.YtfblgaffkflenaaGreatDoor.Tn
