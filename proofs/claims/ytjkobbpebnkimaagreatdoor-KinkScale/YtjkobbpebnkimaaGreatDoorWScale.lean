/-
  THE WALK OF KinkScale. Conditions: what the arguments hold.
-/
import Derived.Test.YtjkobbpebnkimaaGreatDoorKl
namespace Go.Proofs.YtjkobbpebnkimaaGreatDoor.Tn
set_option maxRecDepth 100000
open Go.RowKit Nm
set_option linter.unusedVariables false

set_option maxHeartbeats 4000000 in
theorem lscale_long1 (a1 b1 : Option Addr) (c1 d1 m1 n1 : Nat) (y : ByteArray) (aF aZ : Addr) (w : World) (hE : Er w aF aZ)
    (hS1 : ∀ v, Below w.heap.size w v → Calls Tryz.prog 11 #[.agg #[.slice a1 m1 c1, .slice b1 n1 d1]] v fun e w' => e = .returned (.bool false) ∧ Below v.heap.size v w') :
    Calls Tryz.prog 10 #[.agg #[.slice a1 m1 c1, .slice b1 n1 d1], .string y] w fun e w' => e = .returned (.bool true) ∧ Below w.heap.size w w' := by
  have HE : Hid _ := hE
  clear hE
  have HB : Hid (Below w.heap.size w w) := Below.refl _ _
  have hu := bl_alloc (Below.refl w.heap.size w) (.cells #[.slice a1 m1 c1, .slice b1 n1 d1] 25)
  replace HB : Hid _ := bl_trans HB.out hu
  clear hu
  have K10 : (w.alloc (.cells #[.slice a1 m1 c1, .slice b1 n1 d1] 25)).cell? ⟨w.heap.size, 0, none⟩ = some (.slice a1 m1 c1) := by first | rw [World.cell?_alloc_at _ _ _ _ (by simp)]; rfl | simp
  have K11 : (w.alloc (.cells #[.slice a1 m1 c1, .slice b1 n1 d1] 25)).cell? ⟨w.heap.size, 1, none⟩ = some (.slice b1 n1 d1) := by first | rw [World.cell?_alloc_at _ _ _ _ (by simp)]; rfl | simp
  go_enter Tryz.func10, Tryz.ntmps10
  go_wp2_with fail
  refine (hS1 _ HB.out).mono ?_
  rintro e w1 ⟨rfl, hb⟩
  have hu := hb
  replace HB : Hid _ := bl_trans HB.out hu
  replace K10 := cell_below hu K10
  replace K11 := cell_below hu K11
  clear hu
  clear hb
  go_wp2_with fail
  refine (awake_any aF aZ _ (HE.out.below HB.out)).mono ?_
  rintro e w2 ⟨rfl, hb⟩
  have hu := hb
  replace HB : Hid _ := bl_trans HB.out hu
  replace K10 := cell_below hu K10
  replace K11 := cell_below hu K11
  clear hu
  clear hb
  go_wp2
  go_ret
  exact ⟨rfl, HB.out⟩

set_option maxHeartbeats 4000000 in
theorem lscale_long2 (a1 b1 : Option Addr) (c1 d1 m1 n1 : Nat) (y : ByteArray) (aF aZ : Addr) (w : World) (hE : Er w aF aZ)
    (hS1 : ∀ v, Below w.heap.size w v → Calls Tryz.prog 11 #[.agg #[.slice a1 m1 c1, .slice b1 n1 d1]] v fun e w' => e = .returned (.bool true) ∧ Below v.heap.size v w') (hl : 20 < y.size) :
    Calls Tryz.prog 10 #[.agg #[.slice a1 m1 c1, .slice b1 n1 d1], .string y] w fun e w' => e = .returned (.bool true) ∧ Below w.heap.size w w' := by
  have HE : Hid _ := hE
  clear hE
  have HB : Hid (Below w.heap.size w w) := Below.refl _ _
  have hu := bl_alloc (Below.refl w.heap.size w) (.cells #[.slice a1 m1 c1, .slice b1 n1 d1] 25)
  replace HB : Hid _ := bl_trans HB.out hu
  clear hu
  have K10 : (w.alloc (.cells #[.slice a1 m1 c1, .slice b1 n1 d1] 25)).cell? ⟨w.heap.size, 0, none⟩ = some (.slice a1 m1 c1) := by first | rw [World.cell?_alloc_at _ _ _ _ (by simp)]; rfl | simp
  have K11 : (w.alloc (.cells #[.slice a1 m1 c1, .slice b1 n1 d1] 25)).cell? ⟨w.heap.size, 1, none⟩ = some (.slice b1 n1 d1) := by first | rw [World.cell?_alloc_at _ _ _ _ (by simp)]; rfl | simp
  go_enter Tryz.func10, Tryz.ntmps10
  go_wp2_with fail
  refine (hS1 _ HB.out).mono ?_
  rintro e w1 ⟨rfl, hb⟩
  have hu := hb
  replace HB : Hid _ := bl_trans HB.out hu
  replace K10 := cell_below hu K10
  replace K11 := cell_below hu K11
  clear hu
  clear hb
  go_wp2_with fail
  refine (awake_any aF aZ _ (HE.out.below HB.out)).mono ?_
  rintro e w2 ⟨rfl, hb⟩
  have hu := hb
  replace HB : Hid _ := bl_trans HB.out hu
  replace K10 := cell_below hu K10
  replace K11 := cell_below hu K11
  clear hu
  clear hb
  go_wp2
  go_ret
  exact ⟨rfl, HB.out⟩

set_option maxHeartbeats 4000000 in
theorem lscale_empty (a1 b1 : Option Addr) (c1 d1 m1 n1 : Nat) (y : ByteArray) (aF aZ : Addr) (w : World) (hE : Er w aF aZ)
    (hS1 : ∀ v, Below w.heap.size w v → Calls Tryz.prog 11 #[.agg #[.slice a1 m1 c1, .slice b1 n1 d1]] v fun e w' => e = .returned (.bool true) ∧ Below v.heap.size v w') (hl : ¬ 20 < y.size) (he : (y.toList == []) = true) :
    Calls Tryz.prog 10 #[.agg #[.slice a1 m1 c1, .slice b1 n1 d1], .string y] w fun e w' => e = .returned (.bool true) ∧ Below w.heap.size w w' := by
  have HE : Hid _ := hE
  clear hE
  have HB : Hid (Below w.heap.size w w) := Below.refl _ _
  have hu := bl_alloc (Below.refl w.heap.size w) (.cells #[.slice a1 m1 c1, .slice b1 n1 d1] 25)
  replace HB : Hid _ := bl_trans HB.out hu
  clear hu
  have K10 : (w.alloc (.cells #[.slice a1 m1 c1, .slice b1 n1 d1] 25)).cell? ⟨w.heap.size, 0, none⟩ = some (.slice a1 m1 c1) := by first | rw [World.cell?_alloc_at _ _ _ _ (by simp)]; rfl | simp
  have K11 : (w.alloc (.cells #[.slice a1 m1 c1, .slice b1 n1 d1] 25)).cell? ⟨w.heap.size, 1, none⟩ = some (.slice b1 n1 d1) := by first | rw [World.cell?_alloc_at _ _ _ _ (by simp)]; rfl | simp
  go_enter Tryz.func10, Tryz.ntmps10
  go_wp2_with fail
  refine (hS1 _ HB.out).mono ?_
  rintro e w1 ⟨rfl, hb⟩
  have hu := hb
  replace HB : Hid _ := bl_trans HB.out hu
  replace K10 := cell_below hu K10
  replace K11 := cell_below hu K11
  clear hu
  clear hb
  go_wp2_with fail
  refine (awake_any aF aZ _ (HE.out.below HB.out)).mono ?_
  rintro e w2 ⟨rfl, hb⟩
  have hu := hb
  replace HB : Hid _ := bl_trans HB.out hu
  replace K10 := cell_below hu K10
  replace K11 := cell_below hu K11
  clear hu
  clear hb
  go_wp2
  go_ret
  exact ⟨rfl, HB.out⟩

set_option maxHeartbeats 4000000 in
theorem lscale_minus (a1 b1 : Option Addr) (c1 d1 m1 n1 : Nat) (y : ByteArray) (aF aZ : Addr) (w : World) (hE : Er w aF aZ)
    (hS1 : ∀ v, Below w.heap.size w v → Calls Tryz.prog 11 #[.agg #[.slice a1 m1 c1, .slice b1 n1 d1]] v fun e w' => e = .returned (.bool true) ∧ Below v.heap.size v w') (hl : ¬ 20 < y.size) (he : (y.toList == []) = false) (hp : 0 < y.size) (hm : y[0].toNat = 45) :
    Calls Tryz.prog 10 #[.agg #[.slice a1 m1 c1, .slice b1 n1 d1], .string y] w fun e w' => e = .returned (.bool true) ∧ Below w.heap.size w w' := by
  have HE : Hid _ := hE
  clear hE
  have HB : Hid (Below w.heap.size w w) := Below.refl _ _
  have hu := bl_alloc (Below.refl w.heap.size w) (.cells #[.slice a1 m1 c1, .slice b1 n1 d1] 25)
  replace HB : Hid _ := bl_trans HB.out hu
  clear hu
  have K10 : (w.alloc (.cells #[.slice a1 m1 c1, .slice b1 n1 d1] 25)).cell? ⟨w.heap.size, 0, none⟩ = some (.slice a1 m1 c1) := by first | rw [World.cell?_alloc_at _ _ _ _ (by simp)]; rfl | simp
  have K11 : (w.alloc (.cells #[.slice a1 m1 c1, .slice b1 n1 d1] 25)).cell? ⟨w.heap.size, 1, none⟩ = some (.slice b1 n1 d1) := by first | rw [World.cell?_alloc_at _ _ _ _ (by simp)]; rfl | simp
  go_enter Tryz.func10, Tryz.ntmps10
  go_wp2_with fail
  refine (hS1 _ HB.out).mono ?_
  rintro e w1 ⟨rfl, hb⟩
  have hu := hb
  replace HB : Hid _ := bl_trans HB.out hu
  replace K10 := cell_below hu K10
  replace K11 := cell_below hu K11
  clear hu
  clear hb
  go_wp2_with fail
  refine (awake_any aF aZ _ (HE.out.below HB.out)).mono ?_
  rintro e w2 ⟨rfl, hb⟩
  have hu := hb
  replace HB : Hid _ := bl_trans HB.out hu
  replace K10 := cell_below hu K10
  replace K11 := cell_below hu K11
  clear hu
  clear hb
  go_wp2
  go_ret
  exact ⟨rfl, HB.out⟩

set_option maxHeartbeats 4000000 in
theorem lscale_no (a1 b1 : Option Addr) (c1 d1 m1 n1 : Nat) (y : ByteArray) (aF aZ : Addr) (w : World) (hE : Er w aF aZ)
    (hS1 : ∀ v, Below w.heap.size w v → Calls Tryz.prog 11 #[.agg #[.slice a1 m1 c1, .slice b1 n1 d1]] v fun e w' => e = .returned (.bool true) ∧ Below v.heap.size v w') (hl : ¬ 20 < y.size) (he : (y.toList == []) = false) (hp : 0 < y.size) (hm : (((y[0].toNat : Nat) : Int) == 45) = false)
    (hZ : ∀ v, Below w.heap.size w v → Calls Tryz.prog 27 #[.agg #[.slice a1 m1 c1, .slice b1 n1 d1], .string y] v fun e w' => e = .returned (noTensor 1) ∧ Below v.heap.size v w') :
    Calls Tryz.prog 10 #[.agg #[.slice a1 m1 c1, .slice b1 n1 d1], .string y] w fun e w' => e = .returned (.bool true) ∧ Below w.heap.size w w' := by
  have HE : Hid _ := hE
  clear hE
  have HB : Hid (Below w.heap.size w w) := Below.refl _ _
  have hu := bl_alloc (Below.refl w.heap.size w) (.cells #[.slice a1 m1 c1, .slice b1 n1 d1] 25)
  replace HB : Hid _ := bl_trans HB.out hu
  clear hu
  have K10 : (w.alloc (.cells #[.slice a1 m1 c1, .slice b1 n1 d1] 25)).cell? ⟨w.heap.size, 0, none⟩ = some (.slice a1 m1 c1) := by first | rw [World.cell?_alloc_at _ _ _ _ (by simp)]; rfl | simp
  have K11 : (w.alloc (.cells #[.slice a1 m1 c1, .slice b1 n1 d1] 25)).cell? ⟨w.heap.size, 1, none⟩ = some (.slice b1 n1 d1) := by first | rw [World.cell?_alloc_at _ _ _ _ (by simp)]; rfl | simp
  go_enter Tryz.func10, Tryz.ntmps10
  go_wp2_with fail
  refine (hS1 _ HB.out).mono ?_
  rintro e w1 ⟨rfl, hb⟩
  have hu := hb
  replace HB : Hid _ := bl_trans HB.out hu
  replace K10 := cell_below hu K10
  replace K11 := cell_below hu K11
  clear hu
  clear hb
  go_wp2_with fail
  refine (hZ _ HB.out).mono ?_
  rintro e w2 ⟨rfl, hb⟩
  have hu := bl_alloc hb (.cells #[.slice none 0 0, .slice none 0 0] 25)
  replace HB : Hid _ := bl_trans HB.out hu
  replace K10 := cell_below hu K10
  replace K11 := cell_below hu K11
  clear hu
  have Kt0 : (w2.alloc (.cells #[.slice none 0 0, .slice none 0 0] 25)).cell? ⟨w2.heap.size, 0, none⟩ = some (.slice none 0 0) := by simp
  have Kt1 : (w2.alloc (.cells #[.slice none 0 0, .slice none 0 0] 25)).cell? ⟨w2.heap.size, 1, none⟩ = some (.slice none 0 0) := by simp
  clear hb
  go_wp2_with fail
  refine (awake_any aF aZ _ (HE.out.below HB.out)).mono ?_
  rintro e w3 ⟨rfl, hb⟩
  have hu := hb
  replace HB : Hid _ := bl_trans HB.out hu
  replace K10 := cell_below hu K10
  replace K11 := cell_below hu K11
  replace Kt0 := cell_below hu Kt0
  replace Kt1 := cell_below hu Kt1
  clear hu
  clear hb
  go_wp2
  go_ret
  exact ⟨rfl, HB.out⟩

set_option maxHeartbeats 4000000 in
theorem lscale_good (a1 b1 : Option Addr) (c1 d1 m n : Nat) (zs : List Int) (qs : List Rat) (y : Rat) (aF aZ : Addr) (w : World) (hE : Er w aF aZ)
    (hS1 : ∀ v, Below w.heap.size w v → Calls Tryz.prog 11 #[.agg #[.slice a1 m c1, .slice b1 n d1]] v fun e w' => e = .returned (.bool true) ∧ Below v.heap.size v w')
    (hT1 : Tt w 0 a1 b1 zs m n qs 40) (hyb : Bd y 20) (hy0 : 0 ≤ y) (hl : ¬ 20 < (R y).size) (he : ((R y).toList == []) = false) (hp : 0 < (R y).size) (hm : ((((R y)[0].toNat : Nat) : Int) == 45) = false) :
    Calls Tryz.prog 10 #[.agg #[.slice a1 m c1, .slice b1 n d1], .string (R y)] w fun e w' => e = .returned (.bool true) ∧ Below w.heap.size w w' := by
  have HE : Hid _ := hE
  clear hE
  have HB : Hid (Below w.heap.size w w) := Below.refl _ _
  have hle := hT1.le
  have HTa : Hid _ := hT1
  clear hT1
  have hu := bl_alloc (Below.refl w.heap.size w) (.cells #[.slice a1 m c1, .slice b1 n d1] 25)
  replace HB : Hid _ := bl_trans HB.out hu
  replace HTa : Hid _ := HTa.out.below hu
  clear hu
  have K10 : (w.alloc (.cells #[.slice a1 m c1, .slice b1 n d1] 25)).cell? ⟨w.heap.size, 0, none⟩ = some (.slice a1 m c1) := by first | rw [World.cell?_alloc_at _ _ _ _ (by simp)]; rfl | simp
  have K11 : (w.alloc (.cells #[.slice a1 m c1, .slice b1 n d1] 25)).cell? ⟨w.heap.size, 1, none⟩ = some (.slice b1 n d1) := by first | rw [World.cell?_alloc_at _ _ _ _ (by simp)]; rfl | simp

  go_enter Tryz.func10, Tryz.ntmps10
  go_wp2_with fail
  refine (hS1 _ HB.out).mono ?_
  rintro e w1 ⟨rfl, hb⟩
  have hu := hb
  replace HB : Hid _ := bl_trans HB.out hu
  replace HTa : Hid _ := HTa.out.below hu
  replace K10 := cell_below hu K10
  replace K11 := cell_below hu K11
  clear hu
  clear hb
  go_wp2_with fail
  refine (zscale c1 d1 (HE.out.below HB.out) HTa.out y hyb (by omega)).mono ?_
  rintro e w2 ⟨a2', c2', b2', d2', rfl, hT, hb⟩
  have hu := bl_alloc hb (.cells #[.slice a2' m c2', .slice b2' n d2'] 25)
  replace HB : Hid _ := bl_trans HB.out hu
  replace HTa : Hid _ := HTa.out.below hu
  replace K10 := cell_below hu K10
  replace K11 := cell_below hu K11
  clear hu
  have HTt : Hid _ := hT.below (bl_alloc (Below.refl w2.heap.size w2) (.cells #[.slice a2' m c2', .slice b2' n d2'] 25))
  have Kt0 : (w2.alloc (.cells #[.slice a2' m c2', .slice b2' n d2'] 25)).cell? ⟨w2.heap.size, 0, none⟩ = some (.slice a2' m c2') := by simp
  have Kt1 : (w2.alloc (.cells #[.slice a2' m c2', .slice b2' n d2'] 25)).cell? ⟨w2.heap.size, 1, none⟩ = some (.slice b2' n d2') := by simp
  clear hb hT
  go_wp2_with fail
  refine (zrelu c2' d2' (HE.out.below HB.out) HTt.out (by omega)).mono ?_
  rintro e w3 ⟨a3', c3', b3', d3', rfl, hT, hb⟩
  have hu := bl_alloc hb (.cells #[.slice a3' m c3', .slice b3' n d3'] 25)
  replace HB : Hid _ := bl_trans HB.out hu
  replace HTa : Hid _ := HTa.out.below hu
  replace HTt : Hid _ := HTt.out.below hu
  replace K10 := cell_below hu K10
  replace K11 := cell_below hu K11
  replace Kt0 := cell_below hu Kt0
  replace Kt1 := cell_below hu Kt1
  clear hu
  have HTp : Hid _ := hT.below (bl_alloc (Below.refl w3.heap.size w3) (.cells #[.slice a3' m c3', .slice b3' n d3'] 25))
  have Kp0 : (w3.alloc (.cells #[.slice a3' m c3', .slice b3' n d3'] 25)).cell? ⟨w3.heap.size, 0, none⟩ = some (.slice a3' m c3') := by simp
  have Kp1 : (w3.alloc (.cells #[.slice a3' m c3', .slice b3' n d3'] 25)).cell? ⟨w3.heap.size, 1, none⟩ = some (.slice b3' n d3') := by simp
  clear hb hT
  go_wp2_with fail
  refine (zrelu c1 d1 (HE.out.below HB.out) HTa.out (by omega)).mono ?_
  rintro e w4 ⟨a4', c4', b4', d4', rfl, hT, hb⟩
  have hu := bl_alloc hb (.cells #[.slice a4' m c4', .slice b4' n d4'] 25)
  replace HB : Hid _ := bl_trans HB.out hu
  replace HTa : Hid _ := HTa.out.below hu
  replace HTt : Hid _ := HTt.out.below hu
  replace HTp : Hid _ := HTp.out.below hu
  replace K10 := cell_below hu K10
  replace K11 := cell_below hu K11
  replace Kt0 := cell_below hu Kt0
  replace Kt1 := cell_below hu Kt1
  replace Kp0 := cell_below hu Kp0
  replace Kp1 := cell_below hu Kp1
  clear hu
  have HTq : Hid _ := hT.below (bl_alloc (Below.refl w4.heap.size w4) (.cells #[.slice a4' m c4', .slice b4' n d4'] 25))
  have Kq0 : (w4.alloc (.cells #[.slice a4' m c4', .slice b4' n d4'] 25)).cell? ⟨w4.heap.size, 0, none⟩ = some (.slice a4' m c4') := by simp
  have Kq1 : (w4.alloc (.cells #[.slice a4' m c4', .slice b4' n d4'] 25)).cell? ⟨w4.heap.size, 1, none⟩ = some (.slice b4' n d4') := by simp
  clear hb hT
  go_wp2_with fail
  refine (zscale c4' d4' (HE.out.below HB.out) HTq.out y hyb (by omega)).mono ?_
  rintro e w5 ⟨a5', c5', b5', d5', rfl, hT, hb⟩
  have hu := bl_alloc hb (.cells #[.slice a5' m c5', .slice b5' n d5'] 25)
  replace HB : Hid _ := bl_trans HB.out hu
  replace HTa : Hid _ := HTa.out.below hu
  replace HTt : Hid _ := HTt.out.below hu
  replace HTp : Hid _ := HTp.out.below hu
  replace HTq : Hid _ := HTq.out.below hu
  replace K10 := cell_below hu K10
  replace K11 := cell_below hu K11
  replace Kt0 := cell_below hu Kt0
  replace Kt1 := cell_below hu Kt1
  replace Kp0 := cell_below hu Kp0
  replace Kp1 := cell_below hu Kp1
  replace Kq0 := cell_below hu Kq0
  replace Kq1 := cell_below hu Kq1
  clear hu
  have HTx : Hid _ := hT.below (bl_alloc (Below.refl w5.heap.size w5) (.cells #[.slice a5' m c5', .slice b5' n d5'] 25))
  have Kx0 : (w5.alloc (.cells #[.slice a5' m c5', .slice b5' n d5'] 25)).cell? ⟨w5.heap.size, 0, none⟩ = some (.slice a5' m c5') := by simp
  have Kx1 : (w5.alloc (.cells #[.slice a5' m c5', .slice b5' n d5'] 25)).cell? ⟨w5.heap.size, 1, none⟩ = some (.slice b5' n d5') := by simp
  clear hb hT
  go_wp2_with fail
  refine (zabs c2' d2' (HE.out.below HB.out) HTt.out (by omega)).mono ?_
  rintro e w6 ⟨a6', c6', b6', d6', rfl, hT, hb⟩
  have hu := bl_alloc hb (.cells #[.slice a6' m c6', .slice b6' n d6'] 25)
  replace HB : Hid _ := bl_trans HB.out hu
  replace HTa : Hid _ := HTa.out.below hu
  replace HTt : Hid _ := HTt.out.below hu
  replace HTp : Hid _ := HTp.out.below hu
  replace HTq : Hid _ := HTq.out.below hu
  replace HTx : Hid _ := HTx.out.below hu
  replace K10 := cell_below hu K10
  replace K11 := cell_below hu K11
  replace Kt0 := cell_below hu Kt0
  replace Kt1 := cell_below hu Kt1
  replace Kp0 := cell_below hu Kp0
  replace Kp1 := cell_below hu Kp1
  replace Kq0 := cell_below hu Kq0
  replace Kq1 := cell_below hu Kq1
  replace Kx0 := cell_below hu Kx0
  replace Kx1 := cell_below hu Kx1
  clear hu
  have HTu : Hid _ := hT.below (bl_alloc (Below.refl w6.heap.size w6) (.cells #[.slice a6' m c6', .slice b6' n d6'] 25))
  have Ku0 : (w6.alloc (.cells #[.slice a6' m c6', .slice b6' n d6'] 25)).cell? ⟨w6.heap.size, 0, none⟩ = some (.slice a6' m c6') := by simp
  have Ku1 : (w6.alloc (.cells #[.slice a6' m c6', .slice b6' n d6'] 25)).cell? ⟨w6.heap.size, 1, none⟩ = some (.slice b6' n d6') := by simp
  clear hb hT
  go_wp2_with fail
  refine (zabs c1 d1 (HE.out.below HB.out) HTa.out (by omega)).mono ?_
  rintro e w7 ⟨a7', c7', b7', d7', rfl, hT, hb⟩
  have hu := bl_alloc hb (.cells #[.slice a7' m c7', .slice b7' n d7'] 25)
  replace HB : Hid _ := bl_trans HB.out hu
  replace HTa : Hid _ := HTa.out.below hu
  replace HTt : Hid _ := HTt.out.below hu
  replace HTp : Hid _ := HTp.out.below hu
  replace HTq : Hid _ := HTq.out.below hu
  replace HTx : Hid _ := HTx.out.below hu
  replace HTu : Hid _ := HTu.out.below hu
  replace K10 := cell_below hu K10
  replace K11 := cell_below hu K11
  replace Kt0 := cell_below hu Kt0
  replace Kt1 := cell_below hu Kt1
  replace Kp0 := cell_below hu Kp0
  replace Kp1 := cell_below hu Kp1
  replace Kq0 := cell_below hu Kq0
  replace Kq1 := cell_below hu Kq1
  replace Kx0 := cell_below hu Kx0
  replace Kx1 := cell_below hu Kx1
  replace Ku0 := cell_below hu Ku0
  replace Ku1 := cell_below hu Ku1
  clear hu
  have HTv : Hid _ := hT.below (bl_alloc (Below.refl w7.heap.size w7) (.cells #[.slice a7' m c7', .slice b7' n d7'] 25))
  have Kv0 : (w7.alloc (.cells #[.slice a7' m c7', .slice b7' n d7'] 25)).cell? ⟨w7.heap.size, 0, none⟩ = some (.slice a7' m c7') := by simp
  have Kv1 : (w7.alloc (.cells #[.slice a7' m c7', .slice b7' n d7'] 25)).cell? ⟨w7.heap.size, 1, none⟩ = some (.slice b7' n d7') := by simp
  clear hb hT
  go_wp2_with fail
  refine (zscale c7' d7' (HE.out.below HB.out) HTv.out y hyb (by omega)).mono ?_
  rintro e w8 ⟨a8', c8', b8', d8', rfl, hT, hb⟩
  have hu := bl_alloc hb (.cells #[.slice a8' m c8', .slice b8' n d8'] 25)
  replace HB : Hid _ := bl_trans HB.out hu
  replace HTa : Hid _ := HTa.out.below hu
  replace HTt : Hid _ := HTt.out.below hu
  replace HTp : Hid _ := HTp.out.below hu
  replace HTq : Hid _ := HTq.out.below hu
  replace HTx : Hid _ := HTx.out.below hu
  replace HTu : Hid _ := HTu.out.below hu
  replace HTv : Hid _ := HTv.out.below hu
  replace K10 := cell_below hu K10
  replace K11 := cell_below hu K11
  replace Kt0 := cell_below hu Kt0
  replace Kt1 := cell_below hu Kt1
  replace Kp0 := cell_below hu Kp0
  replace Kp1 := cell_below hu Kp1
  replace Kq0 := cell_below hu Kq0
  replace Kq1 := cell_below hu Kq1
  replace Kx0 := cell_below hu Kx0
  replace Kx1 := cell_below hu Kx1
  replace Ku0 := cell_below hu Ku0
  replace Ku1 := cell_below hu Ku1
  replace Kv0 := cell_below hu Kv0
  replace Kv1 := cell_below hu Kv1
  clear hu
  have HTz : Hid _ := hT.below (bl_alloc (Below.refl w8.heap.size w8) (.cells #[.slice a8' m c8', .slice b8' n d8'] 25))
  have Kz0 : (w8.alloc (.cells #[.slice a8' m c8', .slice b8' n d8'] 25)).cell? ⟨w8.heap.size, 0, none⟩ = some (.slice a8' m c8') := by simp
  have Kz1 : (w8.alloc (.cells #[.slice a8' m c8', .slice b8' n d8'] 25)).cell? ⟨w8.heap.size, 1, none⟩ = some (.slice b8' n d8') := by simp
  clear hb hT
  go_wp2_with fail
  refine (zeq c3' d3' c5' d5' HTp.out HTx.out (lrscale qs y hy0)).mono ?_
  rintro e w9 ⟨rfl, hb⟩
  have hu := hb
  replace HB : Hid _ := bl_trans HB.out hu
  replace HTa : Hid _ := HTa.out.below hu
  replace HTt : Hid _ := HTt.out.below hu
  replace HTp : Hid _ := HTp.out.below hu
  replace HTq : Hid _ := HTq.out.below hu
  replace HTx : Hid _ := HTx.out.below hu
  replace HTu : Hid _ := HTu.out.below hu
  replace HTv : Hid _ := HTv.out.below hu
  replace HTz : Hid _ := HTz.out.below hu
  replace K10 := cell_below hu K10
  replace K11 := cell_below hu K11
  replace Kt0 := cell_below hu Kt0
  replace Kt1 := cell_below hu Kt1
  replace Kp0 := cell_below hu Kp0
  replace Kp1 := cell_below hu Kp1
  replace Kq0 := cell_below hu Kq0
  replace Kq1 := cell_below hu Kq1
  replace Kx0 := cell_below hu Kx0
  replace Kx1 := cell_below hu Kx1
  replace Ku0 := cell_below hu Ku0
  replace Ku1 := cell_below hu Ku1
  replace Kv0 := cell_below hu Kv0
  replace Kv1 := cell_below hu Kv1
  replace Kz0 := cell_below hu Kz0
  replace Kz1 := cell_below hu Kz1
  clear hu
  clear hb
  go_wp2_with fail
  refine (zeq c6' d6' c8' d8' HTu.out HTz.out (lascale qs y hy0)).mono ?_
  rintro e w10 ⟨rfl, hb⟩
  have hu := hb
  replace HB : Hid _ := bl_trans HB.out hu
  replace HTa : Hid _ := HTa.out.below hu
  replace HTt : Hid _ := HTt.out.below hu
  replace HTp : Hid _ := HTp.out.below hu
  replace HTq : Hid _ := HTq.out.below hu
  replace HTx : Hid _ := HTx.out.below hu
  replace HTu : Hid _ := HTu.out.below hu
  replace HTv : Hid _ := HTv.out.below hu
  replace HTz : Hid _ := HTz.out.below hu
  replace K10 := cell_below hu K10
  replace K11 := cell_below hu K11
  replace Kt0 := cell_below hu Kt0
  replace Kt1 := cell_below hu Kt1
  replace Kp0 := cell_below hu Kp0
  replace Kp1 := cell_below hu Kp1
  replace Kq0 := cell_below hu Kq0
  replace Kq1 := cell_below hu Kq1
  replace Kx0 := cell_below hu Kx0
  replace Kx1 := cell_below hu Kx1
  replace Ku0 := cell_below hu Ku0
  replace Ku1 := cell_below hu Ku1
  replace Kv0 := cell_below hu Kv0
  replace Kv1 := cell_below hu Kv1
  replace Kz0 := cell_below hu Kz0
  replace Kz1 := cell_below hu Kz1
  clear hu
  clear hb
  go_wp2_with fail
  refine (awake_any aF aZ _ (HE.out.below HB.out)).mono ?_
  rintro e w11 ⟨rfl, hb⟩
  have hu := hb
  replace HB : Hid _ := bl_trans HB.out hu
  replace HTa : Hid _ := HTa.out.below hu
  replace HTt : Hid _ := HTt.out.below hu
  replace HTp : Hid _ := HTp.out.below hu
  replace HTq : Hid _ := HTq.out.below hu
  replace HTx : Hid _ := HTx.out.below hu
  replace HTu : Hid _ := HTu.out.below hu
  replace HTv : Hid _ := HTv.out.below hu
  replace HTz : Hid _ := HTz.out.below hu
  replace K10 := cell_below hu K10
  replace K11 := cell_below hu K11
  replace Kt0 := cell_below hu Kt0
  replace Kt1 := cell_below hu Kt1
  replace Kp0 := cell_below hu Kp0
  replace Kp1 := cell_below hu Kp1
  replace Kq0 := cell_below hu Kq0
  replace Kq1 := cell_below hu Kq1
  replace Kx0 := cell_below hu Kx0
  replace Kx1 := cell_below hu Kx1
  replace Ku0 := cell_below hu Ku0
  replace Ku1 := cell_below hu Ku1
  replace Kv0 := cell_below hu Kv0
  replace Kv1 := cell_below hu Kv1
  replace Kz0 := cell_below hu Kz0
  replace Kz1 := cell_below hu Kz1
  clear hu
  clear hb
  go_wp2
  go_ret
  exact ⟨rfl, HB.out⟩
end Go.Proofs.YtjkobbpebnkimaaGreatDoor.Tn
