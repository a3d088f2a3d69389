/-
  THE WALK OF KinkLaws. Conditions: what the arguments hold.
-/
import Derived.Test.YtjkobbpebnkimaaGreatDoorAw7
namespace Go.Proofs.YtjkobbpebnkimaaGreatDoor.Tn
set_option maxRecDepth 100000
open Go.RowKit Nm
set_option linter.unusedVariables false

set_option maxHeartbeats 4000000 in
theorem laws_long1 (a1 b1 a2 b2 : Option Addr) (c1 d1 m1 n1 c2 d2 m2 n2 : Nat) (aF aZ : Addr) (w : World) (hE : Er w aF aZ)
    (hS1 : ∀ v, Below w.heap.size w v → Calls Tryz.prog 11 #[.agg #[.slice a1 m1 c1, .slice b1 n1 d1]] v fun e w' => e = .returned (.bool false) ∧ Below v.heap.size v w') :
    Calls Tryz.prog 6 #[.agg #[.slice a1 m1 c1, .slice b1 n1 d1], .agg #[.slice a2 m2 c2, .slice b2 n2 d2]] w fun e w' => e = .returned (.bool true) ∧ Below w.heap.size w w' := by
  have HE : Hid _ := hE
  clear hE
  have HB : Hid (Below w.heap.size w w) := Below.refl _ _
  have hu := bl_alloc (Below.refl w.heap.size w) (.cells #[.slice a1 m1 c1, .slice b1 n1 d1] 25)
  replace HB : Hid _ := bl_trans HB.out hu
  clear hu
  have K10 : (w.alloc (.cells #[.slice a1 m1 c1, .slice b1 n1 d1] 25)).cell? ⟨w.heap.size, 0, none⟩ = some (.slice a1 m1 c1) := by first | rw [World.cell?_alloc_at _ _ _ _ (by simp)]; rfl | simp
  have K11 : (w.alloc (.cells #[.slice a1 m1 c1, .slice b1 n1 d1] 25)).cell? ⟨w.heap.size, 1, none⟩ = some (.slice b1 n1 d1) := by first | rw [World.cell?_alloc_at _ _ _ _ (by simp)]; rfl | simp
  have hu := bl_alloc (Below.refl (w.alloc (.cells #[.slice a1 m1 c1, .slice b1 n1 d1] 25)).heap.size (w.alloc (.cells #[.slice a1 m1 c1, .slice b1 n1 d1] 25))) (.cells #[.slice a2 m2 c2, .slice b2 n2 d2] 25)
  replace HB : Hid _ := bl_trans HB.out hu
  replace K10 := cell_below hu K10
  replace K11 := cell_below hu K11
  clear hu
  have K20 : ((w.alloc (.cells #[.slice a1 m1 c1, .slice b1 n1 d1] 25)).alloc (.cells #[.slice a2 m2 c2, .slice b2 n2 d2] 25)).cell? ⟨w.heap.size + 1, 0, none⟩ = some (.slice a2 m2 c2) := by first | rw [World.cell?_alloc_at _ _ _ _ (by simp)]; rfl | simp
  have K21 : ((w.alloc (.cells #[.slice a1 m1 c1, .slice b1 n1 d1] 25)).alloc (.cells #[.slice a2 m2 c2, .slice b2 n2 d2] 25)).cell? ⟨w.heap.size + 1, 1, none⟩ = some (.slice b2 n2 d2) := by first | rw [World.cell?_alloc_at _ _ _ _ (by simp)]; rfl | simp
  go_enter Tryz.func6, Tryz.ntmps6
  go_wp2_with fail
  refine (hS1 _ HB.out).mono ?_
  rintro e w1 ⟨rfl, hb⟩
  have hu := hb
  replace HB : Hid _ := bl_trans HB.out hu
  replace K10 := cell_below hu K10
  replace K11 := cell_below hu K11
  replace K20 := cell_below hu K20
  replace K21 := cell_below hu K21
  clear hu
  clear hb
  go_wp2_with fail
  refine (awake_any aF aZ _ (HE.out.below HB.out)).mono ?_
  rintro e w2 ⟨rfl, hb⟩
  have hu := hb
  replace HB : Hid _ := bl_trans HB.out hu
  replace K10 := cell_below hu K10
  replace K11 := cell_below hu K11
  replace K20 := cell_below hu K20
  replace K21 := cell_below hu K21
  clear hu
  clear hb
  go_wp2
  go_ret
  exact ⟨rfl, HB.out⟩

set_option maxHeartbeats 4000000 in
theorem laws_long2 (a1 b1 a2 b2 : Option Addr) (c1 d1 m1 n1 c2 d2 m2 n2 : Nat) (aF aZ : Addr) (w : World) (hE : Er w aF aZ)
    (hS1 : ∀ v, Below w.heap.size w v → Calls Tryz.prog 11 #[.agg #[.slice a1 m1 c1, .slice b1 n1 d1]] v fun e w' => e = .returned (.bool true) ∧ Below v.heap.size v w')
    (hS2 : ∀ v, Below w.heap.size w v → Calls Tryz.prog 11 #[.agg #[.slice a2 m2 c2, .slice b2 n2 d2]] v fun e w' => e = .returned (.bool false) ∧ Below v.heap.size v w') :
    Calls Tryz.prog 6 #[.agg #[.slice a1 m1 c1, .slice b1 n1 d1], .agg #[.slice a2 m2 c2, .slice b2 n2 d2]] w fun e w' => e = .returned (.bool true) ∧ Below w.heap.size w w' := by
  have HE : Hid _ := hE
  clear hE
  have HB : Hid (Below w.heap.size w w) := Below.refl _ _
  have hu := bl_alloc (Below.refl w.heap.size w) (.cells #[.slice a1 m1 c1, .slice b1 n1 d1] 25)
  replace HB : Hid _ := bl_trans HB.out hu
  clear hu
  have K10 : (w.alloc (.cells #[.slice a1 m1 c1, .slice b1 n1 d1] 25)).cell? ⟨w.heap.size, 0, none⟩ = some (.slice a1 m1 c1) := by first | rw [World.cell?_alloc_at _ _ _ _ (by simp)]; rfl | simp
  have K11 : (w.alloc (.cells #[.slice a1 m1 c1, .slice b1 n1 d1] 25)).cell? ⟨w.heap.size, 1, none⟩ = some (.slice b1 n1 d1) := by first | rw [World.cell?_alloc_at _ _ _ _ (by simp)]; rfl | simp
  have hu := bl_alloc (Below.refl (w.alloc (.cells #[.slice a1 m1 c1, .slice b1 n1 d1] 25)).heap.size (w.alloc (.cells #[.slice a1 m1 c1, .slice b1 n1 d1] 25))) (.cells #[.slice a2 m2 c2, .slice b2 n2 d2] 25)
  replace HB : Hid _ := bl_trans HB.out hu
  replace K10 := cell_below hu K10
  replace K11 := cell_below hu K11
  clear hu
  have K20 : ((w.alloc (.cells #[.slice a1 m1 c1, .slice b1 n1 d1] 25)).alloc (.cells #[.slice a2 m2 c2, .slice b2 n2 d2] 25)).cell? ⟨w.heap.size + 1, 0, none⟩ = some (.slice a2 m2 c2) := by first | rw [World.cell?_alloc_at _ _ _ _ (by simp)]; rfl | simp
  have K21 : ((w.alloc (.cells #[.slice a1 m1 c1, .slice b1 n1 d1] 25)).alloc (.cells #[.slice a2 m2 c2, .slice b2 n2 d2] 25)).cell? ⟨w.heap.size + 1, 1, none⟩ = some (.slice b2 n2 d2) := by first | rw [World.cell?_alloc_at _ _ _ _ (by simp)]; rfl | simp
  go_enter Tryz.func6, Tryz.ntmps6
  go_wp2_with fail
  refine (hS1 _ HB.out).mono ?_
  rintro e w1 ⟨rfl, hb⟩
  have hu := hb
  replace HB : Hid _ := bl_trans HB.out hu
  replace K10 := cell_below hu K10
  replace K11 := cell_below hu K11
  replace K20 := cell_below hu K20
  replace K21 := cell_below hu K21
  clear hu
  clear hb
  go_wp2_with fail
  refine (hS2 _ HB.out).mono ?_
  rintro e w2 ⟨rfl, hb⟩
  have hu := hb
  replace HB : Hid _ := bl_trans HB.out hu
  replace K10 := cell_below hu K10
  replace K11 := cell_below hu K11
  replace K20 := cell_below hu K20
  replace K21 := cell_below hu K21
  clear hu
  clear hb
  go_wp2_with fail
  refine (awake_any aF aZ _ (HE.out.below HB.out)).mono ?_
  rintro e w3 ⟨rfl, hb⟩
  have hu := hb
  replace HB : Hid _ := bl_trans HB.out hu
  replace K10 := cell_below hu K10
  replace K11 := cell_below hu K11
  replace K20 := cell_below hu K20
  replace K21 := cell_below hu K21
  clear hu
  clear hb
  go_wp2
  go_ret
  exact ⟨rfl, HB.out⟩

set_option maxHeartbeats 4000000 in
theorem laws_no (a1 b1 a2 b2 : Option Addr) (c1 d1 m1 n1 c2 d2 m2 n2 : Nat) (er : Int) (aF aZ : Addr) (w : World) (hE : Er w aF aZ)
    (hS1 : ∀ v, Below w.heap.size w v → Calls Tryz.prog 11 #[.agg #[.slice a1 m1 c1, .slice b1 n1 d1]] v fun e w' => e = .returned (.bool true) ∧ Below v.heap.size v w')
    (hS2 : ∀ v, Below w.heap.size w v → Calls Tryz.prog 11 #[.agg #[.slice a2 m2 c2, .slice b2 n2 d2]] v fun e w' => e = .returned (.bool true) ∧ Below v.heap.size v w')
    (hZ : ∀ v, Below w.heap.size w v → Calls Tryz.prog 21 #[.agg #[.slice a1 m1 c1, .slice b1 n1 d1], .agg #[.slice a2 m2 c2, .slice b2 n2 d2]] v fun e w' => e = .returned (noTensor er) ∧ Below v.heap.size v w') (hne : (er != 0) = true) :
    Calls Tryz.prog 6 #[.agg #[.slice a1 m1 c1, .slice b1 n1 d1], .agg #[.slice a2 m2 c2, .slice b2 n2 d2]] w fun e w' => e = .returned (.bool true) ∧ Below w.heap.size w w' := by
  have HE : Hid _ := hE
  clear hE
  have HB : Hid (Below w.heap.size w w) := Below.refl _ _
  have hu := bl_alloc (Below.refl w.heap.size w) (.cells #[.slice a1 m1 c1, .slice b1 n1 d1] 25)
  replace HB : Hid _ := bl_trans HB.out hu
  clear hu
  have K10 : (w.alloc (.cells #[.slice a1 m1 c1, .slice b1 n1 d1] 25)).cell? ⟨w.heap.size, 0, none⟩ = some (.slice a1 m1 c1) := by first | rw [World.cell?_alloc_at _ _ _ _ (by simp)]; rfl | simp
  have K11 : (w.alloc (.cells #[.slice a1 m1 c1, .slice b1 n1 d1] 25)).cell? ⟨w.heap.size, 1, none⟩ = some (.slice b1 n1 d1) := by first | rw [World.cell?_alloc_at _ _ _ _ (by simp)]; rfl | simp
  have hu := bl_alloc (Below.refl (w.alloc (.cells #[.slice a1 m1 c1, .slice b1 n1 d1] 25)).heap.size (w.alloc (.cells #[.slice a1 m1 c1, .slice b1 n1 d1] 25))) (.cells #[.slice a2 m2 c2, .slice b2 n2 d2] 25)
  replace HB : Hid _ := bl_trans HB.out hu
  replace K10 := cell_below hu K10
  replace K11 := cell_below hu K11
  clear hu
  have K20 : ((w.alloc (.cells #[.slice a1 m1 c1, .slice b1 n1 d1] 25)).alloc (.cells #[.slice a2 m2 c2, .slice b2 n2 d2] 25)).cell? ⟨w.heap.size + 1, 0, none⟩ = some (.slice a2 m2 c2) := by first | rw [World.cell?_alloc_at _ _ _ _ (by simp)]; rfl | simp
  have K21 : ((w.alloc (.cells #[.slice a1 m1 c1, .slice b1 n1 d1] 25)).alloc (.cells #[.slice a2 m2 c2, .slice b2 n2 d2] 25)).cell? ⟨w.heap.size + 1, 1, none⟩ = some (.slice b2 n2 d2) := by first | rw [World.cell?_alloc_at _ _ _ _ (by simp)]; rfl | simp
  go_enter Tryz.func6, Tryz.ntmps6
  go_wp2_with fail
  refine (hS1 _ HB.out).mono ?_
  rintro e w1 ⟨rfl, hb⟩
  have hu := hb
  replace HB : Hid _ := bl_trans HB.out hu
  replace K10 := cell_below hu K10
  replace K11 := cell_below hu K11
  replace K20 := cell_below hu K20
  replace K21 := cell_below hu K21
  clear hu
  clear hb
  go_wp2_with fail
  refine (hS2 _ HB.out).mono ?_
  rintro e w2 ⟨rfl, hb⟩
  have hu := hb
  replace HB : Hid _ := bl_trans HB.out hu
  replace K10 := cell_below hu K10
  replace K11 := cell_below hu K11
  replace K20 := cell_below hu K20
  replace K21 := cell_below hu K21
  clear hu
  clear hb
  go_wp2_with fail
  refine (hZ _ HB.out).mono ?_
  rintro e w3 ⟨rfl, hb⟩
  have hu := bl_alloc hb (.cells #[.slice none 0 0, .slice none 0 0] 25)
  replace HB : Hid _ := bl_trans HB.out hu
  replace K10 := cell_below hu K10
  replace K11 := cell_below hu K11
  replace K20 := cell_below hu K20
  replace K21 := cell_below hu K21
  clear hu
  have Km0 : (w3.alloc (.cells #[.slice none 0 0, .slice none 0 0] 25)).cell? ⟨w3.heap.size, 0, none⟩ = some (.slice none 0 0) := by simp
  have Km1 : (w3.alloc (.cells #[.slice none 0 0, .slice none 0 0] 25)).cell? ⟨w3.heap.size, 1, none⟩ = some (.slice none 0 0) := by simp
  clear hb
  go_wp2_with fail
  refine (awake_any aF aZ _ (HE.out.below HB.out)).mono ?_
  rintro e w4 ⟨rfl, hb⟩
  have hu := hb
  replace HB : Hid _ := bl_trans HB.out hu
  replace K10 := cell_below hu K10
  replace K11 := cell_below hu K11
  replace K20 := cell_below hu K20
  replace K21 := cell_below hu K21
  replace Km0 := cell_below hu Km0
  replace Km1 := cell_below hu Km1
  clear hu
  clear hb
  go_wp2
  go_ret
  exact ⟨rfl, HB.out⟩

set_option maxHeartbeats 4000000 in
theorem laws_good (a1 b1 a2 b2 : Option Addr) (c1 d1 c2 d2 m n : Nat) (zs : List Int) (qs rs : List Rat) (aF aZ : Addr) (w : World) (hE : Er w aF aZ)
    (hS1 : ∀ v, Below w.heap.size w v → Calls Tryz.prog 11 #[.agg #[.slice a1 m c1, .slice b1 n d1]] v fun e w' => e = .returned (.bool true) ∧ Below v.heap.size v w')
    (hS2 : ∀ v, Below w.heap.size w v → Calls Tryz.prog 11 #[.agg #[.slice a2 m c2, .slice b2 n d2]] v fun e w' => e = .returned (.bool true) ∧ Below v.heap.size v w')
    (hT1 : Tt w 0 a1 b1 zs m n qs 40) (hT2 : Tt w 0 a2 b2 zs m n rs 40) :
    Calls Tryz.prog 6 #[.agg #[.slice a1 m c1, .slice b1 n d1], .agg #[.slice a2 m c2, .slice b2 n d2]] w fun e w' => e = .returned (.bool true) ∧ Below w.heap.size w w' := by
  have HE : Hid _ := hE
  clear hE
  have HB : Hid (Below w.heap.size w w) := Below.refl _ _
  have HL : Hid (qs.length = n ∧ rs.length = n) := ⟨hT1.hn, hT2.hn⟩
  have HTa : Hid _ := hT1
  clear hT1
  have HTb : Hid _ := hT2
  clear hT2
  have hu := bl_alloc (Below.refl w.heap.size w) (.cells #[.slice a1 m c1, .slice b1 n d1] 25)
  replace HB : Hid _ := bl_trans HB.out hu
  replace HTa : Hid _ := HTa.out.below hu
  replace HTb : Hid _ := HTb.out.below hu
  clear hu
  have K10 : (w.alloc (.cells #[.slice a1 m c1, .slice b1 n d1] 25)).cell? ⟨w.heap.size, 0, none⟩ = some (.slice a1 m c1) := by first | rw [World.cell?_alloc_at _ _ _ _ (by simp)]; rfl | simp
  have K11 : (w.alloc (.cells #[.slice a1 m c1, .slice b1 n d1] 25)).cell? ⟨w.heap.size, 1, none⟩ = some (.slice b1 n d1) := by first | rw [World.cell?_alloc_at _ _ _ _ (by simp)]; rfl | simp
  have hu := bl_alloc (Below.refl (w.alloc (.cells #[.slice a1 m c1, .slice b1 n d1] 25)).heap.size (w.alloc (.cells #[.slice a1 m c1, .slice b1 n d1] 25))) (.cells #[.slice a2 m c2, .slice b2 n d2] 25)
  replace HB : Hid _ := bl_trans HB.out hu
  replace HTa : Hid _ := HTa.out.below hu
  replace HTb : Hid _ := HTb.out.below hu
  replace K10 := cell_below hu K10
  replace K11 := cell_below hu K11
  clear hu
  have K20 : ((w.alloc (.cells #[.slice a1 m c1, .slice b1 n d1] 25)).alloc (.cells #[.slice a2 m c2, .slice b2 n d2] 25)).cell? ⟨w.heap.size + 1, 0, none⟩ = some (.slice a2 m c2) := by first | rw [World.cell?_alloc_at _ _ _ _ (by simp)]; rfl | simp
  have K21 : ((w.alloc (.cells #[.slice a1 m c1, .slice b1 n d1] 25)).alloc (.cells #[.slice a2 m c2, .slice b2 n d2] 25)).cell? ⟨w.heap.size + 1, 1, none⟩ = some (.slice b2 n d2) := by first | rw [World.cell?_alloc_at _ _ _ _ (by simp)]; rfl | simp
  go_enter Tryz.func6, Tryz.ntmps6
  go_wp2_with fail
  refine (hS1 _ HB.out).mono ?_
  rintro e w1 ⟨rfl, hb⟩
  have hu := hb
  replace HB : Hid _ := bl_trans HB.out hu
  replace HTa : Hid _ := HTa.out.below hu
  replace HTb : Hid _ := HTb.out.below hu
  replace K10 := cell_below hu K10
  replace K11 := cell_below hu K11
  replace K20 := cell_below hu K20
  replace K21 := cell_below hu K21
  clear hu
  clear hb
  go_wp2_with fail
  refine (hS2 _ HB.out).mono ?_
  rintro e w2 ⟨rfl, hb⟩
  have hu := hb
  replace HB : Hid _ := bl_trans HB.out hu
  replace HTa : Hid _ := HTa.out.below hu
  replace HTb : Hid _ := HTb.out.below hu
  replace K10 := cell_below hu K10
  replace K11 := cell_below hu K11
  replace K20 := cell_below hu K20
  replace K21 := cell_below hu K21
  clear hu
  clear hb
  go_wp2_with fail
  refine (zmax c1 d1 c2 d2 (HE.out.below HB.out) HTa.out HTb.out 40 (by omega) (by omega) (by omega)).mono ?_
  rintro e w3 ⟨a3', c3', b3', d3', rfl, hT, hb⟩
  have hu := bl_alloc hb (.cells #[.slice a3' m c3', .slice b3' n d3'] 25)
  replace HB : Hid _ := bl_trans HB.out hu
  replace HTa : Hid _ := HTa.out.below hu
  replace HTb : Hid _ := HTb.out.below hu
  replace K10 := cell_below hu K10
  replace K11 := cell_below hu K11
  replace K20 := cell_below hu K20
  replace K21 := cell_below hu K21
  clear hu
  have HTm : Hid _ := hT.below (bl_alloc (Below.refl w3.heap.size w3) (.cells #[.slice a3' m c3', .slice b3' n d3'] 25))
  have Km0 : (w3.alloc (.cells #[.slice a3' m c3', .slice b3' n d3'] 25)).cell? ⟨w3.heap.size, 0, none⟩ = some (.slice a3' m c3') := by simp
  have Km1 : (w3.alloc (.cells #[.slice a3' m c3', .slice b3' n d3'] 25)).cell? ⟨w3.heap.size, 1, none⟩ = some (.slice b3' n d3') := by simp
  clear hb hT
  go_wp2_with fail
  refine (zmax c2 d2 c1 d1 (HE.out.below HB.out) HTb.out HTa.out 40 (by omega) (by omega) (by omega)).mono ?_
  rintro e w4 ⟨a4', c4', b4', d4', rfl, hT, hb⟩
  have hu := bl_alloc hb (.cells #[.slice a4' m c4', .slice b4' n d4'] 25)
  replace HB : Hid _ := bl_trans HB.out hu
  replace HTa : Hid _ := HTa.out.below hu
  replace HTb : Hid _ := HTb.out.below hu
  replace HTm : Hid _ := HTm.out.below hu
  replace K10 := cell_below hu K10
  replace K11 := cell_below hu K11
  replace K20 := cell_below hu K20
  replace K21 := cell_below hu K21
  replace Km0 := cell_below hu Km0
  replace Km1 := cell_below hu Km1
  clear hu
  have HTw : Hid _ := hT.below (bl_alloc (Below.refl w4.heap.size w4) (.cells #[.slice a4' m c4', .slice b4' n d4'] 25))
  have Kw0 : (w4.alloc (.cells #[.slice a4' m c4', .slice b4' n d4'] 25)).cell? ⟨w4.heap.size, 0, none⟩ = some (.slice a4' m c4') := by simp
  have Kw1 : (w4.alloc (.cells #[.slice a4' m c4', .slice b4' n d4'] 25)).cell? ⟨w4.heap.size, 1, none⟩ = some (.slice b4' n d4') := by simp
  clear hb hT
  have hk := zscale c1 d1 (HE.out.below HB.out) HTa.out (-1) (bdm (Nat.le_refl 1)) (by omega)
  rw [lm1] at hk
  go_wp2_with fail
  refine (hk).mono ?_
  rintro e w5 ⟨a5', c5', b5', d5', rfl, hT, hb⟩
  have hu := bl_alloc hb (.cells #[.slice a5' m c5', .slice b5' n d5'] 25)
  replace HB : Hid _ := bl_trans HB.out hu
  replace HTa : Hid _ := HTa.out.below hu
  replace HTb : Hid _ := HTb.out.below hu
  replace HTm : Hid _ := HTm.out.below hu
  replace HTw : Hid _ := HTw.out.below hu
  replace K10 := cell_below hu K10
  replace K11 := cell_below hu K11
  replace K20 := cell_below hu K20
  replace K21 := cell_below hu K21
  replace Km0 := cell_below hu Km0
  replace Km1 := cell_below hu Km1
  replace Kw0 := cell_below hu Kw0
  replace Kw1 := cell_below hu Kw1
  clear hu
  have HTn : Hid _ := hT.below (bl_alloc (Below.refl w5.heap.size w5) (.cells #[.slice a5' m c5', .slice b5' n d5'] 25))
  have Kn0 : (w5.alloc (.cells #[.slice a5' m c5', .slice b5' n d5'] 25)).cell? ⟨w5.heap.size, 0, none⟩ = some (.slice a5' m c5') := by simp
  have Kn1 : (w5.alloc (.cells #[.slice a5' m c5', .slice b5' n d5'] 25)).cell? ⟨w5.heap.size, 1, none⟩ = some (.slice b5' n d5') := by simp
  clear hb hT
  clear hk
  go_wp2_with fail
  refine (zrelu c1 d1 (HE.out.below HB.out) HTa.out (by omega)).mono ?_
  rintro e w6 ⟨a6', c6', b6', d6', rfl, hT, hb⟩
  have hu := bl_alloc hb (.cells #[.slice a6' m c6', .slice b6' n d6'] 25)
  replace HB : Hid _ := bl_trans HB.out hu
  replace HTa : Hid _ := HTa.out.below hu
  replace HTb : Hid _ := HTb.out.below hu
  replace HTm : Hid _ := HTm.out.below hu
  replace HTw : Hid _ := HTw.out.below hu
  replace HTn : Hid _ := HTn.out.below hu
  replace K10 := cell_below hu K10
  replace K11 := cell_below hu K11
  replace K20 := cell_below hu K20
  replace K21 := cell_below hu K21
  replace Km0 := cell_below hu Km0
  replace Km1 := cell_below hu Km1
  replace Kw0 := cell_below hu Kw0
  replace Kw1 := cell_below hu Kw1
  replace Kn0 := cell_below hu Kn0
  replace Kn1 := cell_below hu Kn1
  clear hu
  have HTp : Hid _ := hT.below (bl_alloc (Below.refl w6.heap.size w6) (.cells #[.slice a6' m c6', .slice b6' n d6'] 25))
  have Kp0 : (w6.alloc (.cells #[.slice a6' m c6', .slice b6' n d6'] 25)).cell? ⟨w6.heap.size, 0, none⟩ = some (.slice a6' m c6') := by simp
  have Kp1 : (w6.alloc (.cells #[.slice a6' m c6', .slice b6' n d6'] 25)).cell? ⟨w6.heap.size, 1, none⟩ = some (.slice b6' n d6') := by simp
  clear hb hT
  go_wp2_with fail
  refine (zrelu c5' d5' (HE.out.below HB.out) HTn.out (by omega)).mono ?_
  rintro e w7 ⟨a7', c7', b7', d7', rfl, hT, hb⟩
  have hu := bl_alloc hb (.cells #[.slice a7' m c7', .slice b7' n d7'] 25)
  replace HB : Hid _ := bl_trans HB.out hu
  replace HTa : Hid _ := HTa.out.below hu
  replace HTb : Hid _ := HTb.out.below hu
  replace HTm : Hid _ := HTm.out.below hu
  replace HTw : Hid _ := HTw.out.below hu
  replace HTn : Hid _ := HTn.out.below hu
  replace HTp : Hid _ := HTp.out.below hu
  replace K10 := cell_below hu K10
  replace K11 := cell_below hu K11
  replace K20 := cell_below hu K20
  replace K21 := cell_below hu K21
  replace Km0 := cell_below hu Km0
  replace Km1 := cell_below hu Km1
  replace Kw0 := cell_below hu Kw0
  replace Kw1 := cell_below hu Kw1
  replace Kn0 := cell_below hu Kn0
  replace Kn1 := cell_below hu Kn1
  replace Kp0 := cell_below hu Kp0
  replace Kp1 := cell_below hu Kp1
  clear hu
  have HTq : Hid _ := hT.below (bl_alloc (Below.refl w7.heap.size w7) (.cells #[.slice a7' m c7', .slice b7' n d7'] 25))
  have Kq0 : (w7.alloc (.cells #[.slice a7' m c7', .slice b7' n d7'] 25)).cell? ⟨w7.heap.size, 0, none⟩ = some (.slice a7' m c7') := by simp
  have Kq1 : (w7.alloc (.cells #[.slice a7' m c7', .slice b7' n d7'] 25)).cell? ⟨w7.heap.size, 1, none⟩ = some (.slice b7' n d7') := by simp
  clear hb hT
  go_wp2_with fail
  refine (zadd c6' d6' c7' d7' (HE.out.below HB.out) HTp.out HTq.out (by omega)).mono ?_
  rintro e w8 ⟨a8', c8', b8', d8', rfl, hT, hb⟩
  have hu := bl_alloc hb (.cells #[.slice a8' m c8', .slice b8' n d8'] 25)
  replace HB : Hid _ := bl_trans HB.out hu
  replace HTa : Hid _ := HTa.out.below hu
  replace HTb : Hid _ := HTb.out.below hu
  replace HTm : Hid _ := HTm.out.below hu
  replace HTw : Hid _ := HTw.out.below hu
  replace HTn : Hid _ := HTn.out.below hu
  replace HTp : Hid _ := HTp.out.below hu
  replace HTq : Hid _ := HTq.out.below hu
  replace K10 := cell_below hu K10
  replace K11 := cell_below hu K11
  replace K20 := cell_below hu K20
  replace K21 := cell_below hu K21
  replace Km0 := cell_below hu Km0
  replace Km1 := cell_below hu Km1
  replace Kw0 := cell_below hu Kw0
  replace Kw1 := cell_below hu Kw1
  replace Kn0 := cell_below hu Kn0
  replace Kn1 := cell_below hu Kn1
  replace Kp0 := cell_below hu Kp0
  replace Kp1 := cell_below hu Kp1
  replace Kq0 := cell_below hu Kq0
  replace Kq1 := cell_below hu Kq1
  clear hu
  have HTs : Hid _ := hT.below (bl_alloc (Below.refl w8.heap.size w8) (.cells #[.slice a8' m c8', .slice b8' n d8'] 25))
  have Ks0 : (w8.alloc (.cells #[.slice a8' m c8', .slice b8' n d8'] 25)).cell? ⟨w8.heap.size, 0, none⟩ = some (.slice a8' m c8') := by simp
  have Ks1 : (w8.alloc (.cells #[.slice a8' m c8', .slice b8' n d8'] 25)).cell? ⟨w8.heap.size, 1, none⟩ = some (.slice b8' n d8') := by simp
  clear hb hT
  clear Kn0 Kn1
  clear Kq0 Kq1
  go_wp2_with fail
  refine (zabs c1 d1 (HE.out.below HB.out) HTa.out (by omega)).mono ?_
  rintro e w9 ⟨a9', c9', b9', d9', rfl, hT, hb⟩
  have hu := bl_alloc hb (.cells #[.slice a9' m c9', .slice b9' n d9'] 25)
  replace HB : Hid _ := bl_trans HB.out hu
  replace HTa : Hid _ := HTa.out.below hu
  replace HTb : Hid _ := HTb.out.below hu
  replace HTm : Hid _ := HTm.out.below hu
  replace HTw : Hid _ := HTw.out.below hu
  replace HTn : Hid _ := HTn.out.below hu
  replace HTp : Hid _ := HTp.out.below hu
  replace HTq : Hid _ := HTq.out.below hu
  replace HTs : Hid _ := HTs.out.below hu
  replace K10 := cell_below hu K10
  replace K11 := cell_below hu K11
  replace K20 := cell_below hu K20
  replace K21 := cell_below hu K21
  replace Km0 := cell_below hu Km0
  replace Km1 := cell_below hu Km1
  replace Kw0 := cell_below hu Kw0
  replace Kw1 := cell_below hu Kw1
  replace Kp0 := cell_below hu Kp0
  replace Kp1 := cell_below hu Kp1
  replace Ks0 := cell_below hu Ks0
  replace Ks1 := cell_below hu Ks1
  clear hu
  have HTv : Hid _ := hT.below (bl_alloc (Below.refl w9.heap.size w9) (.cells #[.slice a9' m c9', .slice b9' n d9'] 25))
  have Kv0 : (w9.alloc (.cells #[.slice a9' m c9', .slice b9' n d9'] 25)).cell? ⟨w9.heap.size, 0, none⟩ = some (.slice a9' m c9') := by simp
  have Kv1 : (w9.alloc (.cells #[.slice a9' m c9', .slice b9' n d9'] 25)).cell? ⟨w9.heap.size, 1, none⟩ = some (.slice b9' n d9') := by simp
  clear hb hT
  have hk := zfill c1 (HE.out.below HB.out) HTa.out.tm.s HTa.out.tr.r HTa.out.hm (HTa.out.tr.l.symm.trans HTa.out.hn) 0 (bd0 (Nat.le_refl 1)) (by omega)
  rw [R07] at hk
  go_wp2_with fail
  refine (hk).mono ?_
  rintro e w10 ⟨a10', c10', b10', d10', rfl, hT, hb⟩
  have hu := bl_alloc hb (.cells #[.slice a10' m c10', .slice b10' n d10'] 25)
  replace HB : Hid _ := bl_trans HB.out hu
  replace HTa : Hid _ := HTa.out.below hu
  replace HTb : Hid _ := HTb.out.below hu
  replace HTm : Hid _ := HTm.out.below hu
  replace HTw : Hid _ := HTw.out.below hu
  replace HTn : Hid _ := HTn.out.below hu
  replace HTp : Hid _ := HTp.out.below hu
  replace HTq : Hid _ := HTq.out.below hu
  replace HTs : Hid _ := HTs.out.below hu
  replace HTv : Hid _ := HTv.out.below hu
  replace K10 := cell_below hu K10
  replace K11 := cell_below hu K11
  replace K20 := cell_below hu K20
  replace K21 := cell_below hu K21
  replace Km0 := cell_below hu Km0
  replace Km1 := cell_below hu Km1
  replace Kw0 := cell_below hu Kw0
  replace Kw1 := cell_below hu Kw1
  replace Kp0 := cell_below hu Kp0
  replace Kp1 := cell_below hu Kp1
  replace Ks0 := cell_below hu Ks0
  replace Ks1 := cell_below hu Ks1
  replace Kv0 := cell_below hu Kv0
  replace Kv1 := cell_below hu Kv1
  clear hu
  have HTz : Hid _ := hT.below (bl_alloc (Below.refl w10.heap.size w10) (.cells #[.slice a10' m c10', .slice b10' n d10'] 25))
  have Kz0 : (w10.alloc (.cells #[.slice a10' m c10', .slice b10' n d10'] 25)).cell? ⟨w10.heap.size, 0, none⟩ = some (.slice a10' m c10') := by simp
  have Kz1 : (w10.alloc (.cells #[.slice a10' m c10', .slice b10' n d10'] 25)).cell? ⟨w10.heap.size, 1, none⟩ = some (.slice b10' n d10') := by simp
  clear hb hT
  clear hk
  go_wp2_with fail
  refine (zmax c1 d1 c10' d10' (HE.out.below HB.out) HTa.out HTz.out 40 (by omega) (by omega) (by omega)).mono ?_
  rintro e w11 ⟨a11', c11', b11', d11', rfl, hT, hb⟩
  have hu := bl_alloc hb (.cells #[.slice a11' m c11', .slice b11' n d11'] 25)
  replace HB : Hid _ := bl_trans HB.out hu
  replace HTa : Hid _ := HTa.out.below hu
  replace HTb : Hid _ := HTb.out.below hu
  replace HTm : Hid _ := HTm.out.below hu
  replace HTw : Hid _ := HTw.out.below hu
  replace HTn : Hid _ := HTn.out.below hu
  replace HTp : Hid _ := HTp.out.below hu
  replace HTq : Hid _ := HTq.out.below hu
  replace HTs : Hid _ := HTs.out.below hu
  replace HTv : Hid _ := HTv.out.below hu
  replace HTz : Hid _ := HTz.out.below hu
  replace K10 := cell_below hu K10
  replace K11 := cell_below hu K11
  replace K20 := cell_below hu K20
  replace K21 := cell_below hu K21
  replace Km0 := cell_below hu Km0
  replace Km1 := cell_below hu Km1
  replace Kw0 := cell_below hu Kw0
  replace Kw1 := cell_below hu Kw1
  replace Kp0 := cell_below hu Kp0
  replace Kp1 := cell_below hu Kp1
  replace Ks0 := cell_below hu Ks0
  replace Ks1 := cell_below hu Ks1
  replace Kv0 := cell_below hu Kv0
  replace Kv1 := cell_below hu Kv1
  replace Kz0 := cell_below hu Kz0
  replace Kz1 := cell_below hu Kz1
  clear hu
  have HTu : Hid _ := hT.below (bl_alloc (Below.refl w11.heap.size w11) (.cells #[.slice a11' m c11', .slice b11' n d11'] 25))
  have Ku0 : (w11.alloc (.cells #[.slice a11' m c11', .slice b11' n d11'] 25)).cell? ⟨w11.heap.size, 0, none⟩ = some (.slice a11' m c11') := by simp
  have Ku1 : (w11.alloc (.cells #[.slice a11' m c11', .slice b11' n d11'] 25)).cell? ⟨w11.heap.size, 1, none⟩ = some (.slice b11' n d11') := by simp
  clear hb hT
  clear Kz0 Kz1
  go_wp2_with fail
  refine (zrelu c6' d6' (HE.out.below HB.out) HTp.out (by omega)).mono ?_
  rintro e w12 ⟨a12', c12', b12', d12', rfl, hT, hb⟩
  have hu := bl_alloc hb (.cells #[.slice a12' m c12', .slice b12' n d12'] 25)
  replace HB : Hid _ := bl_trans HB.out hu
  replace HTa : Hid _ := HTa.out.below hu
  replace HTb : Hid _ := HTb.out.below hu
  replace HTm : Hid _ := HTm.out.below hu
  replace HTw : Hid _ := HTw.out.below hu
  replace HTn : Hid _ := HTn.out.below hu
  replace HTp : Hid _ := HTp.out.below hu
  replace HTq : Hid _ := HTq.out.below hu
  replace HTs : Hid _ := HTs.out.below hu
  replace HTv : Hid _ := HTv.out.below hu
  replace HTz : Hid _ := HTz.out.below hu
  replace HTu : Hid _ := HTu.out.below hu
  replace K10 := cell_below hu K10
  replace K11 := cell_below hu K11
  replace K20 := cell_below hu K20
  replace K21 := cell_below hu K21
  replace Km0 := cell_below hu Km0
  replace Km1 := cell_below hu Km1
  replace Kw0 := cell_below hu Kw0
  replace Kw1 := cell_below hu Kw1
  replace Kp0 := cell_below hu Kp0
  replace Kp1 := cell_below hu Kp1
  replace Ks0 := cell_below hu Ks0
  replace Ks1 := cell_below hu Ks1
  replace Kv0 := cell_below hu Kv0
  replace Kv1 := cell_below hu Kv1
  replace Ku0 := cell_below hu Ku0
  replace Ku1 := cell_below hu Ku1
  clear hu
  have HTr : Hid _ := hT.below (bl_alloc (Below.refl w12.heap.size w12) (.cells #[.slice a12' m c12', .slice b12' n d12'] 25))
  have Kr0 : (w12.alloc (.cells #[.slice a12' m c12', .slice b12' n d12'] 25)).cell? ⟨w12.heap.size, 0, none⟩ = some (.slice a12' m c12') := by simp
  have Kr1 : (w12.alloc (.cells #[.slice a12' m c12', .slice b12' n d12'] 25)).cell? ⟨w12.heap.size, 1, none⟩ = some (.slice b12' n d12') := by simp
  clear hb hT
  go_wp2_with fail
  refine (zeq c3' d3' c4' d4' HTm.out HTw.out (lturn qs rs)).mono ?_
  rintro e w13 ⟨rfl, hb⟩
  have hu := hb
  replace HB : Hid _ := bl_trans HB.out hu
  replace HTa : Hid _ := HTa.out.below hu
  replace HTb : Hid _ := HTb.out.below hu
  replace HTm : Hid _ := HTm.out.below hu
  replace HTw : Hid _ := HTw.out.below hu
  replace HTn : Hid _ := HTn.out.below hu
  replace HTp : Hid _ := HTp.out.below hu
  replace HTq : Hid _ := HTq.out.below hu
  replace HTs : Hid _ := HTs.out.below hu
  replace HTv : Hid _ := HTv.out.below hu
  replace HTz : Hid _ := HTz.out.below hu
  replace HTu : Hid _ := HTu.out.below hu
  replace HTr : Hid _ := HTr.out.below hu
  replace K10 := cell_below hu K10
  replace K11 := cell_below hu K11
  replace K20 := cell_below hu K20
  replace K21 := cell_below hu K21
  replace Km0 := cell_below hu Km0
  replace Km1 := cell_below hu Km1
  replace Kw0 := cell_below hu Kw0
  replace Kw1 := cell_below hu Kw1
  replace Kp0 := cell_below hu Kp0
  replace Kp1 := cell_below hu Kp1
  replace Ks0 := cell_below hu Ks0
  replace Ks1 := cell_below hu Ks1
  replace Kv0 := cell_below hu Kv0
  replace Kv1 := cell_below hu Kv1
  replace Ku0 := cell_below hu Ku0
  replace Ku1 := cell_below hu Ku1
  replace Kr0 := cell_below hu Kr0
  replace Kr1 := cell_below hu Kr1
  clear hu
  clear hb
  go_wp2_with fail
  refine (zeq c8' d8' c9' d9' HTs.out HTv.out (lneg qs)).mono ?_
  rintro e w14 ⟨rfl, hb⟩
  have hu := hb
  replace HB : Hid _ := bl_trans HB.out hu
  replace HTa : Hid _ := HTa.out.below hu
  replace HTb : Hid _ := HTb.out.below hu
  replace HTm : Hid _ := HTm.out.below hu
  replace HTw : Hid _ := HTw.out.below hu
  replace HTn : Hid _ := HTn.out.below hu
  replace HTp : Hid _ := HTp.out.below hu
  replace HTq : Hid _ := HTq.out.below hu
  replace HTs : Hid _ := HTs.out.below hu
  replace HTv : Hid _ := HTv.out.below hu
  replace HTz : Hid _ := HTz.out.below hu
  replace HTu : Hid _ := HTu.out.below hu
  replace HTr : Hid _ := HTr.out.below hu
  replace K10 := cell_below hu K10
  replace K11 := cell_below hu K11
  replace K20 := cell_below hu K20
  replace K21 := cell_below hu K21
  replace Km0 := cell_below hu Km0
  replace Km1 := cell_below hu Km1
  replace Kw0 := cell_below hu Kw0
  replace Kw1 := cell_below hu Kw1
  replace Kp0 := cell_below hu Kp0
  replace Kp1 := cell_below hu Kp1
  replace Ks0 := cell_below hu Ks0
  replace Ks1 := cell_below hu Ks1
  replace Kv0 := cell_below hu Kv0
  replace Kv1 := cell_below hu Kv1
  replace Ku0 := cell_below hu Ku0
  replace Ku1 := cell_below hu Ku1
  replace Kr0 := cell_below hu Kr0
  replace Kr1 := cell_below hu Kr1
  clear hu
  clear hb
  go_wp2_with fail
  refine (zeq c11' d11' c6' d6' HTu.out HTp.out (lzero qs n HL.out.1)).mono ?_
  rintro e w15 ⟨rfl, hb⟩
  have hu := hb
  replace HB : Hid _ := bl_trans HB.out hu
  replace HTa : Hid _ := HTa.out.below hu
  replace HTb : Hid _ := HTb.out.below hu
  replace HTm : Hid _ := HTm.out.below hu
  replace HTw : Hid _ := HTw.out.below hu
  replace HTn : Hid _ := HTn.out.below hu
  replace HTp : Hid _ := HTp.out.below hu
  replace HTq : Hid _ := HTq.out.below hu
  replace HTs : Hid _ := HTs.out.below hu
  replace HTv : Hid _ := HTv.out.below hu
  replace HTz : Hid _ := HTz.out.below hu
  replace HTu : Hid _ := HTu.out.below hu
  replace HTr : Hid _ := HTr.out.below hu
  replace K10 := cell_below hu K10
  replace K11 := cell_below hu K11
  replace K20 := cell_below hu K20
  replace K21 := cell_below hu K21
  replace Km0 := cell_below hu Km0
  replace Km1 := cell_below hu Km1
  replace Kw0 := cell_below hu Kw0
  replace Kw1 := cell_below hu Kw1
  replace Kp0 := cell_below hu Kp0
  replace Kp1 := cell_below hu Kp1
  replace Ks0 := cell_below hu Ks0
  replace Ks1 := cell_below hu Ks1
  replace Kv0 := cell_below hu Kv0
  replace Kv1 := cell_below hu Kv1
  replace Ku0 := cell_below hu Ku0
  replace Ku1 := cell_below hu Ku1
  replace Kr0 := cell_below hu Kr0
  replace Kr1 := cell_below hu Kr1
  clear hu
  clear hb
  go_wp2_with fail
  refine (zeq c12' d12' c6' d6' HTr.out HTp.out (ltwice qs)).mono ?_
  rintro e w16 ⟨rfl, hb⟩
  have hu := hb
  replace HB : Hid _ := bl_trans HB.out hu
  replace HTa : Hid _ := HTa.out.below hu
  replace HTb : Hid _ := HTb.out.below hu
  replace HTm : Hid _ := HTm.out.below hu
  replace HTw : Hid _ := HTw.out.below hu
  replace HTn : Hid _ := HTn.out.below hu
  replace HTp : Hid _ := HTp.out.below hu
  replace HTq : Hid _ := HTq.out.below hu
  replace HTs : Hid _ := HTs.out.below hu
  replace HTv : Hid _ := HTv.out.below hu
  replace HTz : Hid _ := HTz.out.below hu
  replace HTu : Hid _ := HTu.out.below hu
  replace HTr : Hid _ := HTr.out.below hu
  replace K10 := cell_below hu K10
  replace K11 := cell_below hu K11
  replace K20 := cell_below hu K20
  replace K21 := cell_below hu K21
  replace Km0 := cell_below hu Km0
  replace Km1 := cell_below hu Km1
  replace Kw0 := cell_below hu Kw0
  replace Kw1 := cell_below hu Kw1
  replace Kp0 := cell_below hu Kp0
  replace Kp1 := cell_below hu Kp1
  replace Ks0 := cell_below hu Ks0
  replace Ks1 := cell_below hu Ks1
  replace Kv0 := cell_below hu Kv0
  replace Kv1 := cell_below hu Kv1
  replace Ku0 := cell_below hu Ku0
  replace Ku1 := cell_below hu Ku1
  replace Kr0 := cell_below hu Kr0
  replace Kr1 := cell_below hu Kr1
  clear hu
  clear hb
  go_wp2_with fail
  refine (awake_any aF aZ _ (HE.out.below HB.out)).mono ?_
  rintro e w17 ⟨rfl, hb⟩
  have hu := hb
  replace HB : Hid _ := bl_trans HB.out hu
  replace HTa : Hid _ := HTa.out.below hu
  replace HTb : Hid _ := HTb.out.below hu
  replace HTm : Hid _ := HTm.out.below hu
  replace HTw : Hid _ := HTw.out.below hu
  replace HTn : Hid _ := HTn.out.below hu
  replace HTp : Hid _ := HTp.out.below hu
  replace HTq : Hid _ := HTq.out.below hu
  replace HTs : Hid _ := HTs.out.below hu
  replace HTv : Hid _ := HTv.out.below hu
  replace HTz : Hid _ := HTz.out.below hu
  replace HTu : Hid _ := HTu.out.below hu
  replace HTr : Hid _ := HTr.out.below hu
  replace K10 := cell_below hu K10
  replace K11 := cell_below hu K11
  replace K20 := cell_below hu K20
  replace K21 := cell_below hu K21
  replace Km0 := cell_below hu Km0
  replace Km1 := cell_below hu Km1
  replace Kw0 := cell_below hu Kw0
  replace Kw1 := cell_below hu Kw1
  replace Kp0 := cell_below hu Kp0
  replace Kp1 := cell_below hu Kp1
  replace Ks0 := cell_below hu Ks0
  replace Ks1 := cell_below hu Ks1
  replace Kv0 := cell_below hu Kv0
  replace Kv1 := cell_below hu Kv1
  replace Ku0 := cell_below hu Ku0
  replace Ku1 := cell_below hu Ku1
  replace Kr0 := cell_below hu Kr0
  replace Kr1 := cell_below hu Kr1
  clear hu
  clear hb
  go_wp2
  go_ret
  exact ⟨rfl, HB.out⟩
end Go.Proofs.YtjkobbpebnkimaaGreatDoor.Tn
