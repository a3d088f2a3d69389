/-
  THE WALK OF KinkSlopes. Conditions: what the arguments hold.
-/
import Derived.Test.YtjkobbpebnkimaaGreatDoorAw7
namespace Go.Proofs.YtjkobbpebnkimaaGreatDoor.Tn
set_option maxRecDepth 100000
open Go.RowKit Nm
set_option linter.unusedVariables false

set_option maxHeartbeats 4000000 in
theorem slopes_long1 (a1 b1 a2 b2 : Option Addr) (c1 d1 m1 n1 c2 d2 m2 n2 : Nat) (aF aZ : Addr) (w : World) (hE : Er w aF aZ)
    (hS1 : ∀ v, Below w.heap.size w v → Calls Tryz.prog 11 #[.agg #[.slice a1 m1 c1, .slice b1 n1 d1]] v fun e w' => e = .returned (.bool false) ∧ Below v.heap.size v w') :
    Calls Tryz.prog 5 #[.agg #[.slice a1 m1 c1, .slice b1 n1 d1], .agg #[.slice a2 m2 c2, .slice b2 n2 d2]] w fun e w' => e = .returned (.bool true) ∧ Below w.heap.size w w' := by
  have HE : Hid _ := hE
  clear hE
  have HB : Hid (Below w.heap.size w w) := Below.refl _ _
  have hu := bl_alloc (Below.refl w.heap.size w) (.cells #[.slice a1 m1 c1, .slice b1 n1 d1] 25)
  replace HB : Hid _ := bl_trans HB.out hu
  clear hu
  have K10 : (w.alloc (.cells #[.slice a1 m1 c1, .slice b1 n1 d1] 25)).cell? ⟨w.heap.size, 0, none⟩ = some (.slice a1 m1 c1) := by first | rw [World.cell?_alloc_at _ _ _ _ (by simp)]; rfl | simp
  have K11 : (w.alloc (.cells #[.slice a1 m1 c1, .slice b1 n1 d1] 25)).cell? ⟨w.heap.size, 1, none⟩ = some (.slice b1 n1 d1) := by first | rw [World.cell?_alloc_at _ _ _ _ (by simp)]; rfl | simp
  have hu := bl_alloc (Below.refl (w.alloc (.cells #[.slice a1 m1 c1, .slice b1 n1 d1] 25)).heap.size (w.alloc (.cells #[.slice a1 m1 c1, .slice b1 n1 d1] 25))) (.cells #[.slice a2 m2 c2, .slice b2 n2 d2] 25)
  replace HB : Hid _ := bl_trans HB.out hu
  replace K10 := cell_below hu K10
  replace K11 := cell_below hu K11
  clear hu
  have K20 : ((w.alloc (.cells #[.slice a1 m1 c1, .slice b1 n1 d1] 25)).alloc (.cells #[.slice a2 m2 c2, .slice b2 n2 d2] 25)).cell? ⟨w.heap.size + 1, 0, none⟩ = some (.slice a2 m2 c2) := by first | rw [World.cell?_alloc_at _ _ _ _ (by simp)]; rfl | simp
  have K21 : ((w.alloc (.cells #[.slice a1 m1 c1, .slice b1 n1 d1] 25)).alloc (.cells #[.slice a2 m2 c2, .slice b2 n2 d2] 25)).cell? ⟨w.heap.size + 1, 1, none⟩ = some (.slice b2 n2 d2) := by first | rw [World.cell?_alloc_at _ _ _ _ (by simp)]; rfl | simp
  go_enter Tryz.func5, Tryz.ntmps5
  go_wp2_with fail
  refine (hS1 _ HB.out).mono ?_
  rintro e w1 ⟨rfl, hb⟩
  have hu := hb
  replace HB : Hid _ := bl_trans HB.out hu
  replace K10 := cell_below hu K10
  replace K11 := cell_below hu K11
  replace K20 := cell_below hu K20
  replace K21 := cell_below hu K21
  clear hu
  clear hb
  go_wp2_with fail
  refine (awake_any aF aZ _ (HE.out.below HB.out)).mono ?_
  rintro e w2 ⟨rfl, hb⟩
  have hu := hb
  replace HB : Hid _ := bl_trans HB.out hu
  replace K10 := cell_below hu K10
  replace K11 := cell_below hu K11
  replace K20 := cell_below hu K20
  replace K21 := cell_below hu K21
  clear hu
  clear hb
  go_wp2
  go_ret
  exact ⟨rfl, HB.out⟩

set_option maxHeartbeats 4000000 in
theorem slopes_long2 (a1 b1 a2 b2 : Option Addr) (c1 d1 m1 n1 c2 d2 m2 n2 : Nat) (aF aZ : Addr) (w : World) (hE : Er w aF aZ)
    (hS1 : ∀ v, Below w.heap.size w v → Calls Tryz.prog 11 #[.agg #[.slice a1 m1 c1, .slice b1 n1 d1]] v fun e w' => e = .returned (.bool true) ∧ Below v.heap.size v w')
    (hS2 : ∀ v, Below w.heap.size w v → Calls Tryz.prog 11 #[.agg #[.slice a2 m2 c2, .slice b2 n2 d2]] v fun e w' => e = .returned (.bool false) ∧ Below v.heap.size v w') :
    Calls Tryz.prog 5 #[.agg #[.slice a1 m1 c1, .slice b1 n1 d1], .agg #[.slice a2 m2 c2, .slice b2 n2 d2]] w fun e w' => e = .returned (.bool true) ∧ Below w.heap.size w w' := by
  have HE : Hid _ := hE
  clear hE
  have HB : Hid (Below w.heap.size w w) := Below.refl _ _
  have hu := bl_alloc (Below.refl w.heap.size w) (.cells #[.slice a1 m1 c1, .slice b1 n1 d1] 25)
  replace HB : Hid _ := bl_trans HB.out hu
  clear hu
  have K10 : (w.alloc (.cells #[.slice a1 m1 c1, .slice b1 n1 d1] 25)).cell? ⟨w.heap.size, 0, none⟩ = some (.slice a1 m1 c1) := by first | rw [World.cell?_alloc_at _ _ _ _ (by simp)]; rfl | simp
  have K11 : (w.alloc (.cells #[.slice a1 m1 c1, .slice b1 n1 d1] 25)).cell? ⟨w.heap.size, 1, none⟩ = some (.slice b1 n1 d1) := by first | rw [World.cell?_alloc_at _ _ _ _ (by simp)]; rfl | simp
  have hu := bl_alloc (Below.refl (w.alloc (.cells #[.slice a1 m1 c1, .slice b1 n1 d1] 25)).heap.size (w.alloc (.cells #[.slice a1 m1 c1, .slice b1 n1 d1] 25))) (.cells #[.slice a2 m2 c2, .slice b2 n2 d2] 25)
  replace HB : Hid _ := bl_trans HB.out hu
  replace K10 := cell_below hu K10
  replace K11 := cell_below hu K11
  clear hu
  have K20 : ((w.alloc (.cells #[.slice a1 m1 c1, .slice b1 n1 d1] 25)).alloc (.cells #[.slice a2 m2 c2, .slice b2 n2 d2] 25)).cell? ⟨w.heap.size + 1, 0, none⟩ = some (.slice a2 m2 c2) := by first | rw [World.cell?_alloc_at _ _ _ _ (by simp)]; rfl | simp
  have K21 : ((w.alloc (.cells #[.slice a1 m1 c1, .slice b1 n1 d1] 25)).alloc (.cells #[.slice a2 m2 c2, .slice b2 n2 d2] 25)).cell? ⟨w.heap.size + 1, 1, none⟩ = some (.slice b2 n2 d2) := by first | rw [World.cell?_alloc_at _ _ _ _ (by simp)]; rfl | simp
  go_enter Tryz.func5, Tryz.ntmps5
  go_wp2_with fail
  refine (hS1 _ HB.out).mono ?_
  rintro e w1 ⟨rfl, hb⟩
  have hu := hb
  replace HB : Hid _ := bl_trans HB.out hu
  replace K10 := cell_below hu K10
  replace K11 := cell_below hu K11
  replace K20 := cell_below hu K20
  replace K21 := cell_below hu K21
  clear hu
  clear hb
  go_wp2_with fail
  refine (hS2 _ HB.out).mono ?_
  rintro e w2 ⟨rfl, hb⟩
  have hu := hb
  replace HB : Hid _ := bl_trans HB.out hu
  replace K10 := cell_below hu K10
  replace K11 := cell_below hu K11
  replace K20 := cell_below hu K20
  replace K21 := cell_below hu K21
  clear hu
  clear hb
  go_wp2_with fail
  refine (awake_any aF aZ _ (HE.out.below HB.out)).mono ?_
  rintro e w3 ⟨rfl, hb⟩
  have hu := hb
  replace HB : Hid _ := bl_trans HB.out hu
  replace K10 := cell_below hu K10
  replace K11 := cell_below hu K11
  replace K20 := cell_below hu K20
  replace K21 := cell_below hu K21
  clear hu
  clear hb
  go_wp2
  go_ret
  exact ⟨rfl, HB.out⟩

set_option maxHeartbeats 4000000 in
theorem slopes_no (a1 b1 a2 b2 : Option Addr) (c1 d1 m1 n1 c2 d2 m2 n2 : Nat) (er : Int) (aF aZ : Addr) (w : World) (hE : Er w aF aZ)
    (hS1 : ∀ v, Below w.heap.size w v → Calls Tryz.prog 11 #[.agg #[.slice a1 m1 c1, .slice b1 n1 d1]] v fun e w' => e = .returned (.bool true) ∧ Below v.heap.size v w')
    (hS2 : ∀ v, Below w.heap.size w v → Calls Tryz.prog 11 #[.agg #[.slice a2 m2 c2, .slice b2 n2 d2]] v fun e w' => e = .returned (.bool true) ∧ Below v.heap.size v w')
    (hZ : ∀ v, Below w.heap.size w v → Calls Tryz.prog 21 #[.agg #[.slice a1 m1 c1, .slice b1 n1 d1], .agg #[.slice a2 m2 c2, .slice b2 n2 d2]] v fun e w' => e = .returned (noTensor er) ∧ Below v.heap.size v w') (hne : (er != 0) = true) :
    Calls Tryz.prog 5 #[.agg #[.slice a1 m1 c1, .slice b1 n1 d1], .agg #[.slice a2 m2 c2, .slice b2 n2 d2]] w fun e w' => e = .returned (.bool true) ∧ Below w.heap.size w w' := by
  have HE : Hid _ := hE
  clear hE
  have HB : Hid (Below w.heap.size w w) := Below.refl _ _
  have hu := bl_alloc (Below.refl w.heap.size w) (.cells #[.slice a1 m1 c1, .slice b1 n1 d1] 25)
  replace HB : Hid _ := bl_trans HB.out hu
  clear hu
  have K10 : (w.alloc (.cells #[.slice a1 m1 c1, .slice b1 n1 d1] 25)).cell? ⟨w.heap.size, 0, none⟩ = some (.slice a1 m1 c1) := by first | rw [World.cell?_alloc_at _ _ _ _ (by simp)]; rfl | simp
  have K11 : (w.alloc (.cells #[.slice a1 m1 c1, .slice b1 n1 d1] 25)).cell? ⟨w.heap.size, 1, none⟩ = some (.slice b1 n1 d1) := by first | rw [World.cell?_alloc_at _ _ _ _ (by simp)]; rfl | simp
  have hu := bl_alloc (Below.refl (w.alloc (.cells #[.slice a1 m1 c1, .slice b1 n1 d1] 25)).heap.size (w.alloc (.cells #[.slice a1 m1 c1, .slice b1 n1 d1] 25))) (.cells #[.slice a2 m2 c2, .slice b2 n2 d2] 25)
  replace HB : Hid _ := bl_trans HB.out hu
  replace K10 := cell_below hu K10
  replace K11 := cell_below hu K11
  clear hu
  have K20 : ((w.alloc (.cells #[.slice a1 m1 c1, .slice b1 n1 d1] 25)).alloc (.cells #[.slice a2 m2 c2, .slice b2 n2 d2] 25)).cell? ⟨w.heap.size + 1, 0, none⟩ = some (.slice a2 m2 c2) := by first | rw [World.cell?_alloc_at _ _ _ _ (by simp)]; rfl | simp
  have K21 : ((w.alloc (.cells #[.slice a1 m1 c1, .slice b1 n1 d1] 25)).alloc (.cells #[.slice a2 m2 c2, .slice b2 n2 d2] 25)).cell? ⟨w.heap.size + 1, 1, none⟩ = some (.slice b2 n2 d2) := by first | rw [World.cell?_alloc_at _ _ _ _ (by simp)]; rfl | simp
  go_enter Tryz.func5, Tryz.ntmps5
  go_wp2_with fail
  refine (hS1 _ HB.out).mono ?_
  rintro e w1 ⟨rfl, hb⟩
  have hu := hb
  replace HB : Hid _ := bl_trans HB.out hu
  replace K10 := cell_below hu K10
  replace K11 := cell_below hu K11
  replace K20 := cell_below hu K20
  replace K21 := cell_below hu K21
  clear hu
  clear hb
  go_wp2_with fail
  refine (hS2 _ HB.out).mono ?_
  rintro e w2 ⟨rfl, hb⟩
  have hu := hb
  replace HB : Hid _ := bl_trans HB.out hu
  replace K10 := cell_below hu K10
  replace K11 := cell_below hu K11
  replace K20 := cell_below hu K20
  replace K21 := cell_below hu K21
  clear hu
  clear hb
  go_wp2_with fail
  refine (hZ _ HB.out).mono ?_
  rintro e w3 ⟨rfl, hb⟩
  have hu := bl_alloc hb (.cells #[.slice none 0 0, .slice none 0 0] 25)
  replace HB : Hid _ := bl_trans HB.out hu
  replace K10 := cell_below hu K10
  replace K11 := cell_below hu K11
  replace K20 := cell_below hu K20
  replace K21 := cell_below hu K21
  clear hu
  have Km0 : (w3.alloc (.cells #[.slice none 0 0, .slice none 0 0] 25)).cell? ⟨w3.heap.size, 0, none⟩ = some (.slice none 0 0) := by simp
  have Km1 : (w3.alloc (.cells #[.slice none 0 0, .slice none 0 0] 25)).cell? ⟨w3.heap.size, 1, none⟩ = some (.slice none 0 0) := by simp
  clear hb
  go_wp2_with fail
  refine (awake_any aF aZ _ (HE.out.below HB.out)).mono ?_
  rintro e w4 ⟨rfl, hb⟩
  have hu := hb
  replace HB : Hid _ := bl_trans HB.out hu
  replace K10 := cell_below hu K10
  replace K11 := cell_below hu K11
  replace K20 := cell_below hu K20
  replace K21 := cell_below hu K21
  replace Km0 := cell_below hu Km0
  replace Km1 := cell_below hu Km1
  clear hu
  clear hb
  go_wp2
  go_ret
  exact ⟨rfl, HB.out⟩

set_option maxHeartbeats 4000000 in
theorem slopes_good (a1 b1 a2 b2 : Option Addr) (c1 d1 c2 d2 m n : Nat) (zs : List Int) (qs rs : List Rat) (aF aZ : Addr) (w : World) (hE : Er w aF aZ)
    (hS1 : ∀ v, Below w.heap.size w v → Calls Tryz.prog 11 #[.agg #[.slice a1 m c1, .slice b1 n d1]] v fun e w' => e = .returned (.bool true) ∧ Below v.heap.size v w')
    (hS2 : ∀ v, Below w.heap.size w v → Calls Tryz.prog 11 #[.agg #[.slice a2 m c2, .slice b2 n d2]] v fun e w' => e = .returned (.bool true) ∧ Below v.heap.size v w')
    (hT1 : Tt w 0 a1 b1 zs m n qs 40) (hT2 : Tt w 0 a2 b2 zs m n rs 40) :
    Calls Tryz.prog 5 #[.agg #[.slice a1 m c1, .slice b1 n d1], .agg #[.slice a2 m c2, .slice b2 n d2]] w fun e w' => e = .returned (.bool true) ∧ Below w.heap.size w w' := by
  have HE : Hid _ := hE
  clear hE
  have HB : Hid (Below w.heap.size w w) := Below.refl _ _
  have HL : Hid (qs.length = n ∧ rs.length = n) := ⟨hT1.hn, hT2.hn⟩
  have HTa : Hid _ := hT1
  clear hT1
  have HTb : Hid _ := hT2
  clear hT2
  have hu := bl_alloc (Below.refl w.heap.size w) (.cells #[.slice a1 m c1, .slice b1 n d1] 25)
  replace HB : Hid _ := bl_trans HB.out hu
  replace HTa : Hid _ := HTa.out.below hu
  replace HTb : Hid _ := HTb.out.below hu
  clear hu
  have K10 : (w.alloc (.cells #[.slice a1 m c1, .slice b1 n d1] 25)).cell? ⟨w.heap.size, 0, none⟩ = some (.slice a1 m c1) := by first | rw [World.cell?_alloc_at _ _ _ _ (by simp)]; rfl | simp
  have K11 : (w.alloc (.cells #[.slice a1 m c1, .slice b1 n d1] 25)).cell? ⟨w.heap.size, 1, none⟩ = some (.slice b1 n d1) := by first | rw [World.cell?_alloc_at _ _ _ _ (by simp)]; rfl | simp
  have hu := bl_alloc (Below.refl (w.alloc (.cells #[.slice a1 m c1, .slice b1 n d1] 25)).heap.size (w.alloc (.cells #[.slice a1 m c1, .slice b1 n d1] 25))) (.cells #[.slice a2 m c2, .slice b2 n d2] 25)
  replace HB : Hid _ := bl_trans HB.out hu
  replace HTa : Hid _ := HTa.out.below hu
  replace HTb : Hid _ := HTb.out.below hu
  replace K10 := cell_below hu K10
  replace K11 := cell_below hu K11
  clear hu
  have K20 : ((w.alloc (.cells #[.slice a1 m c1, .slice b1 n d1] 25)).alloc (.cells #[.slice a2 m c2, .slice b2 n d2] 25)).cell? ⟨w.heap.size + 1, 0, none⟩ = some (.slice a2 m c2) := by first | rw [World.cell?_alloc_at _ _ _ _ (by simp)]; rfl | simp
  have K21 : ((w.alloc (.cells #[.slice a1 m c1, .slice b1 n d1] 25)).alloc (.cells #[.slice a2 m c2, .slice b2 n d2] 25)).cell? ⟨w.heap.size + 1, 1, none⟩ = some (.slice b2 n d2) := by first | rw [World.cell?_alloc_at _ _ _ _ (by simp)]; rfl | simp
  go_enter Tryz.func5, Tryz.ntmps5
  go_wp2_with fail
  refine (hS1 _ HB.out).mono ?_
  rintro e w1 ⟨rfl, hb⟩
  have hu := hb
  replace HB : Hid _ := bl_trans HB.out hu
  replace HTa : Hid _ := HTa.out.below hu
  replace HTb : Hid _ := HTb.out.below hu
  replace K10 := cell_below hu K10
  replace K11 := cell_below hu K11
  replace K20 := cell_below hu K20
  replace K21 := cell_below hu K21
  clear hu
  clear hb
  go_wp2_with fail
  refine (hS2 _ HB.out).mono ?_
  rintro e w2 ⟨rfl, hb⟩
  have hu := hb
  replace HB : Hid _ := bl_trans HB.out hu
  replace HTa : Hid _ := HTa.out.below hu
  replace HTb : Hid _ := HTb.out.below hu
  replace K10 := cell_below hu K10
  replace K11 := cell_below hu K11
  replace K20 := cell_below hu K20
  replace K21 := cell_below hu K21
  clear hu
  clear hb
  go_wp2_with fail
  refine (zmax c1 d1 c2 d2 (HE.out.below HB.out) HTa.out HTb.out 40 (by omega) (by omega) (by omega)).mono ?_
  rintro e w3 ⟨a3', c3', b3', d3', rfl, hT, hb⟩
  have hu := bl_alloc hb (.cells #[.slice a3' m c3', .slice b3' n d3'] 25)
  replace HB : Hid _ := bl_trans HB.out hu
  replace HTa : Hid _ := HTa.out.below hu
  replace HTb : Hid _ := HTb.out.below hu
  replace K10 := cell_below hu K10
  replace K11 := cell_below hu K11
  replace K20 := cell_below hu K20
  replace K21 := cell_below hu K21
  clear hu
  have HTm : Hid _ := hT.below (bl_alloc (Below.refl w3.heap.size w3) (.cells #[.slice a3' m c3', .slice b3' n d3'] 25))
  have Km0 : (w3.alloc (.cells #[.slice a3' m c3', .slice b3' n d3'] 25)).cell? ⟨w3.heap.size, 0, none⟩ = some (.slice a3' m c3') := by simp
  have Km1 : (w3.alloc (.cells #[.slice a3' m c3', .slice b3' n d3'] 25)).cell? ⟨w3.heap.size, 1, none⟩ = some (.slice b3' n d3') := by simp
  clear hb hT
  go_wp2_with fail
  refine (zrelu c1 d1 (HE.out.below HB.out) HTa.out (by omega)).mono ?_
  rintro e w4 ⟨a4', c4', b4', d4', rfl, hT, hb⟩
  have hu := bl_alloc hb (.cells #[.slice a4' m c4', .slice b4' n d4'] 25)
  replace HB : Hid _ := bl_trans HB.out hu
  replace HTa : Hid _ := HTa.out.below hu
  replace HTb : Hid _ := HTb.out.below hu
  replace HTm : Hid _ := HTm.out.below hu
  replace K10 := cell_below hu K10
  replace K11 := cell_below hu K11
  replace K20 := cell_below hu K20
  replace K21 := cell_below hu K21
  replace Km0 := cell_below hu Km0
  replace Km1 := cell_below hu Km1
  clear hu
  have HTr : Hid _ := hT.below (bl_alloc (Below.refl w4.heap.size w4) (.cells #[.slice a4' m c4', .slice b4' n d4'] 25))
  have Kr0 : (w4.alloc (.cells #[.slice a4' m c4', .slice b4' n d4'] 25)).cell? ⟨w4.heap.size, 0, none⟩ = some (.slice a4' m c4') := by simp
  have Kr1 : (w4.alloc (.cells #[.slice a4' m c4', .slice b4' n d4'] 25)).cell? ⟨w4.heap.size, 1, none⟩ = some (.slice b4' n d4') := by simp
  clear hb hT
  go_wp2_with fail
  refine (zstep c1 d1 (HE.out.below HB.out) HTa.out (by omega)).mono ?_
  rintro e w5 ⟨a5', c5', b5', d5', rfl, hT, hb⟩
  have hu := bl_alloc hb (.cells #[.slice a5' m c5', .slice b5' n d5'] 25)
  replace HB : Hid _ := bl_trans HB.out hu
  replace HTa : Hid _ := HTa.out.below hu
  replace HTb : Hid _ := HTb.out.below hu
  replace HTm : Hid _ := HTm.out.below hu
  replace HTr : Hid _ := HTr.out.below hu
  replace K10 := cell_below hu K10
  replace K11 := cell_below hu K11
  replace K20 := cell_below hu K20
  replace K21 := cell_below hu K21
  replace Km0 := cell_below hu Km0
  replace Km1 := cell_below hu Km1
  replace Kr0 := cell_below hu Kr0
  replace Kr1 := cell_below hu Kr1
  clear hu
  have HTs : Hid _ := hT.below (bl_alloc (Below.refl w5.heap.size w5) (.cells #[.slice a5' m c5', .slice b5' n d5'] 25))
  have Ks0 : (w5.alloc (.cells #[.slice a5' m c5', .slice b5' n d5'] 25)).cell? ⟨w5.heap.size, 0, none⟩ = some (.slice a5' m c5') := by simp
  have Ks1 : (w5.alloc (.cells #[.slice a5' m c5', .slice b5' n d5'] 25)).cell? ⟨w5.heap.size, 1, none⟩ = some (.slice b5' n d5') := by simp
  clear hb hT
  go_wp2_with fail
  refine (zmul c5' d5' c1 d1 (HE.out.below HB.out) HTs.out HTa.out (by omega)).mono ?_
  rintro e w6 ⟨a6', c6', b6', d6', rfl, hT, hb⟩
  have hu := bl_alloc hb (.cells #[.slice a6' m c6', .slice b6' n d6'] 25)
  replace HB : Hid _ := bl_trans HB.out hu
  replace HTa : Hid _ := HTa.out.below hu
  replace HTb : Hid _ := HTb.out.below hu
  replace HTm : Hid _ := HTm.out.below hu
  replace HTr : Hid _ := HTr.out.below hu
  replace HTs : Hid _ := HTs.out.below hu
  replace K10 := cell_below hu K10
  replace K11 := cell_below hu K11
  replace K20 := cell_below hu K20
  replace K21 := cell_below hu K21
  replace Km0 := cell_below hu Km0
  replace Km1 := cell_below hu Km1
  replace Kr0 := cell_below hu Kr0
  replace Kr1 := cell_below hu Kr1
  replace Ks0 := cell_below hu Ks0
  replace Ks1 := cell_below hu Ks1
  clear hu
  have HTx : Hid _ := hT.below (bl_alloc (Below.refl w6.heap.size w6) (.cells #[.slice a6' m c6', .slice b6' n d6'] 25))
  have Kx0 : (w6.alloc (.cells #[.slice a6' m c6', .slice b6' n d6'] 25)).cell? ⟨w6.heap.size, 0, none⟩ = some (.slice a6' m c6') := by simp
  have Kx1 : (w6.alloc (.cells #[.slice a6' m c6', .slice b6' n d6'] 25)).cell? ⟨w6.heap.size, 1, none⟩ = some (.slice b6' n d6') := by simp
  clear hb hT
  clear Ks0 Ks1
  go_wp2_with fail
  refine (zabs c1 d1 (HE.out.below HB.out) HTa.out (by omega)).mono ?_
  rintro e w7 ⟨a7', c7', b7', d7', rfl, hT, hb⟩
  have hu := bl_alloc hb (.cells #[.slice a7' m c7', .slice b7' n d7'] 25)
  replace HB : Hid _ := bl_trans HB.out hu
  replace HTa : Hid _ := HTa.out.below hu
  replace HTb : Hid _ := HTb.out.below hu
  replace HTm : Hid _ := HTm.out.below hu
  replace HTr : Hid _ := HTr.out.below hu
  replace HTs : Hid _ := HTs.out.below hu
  replace HTx : Hid _ := HTx.out.below hu
  replace K10 := cell_below hu K10
  replace K11 := cell_below hu K11
  replace K20 := cell_below hu K20
  replace K21 := cell_below hu K21
  replace Km0 := cell_below hu Km0
  replace Km1 := cell_below hu Km1
  replace Kr0 := cell_below hu Kr0
  replace Kr1 := cell_below hu Kr1
  replace Kx0 := cell_below hu Kx0
  replace Kx1 := cell_below hu Kx1
  clear hu
  have HTp : Hid _ := hT.below (bl_alloc (Below.refl w7.heap.size w7) (.cells #[.slice a7' m c7', .slice b7' n d7'] 25))
  have Kp0 : (w7.alloc (.cells #[.slice a7' m c7', .slice b7' n d7'] 25)).cell? ⟨w7.heap.size, 0, none⟩ = some (.slice a7' m c7') := by simp
  have Kp1 : (w7.alloc (.cells #[.slice a7' m c7', .slice b7' n d7'] 25)).cell? ⟨w7.heap.size, 1, none⟩ = some (.slice b7' n d7') := by simp
  clear hb hT
  go_wp2_with fail
  refine (zsign c1 d1 (HE.out.below HB.out) HTa.out (by omega)).mono ?_
  rintro e w8 ⟨a8', c8', b8', d8', rfl, hT, hb⟩
  have hu := bl_alloc hb (.cells #[.slice a8' m c8', .slice b8' n d8'] 25)
  replace HB : Hid _ := bl_trans HB.out hu
  replace HTa : Hid _ := HTa.out.below hu
  replace HTb : Hid _ := HTb.out.below hu
  replace HTm : Hid _ := HTm.out.below hu
  replace HTr : Hid _ := HTr.out.below hu
  replace HTs : Hid _ := HTs.out.below hu
  replace HTx : Hid _ := HTx.out.below hu
  replace HTp : Hid _ := HTp.out.below hu
  replace K10 := cell_below hu K10
  replace K11 := cell_below hu K11
  replace K20 := cell_below hu K20
  replace K21 := cell_below hu K21
  replace Km0 := cell_below hu Km0
  replace Km1 := cell_below hu Km1
  replace Kr0 := cell_below hu Kr0
  replace Kr1 := cell_below hu Kr1
  replace Kx0 := cell_below hu Kx0
  replace Kx1 := cell_below hu Kx1
  replace Kp0 := cell_below hu Kp0
  replace Kp1 := cell_below hu Kp1
  clear hu
  have HTq : Hid _ := hT.below (bl_alloc (Below.refl w8.heap.size w8) (.cells #[.slice a8' m c8', .slice b8' n d8'] 25))
  have Kq0 : (w8.alloc (.cells #[.slice a8' m c8', .slice b8' n d8'] 25)).cell? ⟨w8.heap.size, 0, none⟩ = some (.slice a8' m c8') := by simp
  have Kq1 : (w8.alloc (.cells #[.slice a8' m c8', .slice b8' n d8'] 25)).cell? ⟨w8.heap.size, 1, none⟩ = some (.slice b8' n d8') := by simp
  clear hb hT
  go_wp2_with fail
  refine (zmul c8' d8' c1 d1 (HE.out.below HB.out) HTq.out HTa.out (by omega)).mono ?_
  rintro e w9 ⟨a9', c9', b9', d9', rfl, hT, hb⟩
  have hu := bl_alloc hb (.cells #[.slice a9' m c9', .slice b9' n d9'] 25)
  replace HB : Hid _ := bl_trans HB.out hu
  replace HTa : Hid _ := HTa.out.below hu
  replace HTb : Hid _ := HTb.out.below hu
  replace HTm : Hid _ := HTm.out.below hu
  replace HTr : Hid _ := HTr.out.below hu
  replace HTs : Hid _ := HTs.out.below hu
  replace HTx : Hid _ := HTx.out.below hu
  replace HTp : Hid _ := HTp.out.below hu
  replace HTq : Hid _ := HTq.out.below hu
  replace K10 := cell_below hu K10
  replace K11 := cell_below hu K11
  replace K20 := cell_below hu K20
  replace K21 := cell_below hu K21
  replace Km0 := cell_below hu Km0
  replace Km1 := cell_below hu Km1
  replace Kr0 := cell_below hu Kr0
  replace Kr1 := cell_below hu Kr1
  replace Kx0 := cell_below hu Kx0
  replace Kx1 := cell_below hu Kx1
  replace Kp0 := cell_below hu Kp0
  replace Kp1 := cell_below hu Kp1
  replace Kq0 := cell_below hu Kq0
  replace Kq1 := cell_below hu Kq1
  clear hu
  have HTy : Hid _ := hT.below (bl_alloc (Below.refl w9.heap.size w9) (.cells #[.slice a9' m c9', .slice b9' n d9'] 25))
  have Ky0 : (w9.alloc (.cells #[.slice a9' m c9', .slice b9' n d9'] 25)).cell? ⟨w9.heap.size, 0, none⟩ = some (.slice a9' m c9') := by simp
  have Ky1 : (w9.alloc (.cells #[.slice a9' m c9', .slice b9' n d9'] 25)).cell? ⟨w9.heap.size, 1, none⟩ = some (.slice b9' n d9') := by simp
  clear hb hT
  clear Kq0 Kq1
  go_wp2_with fail
  refine (zabove c1 d1 c2 d2 (HE.out.below HB.out) HTa.out HTb.out 40 (by omega) (by omega) (by omega)).mono ?_
  rintro e w10 ⟨a10', c10', b10', d10', rfl, hT, hb⟩
  have hu := bl_alloc hb (.cells #[.slice a10' m c10', .slice b10' n d10'] 25)
  replace HB : Hid _ := bl_trans HB.out hu
  replace HTa : Hid _ := HTa.out.below hu
  replace HTb : Hid _ := HTb.out.below hu
  replace HTm : Hid _ := HTm.out.below hu
  replace HTr : Hid _ := HTr.out.below hu
  replace HTs : Hid _ := HTs.out.below hu
  replace HTx : Hid _ := HTx.out.below hu
  replace HTp : Hid _ := HTp.out.below hu
  replace HTq : Hid _ := HTq.out.below hu
  replace HTy : Hid _ := HTy.out.below hu
  replace K10 := cell_below hu K10
  replace K11 := cell_below hu K11
  replace K20 := cell_below hu K20
  replace K21 := cell_below hu K21
  replace Km0 := cell_below hu Km0
  replace Km1 := cell_below hu Km1
  replace Kr0 := cell_below hu Kr0
  replace Kr1 := cell_below hu Kr1
  replace Kx0 := cell_below hu Kx0
  replace Kx1 := cell_below hu Kx1
  replace Kp0 := cell_below hu Kp0
  replace Kp1 := cell_below hu Kp1
  replace Ky0 := cell_below hu Ky0
  replace Ky1 := cell_below hu Ky1
  clear hu
  have HTv : Hid _ := hT.below (bl_alloc (Below.refl w10.heap.size w10) (.cells #[.slice a10' m c10', .slice b10' n d10'] 25))
  have Kv0 : (w10.alloc (.cells #[.slice a10' m c10', .slice b10' n d10'] 25)).cell? ⟨w10.heap.size, 0, none⟩ = some (.slice a10' m c10') := by simp
  have Kv1 : (w10.alloc (.cells #[.slice a10' m c10', .slice b10' n d10'] 25)).cell? ⟨w10.heap.size, 1, none⟩ = some (.slice b10' n d10') := by simp
  clear hb hT
  have hk := zfill c1 (HE.out.below HB.out) HTa.out.tm.s HTa.out.tr.r HTa.out.hm (HTa.out.tr.l.symm.trans HTa.out.hn) 1 (bd1 (Nat.le_refl 1)) (by omega)
  rw [R17] at hk
  go_wp2_with fail
  refine (hk).mono ?_
  rintro e w11 ⟨a11', c11', b11', d11', rfl, hT, hb⟩
  have hu := bl_alloc hb (.cells #[.slice a11' m c11', .slice b11' n d11'] 25)
  replace HB : Hid _ := bl_trans HB.out hu
  replace HTa : Hid _ := HTa.out.below hu
  replace HTb : Hid _ := HTb.out.below hu
  replace HTm : Hid _ := HTm.out.below hu
  replace HTr : Hid _ := HTr.out.below hu
  replace HTs : Hid _ := HTs.out.below hu
  replace HTx : Hid _ := HTx.out.below hu
  replace HTp : Hid _ := HTp.out.below hu
  replace HTq : Hid _ := HTq.out.below hu
  replace HTy : Hid _ := HTy.out.below hu
  replace HTv : Hid _ := HTv.out.below hu
  replace K10 := cell_below hu K10
  replace K11 := cell_below hu K11
  replace K20 := cell_below hu K20
  replace K21 := cell_below hu K21
  replace Km0 := cell_below hu Km0
  replace Km1 := cell_below hu Km1
  replace Kr0 := cell_below hu Kr0
  replace Kr1 := cell_below hu Kr1
  replace Kx0 := cell_below hu Kx0
  replace Kx1 := cell_below hu Kx1
  replace Kp0 := cell_below hu Kp0
  replace Kp1 := cell_below hu Kp1
  replace Ky0 := cell_below hu Ky0
  replace Ky1 := cell_below hu Ky1
  replace Kv0 := cell_below hu Kv0
  replace Kv1 := cell_below hu Kv1
  clear hu
  have HTo : Hid _ := hT.below (bl_alloc (Below.refl w11.heap.size w11) (.cells #[.slice a11' m c11', .slice b11' n d11'] 25))
  have Ko0 : (w11.alloc (.cells #[.slice a11' m c11', .slice b11' n d11'] 25)).cell? ⟨w11.heap.size, 0, none⟩ = some (.slice a11' m c11') := by simp
  have Ko1 : (w11.alloc (.cells #[.slice a11' m c11', .slice b11' n d11'] 25)).cell? ⟨w11.heap.size, 1, none⟩ = some (.slice b11' n d11') := by simp
  clear hb hT
  clear hk
  go_wp2_with fail
  refine (zsub c11' d11' c10' d10' (HE.out.below HB.out) HTo.out HTv.out (by omega)).mono ?_
  rintro e w12 ⟨a12', c12', b12', d12', rfl, hT, hb⟩
  have hu := bl_alloc hb (.cells #[.slice a12' m c12', .slice b12' n d12'] 25)
  replace HB : Hid _ := bl_trans HB.out hu
  replace HTa : Hid _ := HTa.out.below hu
  replace HTb : Hid _ := HTb.out.below hu
  replace HTm : Hid _ := HTm.out.below hu
  replace HTr : Hid _ := HTr.out.below hu
  replace HTs : Hid _ := HTs.out.below hu
  replace HTx : Hid _ := HTx.out.below hu
  replace HTp : Hid _ := HTp.out.below hu
  replace HTq : Hid _ := HTq.out.below hu
  replace HTy : Hid _ := HTy.out.below hu
  replace HTv : Hid _ := HTv.out.below hu
  replace HTo : Hid _ := HTo.out.below hu
  replace K10 := cell_below hu K10
  replace K11 := cell_below hu K11
  replace K20 := cell_below hu K20
  replace K21 := cell_below hu K21
  replace Km0 := cell_below hu Km0
  replace Km1 := cell_below hu Km1
  replace Kr0 := cell_below hu Kr0
  replace Kr1 := cell_below hu Kr1
  replace Kx0 := cell_below hu Kx0
  replace Kx1 := cell_below hu Kx1
  replace Kp0 := cell_below hu Kp0
  replace Kp1 := cell_below hu Kp1
  replace Ky0 := cell_below hu Ky0
  replace Ky1 := cell_below hu Ky1
  replace Kv0 := cell_below hu Kv0
  replace Kv1 := cell_below hu Kv1
  replace Ko0 := cell_below hu Ko0
  replace Ko1 := cell_below hu Ko1
  clear hu
  have HTw : Hid _ := hT.below (bl_alloc (Below.refl w12.heap.size w12) (.cells #[.slice a12' m c12', .slice b12' n d12'] 25))
  have Kw0 : (w12.alloc (.cells #[.slice a12' m c12', .slice b12' n d12'] 25)).cell? ⟨w12.heap.size, 0, none⟩ = some (.slice a12' m c12') := by simp
  have Kw1 : (w12.alloc (.cells #[.slice a12' m c12', .slice b12' n d12'] 25)).cell? ⟨w12.heap.size, 1, none⟩ = some (.slice b12' n d12') := by simp
  clear hb hT
  clear Ko0 Ko1
  go_wp2_with fail
  refine (zmul c10' d10' c1 d1 (HE.out.below HB.out) HTv.out HTa.out (by omega)).mono ?_
  rintro e w13 ⟨a13', c13', b13', d13', rfl, hT, hb⟩
  have hu := bl_alloc hb (.cells #[.slice a13' m c13', .slice b13' n d13'] 25)
  replace HB : Hid _ := bl_trans HB.out hu
  replace HTa : Hid _ := HTa.out.below hu
  replace HTb : Hid _ := HTb.out.below hu
  replace HTm : Hid _ := HTm.out.below hu
  replace HTr : Hid _ := HTr.out.below hu
  replace HTs : Hid _ := HTs.out.below hu
  replace HTx : Hid _ := HTx.out.below hu
  replace HTp : Hid _ := HTp.out.below hu
  replace HTq : Hid _ := HTq.out.below hu
  replace HTy : Hid _ := HTy.out.below hu
  replace HTv : Hid _ := HTv.out.below hu
  replace HTo : Hid _ := HTo.out.below hu
  replace HTw : Hid _ := HTw.out.below hu
  replace K10 := cell_below hu K10
  replace K11 := cell_below hu K11
  replace K20 := cell_below hu K20
  replace K21 := cell_below hu K21
  replace Km0 := cell_below hu Km0
  replace Km1 := cell_below hu Km1
  replace Kr0 := cell_below hu Kr0
  replace Kr1 := cell_below hu Kr1
  replace Kx0 := cell_below hu Kx0
  replace Kx1 := cell_below hu Kx1
  replace Kp0 := cell_below hu Kp0
  replace Kp1 := cell_below hu Kp1
  replace Ky0 := cell_below hu Ky0
  replace Ky1 := cell_below hu Ky1
  replace Kv0 := cell_below hu Kv0
  replace Kv1 := cell_below hu Kv1
  replace Kw0 := cell_below hu Kw0
  replace Kw1 := cell_below hu Kw1
  clear hu
  have HTc : Hid _ := hT.below (bl_alloc (Below.refl w13.heap.size w13) (.cells #[.slice a13' m c13', .slice b13' n d13'] 25))
  have Kc0 : (w13.alloc (.cells #[.slice a13' m c13', .slice b13' n d13'] 25)).cell? ⟨w13.heap.size, 0, none⟩ = some (.slice a13' m c13') := by simp
  have Kc1 : (w13.alloc (.cells #[.slice a13' m c13', .slice b13' n d13'] 25)).cell? ⟨w13.heap.size, 1, none⟩ = some (.slice b13' n d13') := by simp
  clear hb hT
  clear Kv0 Kv1
  go_wp2_with fail
  refine (zmul c12' d12' c2 d2 (HE.out.below HB.out) HTw.out HTb.out (by omega)).mono ?_
  rintro e w14 ⟨a14', c14', b14', d14', rfl, hT, hb⟩
  have hu := bl_alloc hb (.cells #[.slice a14' m c14', .slice b14' n d14'] 25)
  replace HB : Hid _ := bl_trans HB.out hu
  replace HTa : Hid _ := HTa.out.below hu
  replace HTb : Hid _ := HTb.out.below hu
  replace HTm : Hid _ := HTm.out.below hu
  replace HTr : Hid _ := HTr.out.below hu
  replace HTs : Hid _ := HTs.out.below hu
  replace HTx : Hid _ := HTx.out.below hu
  replace HTp : Hid _ := HTp.out.below hu
  replace HTq : Hid _ := HTq.out.below hu
  replace HTy : Hid _ := HTy.out.below hu
  replace HTv : Hid _ := HTv.out.below hu
  replace HTo : Hid _ := HTo.out.below hu
  replace HTw : Hid _ := HTw.out.below hu
  replace HTc : Hid _ := HTc.out.below hu
  replace K10 := cell_below hu K10
  replace K11 := cell_below hu K11
  replace K20 := cell_below hu K20
  replace K21 := cell_below hu K21
  replace Km0 := cell_below hu Km0
  replace Km1 := cell_below hu Km1
  replace Kr0 := cell_below hu Kr0
  replace Kr1 := cell_below hu Kr1
  replace Kx0 := cell_below hu Kx0
  replace Kx1 := cell_below hu Kx1
  replace Kp0 := cell_below hu Kp0
  replace Kp1 := cell_below hu Kp1
  replace Ky0 := cell_below hu Ky0
  replace Ky1 := cell_below hu Ky1
  replace Kw0 := cell_below hu Kw0
  replace Kw1 := cell_below hu Kw1
  replace Kc0 := cell_below hu Kc0
  replace Kc1 := cell_below hu Kc1
  clear hu
  have HTd : Hid _ := hT.below (bl_alloc (Below.refl w14.heap.size w14) (.cells #[.slice a14' m c14', .slice b14' n d14'] 25))
  have Kd0 : (w14.alloc (.cells #[.slice a14' m c14', .slice b14' n d14'] 25)).cell? ⟨w14.heap.size, 0, none⟩ = some (.slice a14' m c14') := by simp
  have Kd1 : (w14.alloc (.cells #[.slice a14' m c14', .slice b14' n d14'] 25)).cell? ⟨w14.heap.size, 1, none⟩ = some (.slice b14' n d14') := by simp
  clear hb hT
  clear Kw0 Kw1
  go_wp2_with fail
  refine (zadd c13' d13' c14' d14' (HE.out.below HB.out) HTc.out HTd.out (by omega)).mono ?_
  rintro e w15 ⟨a15', c15', b15', d15', rfl, hT, hb⟩
  have hu := bl_alloc hb (.cells #[.slice a15' m c15', .slice b15' n d15'] 25)
  replace HB : Hid _ := bl_trans HB.out hu
  replace HTa : Hid _ := HTa.out.below hu
  replace HTb : Hid _ := HTb.out.below hu
  replace HTm : Hid _ := HTm.out.below hu
  replace HTr : Hid _ := HTr.out.below hu
  replace HTs : Hid _ := HTs.out.below hu
  replace HTx : Hid _ := HTx.out.below hu
  replace HTp : Hid _ := HTp.out.below hu
  replace HTq : Hid _ := HTq.out.below hu
  replace HTy : Hid _ := HTy.out.below hu
  replace HTv : Hid _ := HTv.out.below hu
  replace HTo : Hid _ := HTo.out.below hu
  replace HTw : Hid _ := HTw.out.below hu
  replace HTc : Hid _ := HTc.out.below hu
  replace HTd : Hid _ := HTd.out.below hu
  replace K10 := cell_below hu K10
  replace K11 := cell_below hu K11
  replace K20 := cell_below hu K20
  replace K21 := cell_below hu K21
  replace Km0 := cell_below hu Km0
  replace Km1 := cell_below hu Km1
  replace Kr0 := cell_below hu Kr0
  replace Kr1 := cell_below hu Kr1
  replace Kx0 := cell_below hu Kx0
  replace Kx1 := cell_below hu Kx1
  replace Kp0 := cell_below hu Kp0
  replace Kp1 := cell_below hu Kp1
  replace Ky0 := cell_below hu Ky0
  replace Ky1 := cell_below hu Ky1
  replace Kc0 := cell_below hu Kc0
  replace Kc1 := cell_below hu Kc1
  replace Kd0 := cell_below hu Kd0
  replace Kd1 := cell_below hu Kd1
  clear hu
  have HTz : Hid _ := hT.below (bl_alloc (Below.refl w15.heap.size w15) (.cells #[.slice a15' m c15', .slice b15' n d15'] 25))
  have Kz0 : (w15.alloc (.cells #[.slice a15' m c15', .slice b15' n d15'] 25)).cell? ⟨w15.heap.size, 0, none⟩ = some (.slice a15' m c15') := by simp
  have Kz1 : (w15.alloc (.cells #[.slice a15' m c15', .slice b15' n d15'] 25)).cell? ⟨w15.heap.size, 1, none⟩ = some (.slice b15' n d15') := by simp
  clear hb hT
  clear Kc0 Kc1
  clear Kd0 Kd1
  go_wp2_with fail
  refine (zeq c4' d4' c6' d6' HTr.out HTx.out (lrelu qs)).mono ?_
  rintro e w16 ⟨rfl, hb⟩
  have hu := hb
  replace HB : Hid _ := bl_trans HB.out hu
  replace HTa : Hid _ := HTa.out.below hu
  replace HTb : Hid _ := HTb.out.below hu
  replace HTm : Hid _ := HTm.out.below hu
  replace HTr : Hid _ := HTr.out.below hu
  replace HTs : Hid _ := HTs.out.below hu
  replace HTx : Hid _ := HTx.out.below hu
  replace HTp : Hid _ := HTp.out.below hu
  replace HTq : Hid _ := HTq.out.below hu
  replace HTy : Hid _ := HTy.out.below hu
  replace HTv : Hid _ := HTv.out.below hu
  replace HTo : Hid _ := HTo.out.below hu
  replace HTw : Hid _ := HTw.out.below hu
  replace HTc : Hid _ := HTc.out.below hu
  replace HTd : Hid _ := HTd.out.below hu
  replace HTz : Hid _ := HTz.out.below hu
  replace K10 := cell_below hu K10
  replace K11 := cell_below hu K11
  replace K20 := cell_below hu K20
  replace K21 := cell_below hu K21
  replace Km0 := cell_below hu Km0
  replace Km1 := cell_below hu Km1
  replace Kr0 := cell_below hu Kr0
  replace Kr1 := cell_below hu Kr1
  replace Kx0 := cell_below hu Kx0
  replace Kx1 := cell_below hu Kx1
  replace Kp0 := cell_below hu Kp0
  replace Kp1 := cell_below hu Kp1
  replace Ky0 := cell_below hu Ky0
  replace Ky1 := cell_below hu Ky1
  replace Kz0 := cell_below hu Kz0
  replace Kz1 := cell_below hu Kz1
  clear hu
  clear hb
  go_wp2_with fail
  refine (zeq c7' d7' c9' d9' HTp.out HTy.out (labs qs)).mono ?_
  rintro e w17 ⟨rfl, hb⟩
  have hu := hb
  replace HB : Hid _ := bl_trans HB.out hu
  replace HTa : Hid _ := HTa.out.below hu
  replace HTb : Hid _ := HTb.out.below hu
  replace HTm : Hid _ := HTm.out.below hu
  replace HTr : Hid _ := HTr.out.below hu
  replace HTs : Hid _ := HTs.out.below hu
  replace HTx : Hid _ := HTx.out.below hu
  replace HTp : Hid _ := HTp.out.below hu
  replace HTq : Hid _ := HTq.out.below hu
  replace HTy : Hid _ := HTy.out.below hu
  replace HTv : Hid _ := HTv.out.below hu
  replace HTo : Hid _ := HTo.out.below hu
  replace HTw : Hid _ := HTw.out.below hu
  replace HTc : Hid _ := HTc.out.below hu
  replace HTd : Hid _ := HTd.out.below hu
  replace HTz : Hid _ := HTz.out.below hu
  replace K10 := cell_below hu K10
  replace K11 := cell_below hu K11
  replace K20 := cell_below hu K20
  replace K21 := cell_below hu K21
  replace Km0 := cell_below hu Km0
  replace Km1 := cell_below hu Km1
  replace Kr0 := cell_below hu Kr0
  replace Kr1 := cell_below hu Kr1
  replace Kx0 := cell_below hu Kx0
  replace Kx1 := cell_below hu Kx1
  replace Kp0 := cell_below hu Kp0
  replace Kp1 := cell_below hu Kp1
  replace Ky0 := cell_below hu Ky0
  replace Ky1 := cell_below hu Ky1
  replace Kz0 := cell_below hu Kz0
  replace Kz1 := cell_below hu Kz1
  clear hu
  clear hb
  go_wp2_with fail
  refine (zeq c3' d3' c15' d15' HTm.out HTz.out (lmax qs rs n HL.out.1 HL.out.2)).mono ?_
  rintro e w18 ⟨rfl, hb⟩
  have hu := hb
  replace HB : Hid _ := bl_trans HB.out hu
  replace HTa : Hid _ := HTa.out.below hu
  replace HTb : Hid _ := HTb.out.below hu
  replace HTm : Hid _ := HTm.out.below hu
  replace HTr : Hid _ := HTr.out.below hu
  replace HTs : Hid _ := HTs.out.below hu
  replace HTx : Hid _ := HTx.out.below hu
  replace HTp : Hid _ := HTp.out.below hu
  replace HTq : Hid _ := HTq.out.below hu
  replace HTy : Hid _ := HTy.out.below hu
  replace HTv : Hid _ := HTv.out.below hu
  replace HTo : Hid _ := HTo.out.below hu
  replace HTw : Hid _ := HTw.out.below hu
  replace HTc : Hid _ := HTc.out.below hu
  replace HTd : Hid _ := HTd.out.below hu
  replace HTz : Hid _ := HTz.out.below hu
  replace K10 := cell_below hu K10
  replace K11 := cell_below hu K11
  replace K20 := cell_below hu K20
  replace K21 := cell_below hu K21
  replace Km0 := cell_below hu Km0
  replace Km1 := cell_below hu Km1
  replace Kr0 := cell_below hu Kr0
  replace Kr1 := cell_below hu Kr1
  replace Kx0 := cell_below hu Kx0
  replace Kx1 := cell_below hu Kx1
  replace Kp0 := cell_below hu Kp0
  replace Kp1 := cell_below hu Kp1
  replace Ky0 := cell_below hu Ky0
  replace Ky1 := cell_below hu Ky1
  replace Kz0 := cell_below hu Kz0
  replace Kz1 := cell_below hu Kz1
  clear hu
  clear hb
  go_wp2_with fail
  refine (awake_any aF aZ _ (HE.out.below HB.out)).mono ?_
  rintro e w19 ⟨rfl, hb⟩
  have hu := hb
  replace HB : Hid _ := bl_trans HB.out hu
  replace HTa : Hid _ := HTa.out.below hu
  replace HTb : Hid _ := HTb.out.below hu
  replace HTm : Hid _ := HTm.out.below hu
  replace HTr : Hid _ := HTr.out.below hu
  replace HTs : Hid _ := HTs.out.below hu
  replace HTx : Hid _ := HTx.out.below hu
  replace HTp : Hid _ := HTp.out.below hu
  replace HTq : Hid _ := HTq.out.below hu
  replace HTy : Hid _ := HTy.out.below hu
  replace HTv : Hid _ := HTv.out.below hu
  replace HTo : Hid _ := HTo.out.below hu
  replace HTw : Hid _ := HTw.out.below hu
  replace HTc : Hid _ := HTc.out.below hu
  replace HTd : Hid _ := HTd.out.below hu
  replace HTz : Hid _ := HTz.out.below hu
  replace K10 := cell_below hu K10
  replace K11 := cell_below hu K11
  replace K20 := cell_below hu K20
  replace K21 := cell_below hu K21
  replace Km0 := cell_below hu Km0
  replace Km1 := cell_below hu Km1
  replace Kr0 := cell_below hu Kr0
  replace Kr1 := cell_below hu Kr1
  replace Kx0 := cell_below hu Kx0
  replace Kx1 := cell_below hu Kx1
  replace Kp0 := cell_below hu Kp0
  replace Kp1 := cell_below hu Kp1
  replace Ky0 := cell_below hu Ky0
  replace Ky1 := cell_below hu Ky1
  replace Kz0 := cell_below hu Kz0
  replace Kz1 := cell_below hu Kz1
  clear hu
  clear hb
  go_wp2
  go_ret
  exact ⟨rfl, HB.out⟩
end Go.Proofs.YtjkobbpebnkimaaGreatDoor.Tn
