/-
  THE WALK OF ArrayShapes. Conditions: what the arguments hold.
-/
import Derived.Test.YtbfboippaejnmaaGreatDoorGz
import Derived.Test.YtbfboippaejnmaaGreatDoorMp
namespace Go.Proofs.YtbfboippaejnmaaGreatDoor.Tn
set_option maxRecDepth 100000
open Go.RowKit Nm
set_option linter.unusedVariables false

set_option maxHeartbeats 4000000 in
theorem shapes_long1 (a1 b1 : Option Addr) (c1 d1 m1 n1 : Nat) (a2 : Option Addr) (m2 c2 : Nat) (aF aZ : Addr) (w : World) (hE : Er w aF aZ)
    (hS1 : ∀ v, Below w.heap.size w v → Calls Tryz.prog 12 #[.agg #[.slice a1 m1 c1, .slice b1 n1 d1]] v fun e w' => e = .returned (.bool false) ∧ Below v.heap.size v w') :
    Calls Tryz.prog 4 #[.agg #[.slice a1 m1 c1, .slice b1 n1 d1], .slice a2 m2 c2] w fun e w' => e = .returned (.bool true) ∧ Below w.heap.size w w' := by
  have HE : Hid _ := hE
  clear hE
  have HB : Hid (Below w.heap.size w w) := Below.refl _ _
  have hu := bl_alloc (Below.refl w.heap.size w) (.cells #[.slice a1 m1 c1, .slice b1 n1 d1] 25)
  replace HB : Hid _ := bl_trans HB.out hu
  clear hu
  have K10 : (w.alloc (.cells #[.slice a1 m1 c1, .slice b1 n1 d1] 25)).cell? ⟨w.heap.size, 0, none⟩ = some (.slice a1 m1 c1) := by first | rw [World.cell?_alloc_at _ _ _ _ (by simp)]; rfl | simp
  have K11 : (w.alloc (.cells #[.slice a1 m1 c1, .slice b1 n1 d1] 25)).cell? ⟨w.heap.size, 1, none⟩ = some (.slice b1 n1 d1) := by first | rw [World.cell?_alloc_at _ _ _ _ (by simp)]; rfl | simp
  go_enter Tryz.func4, Tryz.ntmps4
  go_wp2_with fail
  refine (hS1 _ HB.out).mono ?_
  rintro e w1 ⟨rfl, hb⟩
  have hu := hb
  replace HB : Hid _ := bl_trans HB.out hu
  replace K10 := cell_below hu K10
  replace K11 := cell_below hu K11
  clear hu
  clear hb
  go_wp2_with fail
  refine (awake_any aF aZ _ (HE.out.below HB.out)).mono ?_
  rintro e w2 ⟨rfl, hb⟩
  have hu := hb
  replace HB : Hid _ := bl_trans HB.out hu
  replace K10 := cell_below hu K10
  replace K11 := cell_below hu K11
  clear hu
  clear hb
  go_wp2
  go_ret
  exact ⟨rfl, HB.out⟩

set_option maxHeartbeats 4000000 in
theorem shapes_long2 (a1 b1 : Option Addr) (c1 d1 m1 n1 : Nat) (a2 : Option Addr) (m2 c2 : Nat) (aF aZ : Addr) (w : World) (hE : Er w aF aZ)
    (hS1 : ∀ v, Below w.heap.size w v → Calls Tryz.prog 12 #[.agg #[.slice a1 m1 c1, .slice b1 n1 d1]] v fun e w' => e = .returned (.bool true) ∧ Below v.heap.size v w') (hl : 10 < m2) :
    Calls Tryz.prog 4 #[.agg #[.slice a1 m1 c1, .slice b1 n1 d1], .slice a2 m2 c2] w fun e w' => e = .returned (.bool true) ∧ Below w.heap.size w w' := by
  have HE : Hid _ := hE
  clear hE
  have HB : Hid (Below w.heap.size w w) := Below.refl _ _
  have hu := bl_alloc (Below.refl w.heap.size w) (.cells #[.slice a1 m1 c1, .slice b1 n1 d1] 25)
  replace HB : Hid _ := bl_trans HB.out hu
  clear hu
  have K10 : (w.alloc (.cells #[.slice a1 m1 c1, .slice b1 n1 d1] 25)).cell? ⟨w.heap.size, 0, none⟩ = some (.slice a1 m1 c1) := by first | rw [World.cell?_alloc_at _ _ _ _ (by simp)]; rfl | simp
  have K11 : (w.alloc (.cells #[.slice a1 m1 c1, .slice b1 n1 d1] 25)).cell? ⟨w.heap.size, 1, none⟩ = some (.slice b1 n1 d1) := by first | rw [World.cell?_alloc_at _ _ _ _ (by simp)]; rfl | simp
  go_enter Tryz.func4, Tryz.ntmps4
  go_wp2_with fail
  refine (hS1 _ HB.out).mono ?_
  rintro e w1 ⟨rfl, hb⟩
  have hu := hb
  replace HB : Hid _ := bl_trans HB.out hu
  replace K10 := cell_below hu K10
  replace K11 := cell_below hu K11
  clear hu
  clear hb
  go_wp2_with fail
  refine (awake_any aF aZ _ (HE.out.below HB.out)).mono ?_
  rintro e w2 ⟨rfl, hb⟩
  have hu := hb
  replace HB : Hid _ := bl_trans HB.out hu
  replace K10 := cell_below hu K10
  replace K11 := cell_below hu K11
  clear hu
  clear hb
  go_wp2
  go_ret
  exact ⟨rfl, HB.out⟩

set_option maxHeartbeats 4000000 in
theorem shapes_bad (a1 b1 : Option Addr) (c1 d1 m1 n1 : Nat) (a2 : Option Addr) (m2 c2 : Nat) (aF aZ : Addr) (w : World) (hE : Er w aF aZ)
    (hS1 : ∀ v, Below w.heap.size w v → Calls Tryz.prog 12 #[.agg #[.slice a1 m1 c1, .slice b1 n1 d1]] v fun e w' => e = .returned (.bool true) ∧ Below v.heap.size v w') (hl : ¬ 10 < m2)
    (hRe : ∀ v, Below w.heap.size w v → Calls Tryz.prog 20 #[.agg #[.slice a1 m1 c1, .slice b1 n1 d1], .slice a2 m2 c2] v fun e w' => e = .returned (noTensor 1) ∧ Below v.heap.size v w')
    (hTo : ∀ v, Below w.heap.size w v → Calls Tryz.prog 21 #[.agg #[.slice a1 m1 c1, .slice b1 n1 d1]] v fun e w' => e = .returned (noTensor 1) ∧ Below v.heap.size v w')
    (hSp : ∀ v, Below w.heap.size w v → Calls Tryz.prog 22 #[.agg #[.slice a1 m1 c1, .slice b1 n1 d1], .slice a2 m2 c2] v fun e w' => e = .returned (noTensor 1) ∧ Below v.heap.size v w')
    (hR1 : ∀ v, Below w.heap.size w v → Calls Tryz.prog 16 #[.agg #[.slice a1 m1 c1, .slice b1 n1 d1]] v fun e w' => e = .returned (.bool false) ∧ Below v.heap.size v w') :
    Calls Tryz.prog 4 #[.agg #[.slice a1 m1 c1, .slice b1 n1 d1], .slice a2 m2 c2] w fun e w' => e = .returned (.bool true) ∧ Below w.heap.size w w' := by
  have HE : Hid _ := hE
  clear hE
  have HB : Hid (Below w.heap.size w w) := Below.refl _ _
  have hu := bl_alloc (Below.refl w.heap.size w) (.cells #[.slice a1 m1 c1, .slice b1 n1 d1] 25)
  replace HB : Hid _ := bl_trans HB.out hu
  clear hu
  have K10 : (w.alloc (.cells #[.slice a1 m1 c1, .slice b1 n1 d1] 25)).cell? ⟨w.heap.size, 0, none⟩ = some (.slice a1 m1 c1) := by first | rw [World.cell?_alloc_at _ _ _ _ (by simp)]; rfl | simp
  have K11 : (w.alloc (.cells #[.slice a1 m1 c1, .slice b1 n1 d1] 25)).cell? ⟨w.heap.size, 1, none⟩ = some (.slice b1 n1 d1) := by first | rw [World.cell?_alloc_at _ _ _ _ (by simp)]; rfl | simp
  go_enter Tryz.func4, Tryz.ntmps4
  go_wp2_with fail
  refine (hS1 _ HB.out).mono ?_
  rintro e w1 ⟨rfl, hb⟩
  have hu := hb
  replace HB : Hid _ := bl_trans HB.out hu
  replace K10 := cell_below hu K10
  replace K11 := cell_below hu K11
  clear hu
  clear hb
  go_wp2_with fail
  refine (hRe _ HB.out).mono ?_
  rintro e w2 ⟨rfl, hb⟩
  have hu := bl_alloc hb (.cells #[.slice none 0 0, .slice none 0 0] 25)
  replace HB : Hid _ := bl_trans HB.out hu
  replace K10 := cell_below hu K10
  replace K11 := cell_below hu K11
  clear hu
  have Kr0 : (w2.alloc (.cells #[.slice none 0 0, .slice none 0 0] 25)).cell? ⟨w2.heap.size, 0, none⟩ = some (.slice none 0 0) := by simp
  have Kr1 : (w2.alloc (.cells #[.slice none 0 0, .slice none 0 0] 25)).cell? ⟨w2.heap.size, 1, none⟩ = some (.slice none 0 0) := by simp
  clear hb
  go_wp2_with fail
  refine (hTo _ HB.out).mono ?_
  rintro e w3 ⟨rfl, hb⟩
  have hu := bl_alloc hb (.cells #[.slice none 0 0, .slice none 0 0] 25)
  replace HB : Hid _ := bl_trans HB.out hu
  replace K10 := cell_below hu K10
  replace K11 := cell_below hu K11
  replace Kr0 := cell_below hu Kr0
  replace Kr1 := cell_below hu Kr1
  clear hu
  have Kt0 : (w3.alloc (.cells #[.slice none 0 0, .slice none 0 0] 25)).cell? ⟨w3.heap.size, 0, none⟩ = some (.slice none 0 0) := by simp
  have Kt1 : (w3.alloc (.cells #[.slice none 0 0, .slice none 0 0] 25)).cell? ⟨w3.heap.size, 1, none⟩ = some (.slice none 0 0) := by simp
  clear hb
  go_wp2_with fail
  refine (hSp _ HB.out).mono ?_
  rintro e w4 ⟨rfl, hb⟩
  have hu := bl_alloc hb (.cells #[.slice none 0 0, .slice none 0 0] 25)
  replace HB : Hid _ := bl_trans HB.out hu
  replace K10 := cell_below hu K10
  replace K11 := cell_below hu K11
  replace Kr0 := cell_below hu Kr0
  replace Kr1 := cell_below hu Kr1
  replace Kt0 := cell_below hu Kt0
  replace Kt1 := cell_below hu Kt1
  clear hu
  have Kp0 : (w4.alloc (.cells #[.slice none 0 0, .slice none 0 0] 25)).cell? ⟨w4.heap.size, 0, none⟩ = some (.slice none 0 0) := by simp
  have Kp1 : (w4.alloc (.cells #[.slice none 0 0, .slice none 0 0] 25)).cell? ⟨w4.heap.size, 1, none⟩ = some (.slice none 0 0) := by simp
  clear hb
  go_wp2_with fail
  refine (hR1 _ HB.out).mono ?_
  rintro e w5 ⟨rfl, hb⟩
  have hu := hb
  replace HB : Hid _ := bl_trans HB.out hu
  replace K10 := cell_below hu K10
  replace K11 := cell_below hu K11
  replace Kr0 := cell_below hu Kr0
  replace Kr1 := cell_below hu Kr1
  replace Kt0 := cell_below hu Kt0
  replace Kt1 := cell_below hu Kt1
  replace Kp0 := cell_below hu Kp0
  replace Kp1 := cell_below hu Kp1
  clear hu
  clear hb
  go_wp2_with fail
  refine (awake_any aF aZ _ (HE.out.below HB.out)).mono ?_
  rintro e w6 ⟨rfl, hb⟩
  have hu := hb
  replace HB : Hid _ := bl_trans HB.out hu
  replace K10 := cell_below hu K10
  replace K11 := cell_below hu K11
  replace Kr0 := cell_below hu Kr0
  replace Kr1 := cell_below hu Kr1
  replace Kt0 := cell_below hu Kt0
  replace Kt1 := cell_below hu Kt1
  replace Kp0 := cell_below hu Kp0
  replace Kp1 := cell_below hu Kp1
  clear hu
  clear hb
  go_wp2
  go_ret
  exact ⟨rfl, HB.out⟩

set_option maxHeartbeats 4000000 in
theorem shapes_none (a1 b1 : Option Addr) (c1 d1 m1 n1 : Nat) (a2 : Option Addr) (m2 c2 : Nat) (zs us : List Int) (qs : List Rat) (aF aZ : Addr) (w : World) (hE : Er w aF aZ)
    (hS1 : ∀ v, Below w.heap.size w v → Calls Tryz.prog 12 #[.agg #[.slice a1 m1 c1, .slice b1 n1 d1]] v fun e w' => e = .returned (.bool true) ∧ Below v.heap.size v w')
    (hR1 : ∀ v, Below w.heap.size w v → Calls Tryz.prog 16 #[.agg #[.slice a1 m1 c1, .slice b1 n1 d1]] v fun e w' => e = .returned (.bool true) ∧ Below v.heap.size v w')
    (hT : Tt w 0 a1 b1 zs m1 n1 qs 40) (hl : ¬ 10 < m2) (h2 : Sp.Sl w a2 us) (hm : us.length = m2)
    (hRe : ∀ v, Below w.heap.size w v → Calls Tryz.prog 20 #[.agg #[.slice a1 m1 c1, .slice b1 n1 d1], .slice a2 m2 c2] v fun e w' => e = .returned (noTensor 1) ∧ Below v.heap.size v w')
    (hSp : ∀ v, Below w.heap.size w v → Calls Tryz.prog 22 #[.agg #[.slice a1 m1 c1, .slice b1 n1 d1], .slice a2 m2 c2] v fun e w' => e = .returned (noTensor 1) ∧ Below v.heap.size v w')
    (hQ : ∀ v, Below w.heap.size w v → Calls Tryz.prog 23 #[.slice a2 m2 c2] v fun e w' => e = .returned (.bool false) ∧ Below v.heap.size v w') :
    Calls Tryz.prog 4 #[.agg #[.slice a1 m1 c1, .slice b1 n1 d1], .slice a2 m2 c2] w fun e w' => e = .returned (.bool true) ∧ Below w.heap.size w w' := by
  have HE : Hid _ := hE
  clear hE
  have HB : Hid (Below w.heap.size w w) := Below.refl _ _
  have hle := hT.le
  have HLQ : Hid (qs.length = n1) := hT.hn
  have HU : Hid (Sp.Sl w a2 us) := h2
  clear h2
  have HTa : Hid _ := hT
  clear hT
  have hu := bl_alloc (Below.refl w.heap.size w) (.cells #[.slice a1 m1 c1, .slice b1 n1 d1] 25)
  replace HB : Hid _ := bl_trans HB.out hu
  replace HTa : Hid _ := HTa.out.below hu
  clear hu
  have K10 : (w.alloc (.cells #[.slice a1 m1 c1, .slice b1 n1 d1] 25)).cell? ⟨w.heap.size, 0, none⟩ = some (.slice a1 m1 c1) := by first | rw [World.cell?_alloc_at _ _ _ _ (by simp)]; rfl | simp
  have K11 : (w.alloc (.cells #[.slice a1 m1 c1, .slice b1 n1 d1] 25)).cell? ⟨w.heap.size, 1, none⟩ = some (.slice b1 n1 d1) := by first | rw [World.cell?_alloc_at _ _ _ _ (by simp)]; rfl | simp
  go_enter Tryz.func4, Tryz.ntmps4
  go_wp2_with fail
  refine (hS1 _ HB.out).mono ?_
  rintro e w1 ⟨rfl, hb⟩
  have hu := hb
  replace HB : Hid _ := bl_trans HB.out hu
  replace HTa : Hid _ := HTa.out.below hu
  replace K10 := cell_below hu K10
  replace K11 := cell_below hu K11
  clear hu
  clear hb
  go_wp2_with fail
  refine (hRe _ HB.out).mono ?_
  rintro e w2 ⟨rfl, hb⟩
  have hu := bl_alloc hb (.cells #[.slice none 0 0, .slice none 0 0] 25)
  replace HB : Hid _ := bl_trans HB.out hu
  replace HTa : Hid _ := HTa.out.below hu
  replace K10 := cell_below hu K10
  replace K11 := cell_below hu K11
  clear hu
  have Kr0 : (w2.alloc (.cells #[.slice none 0 0, .slice none 0 0] 25)).cell? ⟨w2.heap.size, 0, none⟩ = some (.slice none 0 0) := by simp
  have Kr1 : (w2.alloc (.cells #[.slice none 0 0, .slice none 0 0] 25)).cell? ⟨w2.heap.size, 1, none⟩ = some (.slice none 0 0) := by simp
  clear hb
  go_wp2_with fail
  refine (ztotal c1 d1 (HE.out.below HB.out) HTa.out (by omega)).mono ?_
  rintro e w3 ⟨a3', c3', b3', d3', rfl, hT, hb⟩
  have hu := bl_alloc hb (.cells #[.slice a3' 0 c3', .slice b3' 1 d3'] 25)
  replace HB : Hid _ := bl_trans HB.out hu
  replace HTa : Hid _ := HTa.out.below hu
  replace K10 := cell_below hu K10
  replace K11 := cell_below hu K11
  replace Kr0 := cell_below hu Kr0
  replace Kr1 := cell_below hu Kr1
  clear hu
  have HTt : Hid _ := hT.below (bl_alloc (Below.refl w3.heap.size w3) (.cells #[.slice a3' 0 c3', .slice b3' 1 d3'] 25))
  have Kt0 : (w3.alloc (.cells #[.slice a3' 0 c3', .slice b3' 1 d3'] 25)).cell? ⟨w3.heap.size, 0, none⟩ = some (.slice a3' 0 c3') := by simp
  have Kt1 : (w3.alloc (.cells #[.slice a3' 0 c3', .slice b3' 1 d3'] 25)).cell? ⟨w3.heap.size, 1, none⟩ = some (.slice b3' 1 d3') := by simp
  clear hb hT
  go_wp2_with fail
  refine (hSp _ HB.out).mono ?_
  rintro e w4 ⟨rfl, hb⟩
  have hu := bl_alloc hb (.cells #[.slice none 0 0, .slice none 0 0] 25)
  replace HB : Hid _ := bl_trans HB.out hu
  replace HTa : Hid _ := HTa.out.below hu
  replace HTt : Hid _ := HTt.out.below hu
  replace K10 := cell_below hu K10
  replace K11 := cell_below hu K11
  replace Kr0 := cell_below hu Kr0
  replace Kr1 := cell_below hu Kr1
  replace Kt0 := cell_below hu Kt0
  replace Kt1 := cell_below hu Kt1
  clear hu
  have Kp0 : (w4.alloc (.cells #[.slice none 0 0, .slice none 0 0] 25)).cell? ⟨w4.heap.size, 0, none⟩ = some (.slice none 0 0) := by simp
  have Kp1 : (w4.alloc (.cells #[.slice none 0 0, .slice none 0 0] 25)).cell? ⟨w4.heap.size, 1, none⟩ = some (.slice none 0 0) := by simp
  clear hb
  go_wp2_with fail
  refine (hR1 _ HB.out).mono ?_
  rintro e w5 ⟨rfl, hb⟩
  have hu := hb
  replace HB : Hid _ := bl_trans HB.out hu
  replace HTa : Hid _ := HTa.out.below hu
  replace HTt : Hid _ := HTt.out.below hu
  replace K10 := cell_below hu K10
  replace K11 := cell_below hu K11
  replace Kr0 := cell_below hu Kr0
  replace Kr1 := cell_below hu Kr1
  replace Kt0 := cell_below hu Kt0
  replace Kt1 := cell_below hu Kt1
  replace Kp0 := cell_below hu Kp0
  replace Kp1 := cell_below hu Kp1
  clear hu
  clear hb
  obtain ⟨i0, hi, hz0, hz1, hz2⟩ := info_parts inf9
  have u1 := bl_alloc (bl_alloc (Below.refl w5.heap.size w5) (.cells #[.int .i64 (n1 : Int), .int .i64 1] 3)) (.cells #[.slice (some ⟨w5.heap.size, 0, none⟩) 2 2, .slice none 0 0] 25)
  have l11 := cell_below u1 K11
  have HU5 : Hid (Below w5.heap.size w5 ((w5.alloc (.cells #[.int .i64 (n1 : Int), .int .i64 1] 3)).alloc (.cells #[.slice (some ⟨w5.heap.size, 0, none⟩) 2 2, .slice none 0 0] 25))) := u1
  clear u1
  go_wp2_with fail
  have s0 : ((w5.alloc (.cells #[.int .i64 (n1 : Int), .int .i64 1] 3)).alloc (.cells #[.slice (some ⟨w5.heap.size, 0, none⟩) 2 2, .slice none 0 0] 25)).cell? ⟨w5.heap.size, 0, none⟩ = some (.int .i64 (n1 : Int)) := cell_below (bl_alloc (Below.refl _ _) _) (by simp)
  have s1 : ((w5.alloc (.cells #[.int .i64 (n1 : Int), .int .i64 1] 3)).alloc (.cells #[.slice (some ⟨w5.heap.size, 0, none⟩) 2 2, .slice none 0 0] 25)).cell? ⟨w5.heap.size, 1, none⟩ = some (.int .i64 1) := cell_below (bl_alloc (Below.refl _ _) _) (by simp)
  have r0 : ((w5.alloc (.cells #[.int .i64 (n1 : Int), .int .i64 1] 3)).alloc (.cells #[.slice (some ⟨w5.heap.size, 0, none⟩) 2 2, .slice none 0 0] 25)).cell? ⟨w5.heap.size + 1, 0, none⟩ = some (.slice (some ⟨w5.heap.size, 0, none⟩) 2 2) := by simp
  have r1 : ((w5.alloc (.cells #[.int .i64 (n1 : Int), .int .i64 1] 3)).alloc (.cells #[.slice (some ⟨w5.heap.size, 0, none⟩) 2 2, .slice none 0 0] 25)).cell? ⟨w5.heap.size + 1, 1, none⟩ = some (.slice none 0 0) := by simp
  have fr : ((w5.alloc (.cells #[.int .i64 (n1 : Int), .int .i64 1] 3)).alloc (.cells #[.slice (some ⟨w5.heap.size, 0, none⟩) 2 2, .slice none 0 0] 25)).frozen? ⟨w5.heap.size + 1, 1, none⟩ = false := by simp
  have HSZ : Hid (((w5.alloc (.cells #[.int .i64 (n1 : Int), .int .i64 1] 3)).alloc (.cells #[.slice (some ⟨w5.heap.size, 0, none⟩) 2 2, .slice none 0 0] 25)).heap.size = w5.heap.size + 1 + 1) := by simp [Hid]
  generalize ((w5.alloc (.cells #[.int .i64 (n1 : Int), .int .i64 1] 3)).alloc (.cells #[.slice (some ⟨w5.heap.size, 0, none⟩) 2 2, .slice none 0 0] 25)) = u at *
  go_loopw [84] (fun i wr => ∃ (k : Nat) (v : Value), k ≤ n1 ∧ i = .int .i64 k ∧ Gz u wr (w5.heap.size + 1) (.slice (some ⟨w5.heap.size, 0, none⟩) 2 2) v k (txts (List.replicate k ⟨#[49]⟩))) (fun i _ => n1 - (intOf i).toNat)
  case atStart => exact ⟨0, .slice none 0 0, by omega, rfl, Gz.start r0 r1 fr⟩
  case round =>
  obtain ⟨k, v, hk, rfl, hG⟩ := hrel
  by_cases h : k < n1
  · have hown : (wr.alloc (.cells #[.string ⟨#[49]⟩] 9)).ownsRow u.heap.size 9 1 v k (txts (List.replicate k ⟨#[49]⟩)) := World.ownsRow.alloc hG.ow _
    have z1 := hG.c1
    have hnw : Row (wr.alloc (.cells #[.string ⟨#[49]⟩] 9)) (some ⟨wr.heap.size, 0, none⟩) [.string ⟨#[49]⟩] := Row.one (by simp)
    have HG : Hid _ := hG
    have HOW : Hid _ := hown
    have HNW : Hid _ := hnw
    have HZ9 : Hid (u.heap.size ≤ (wr.alloc (.cells #[.string ⟨#[49]⟩] 9)).heap.size) := by have := hG.sz; simp [Hid]; omega
    clear hG hown hnw
    go_wp2_with (first | (at_builtin; refine wpList_append_row _ _ 23 rfl u.heap.size 9 i0 (.string ByteArray.empty) 16 Tryz.underlying23 hi hz0 hz1 hz2 rfl _ k (txts (List.replicate k ⟨#[49]⟩)) rfl HOW.out (some ⟨wr.heap.size, 0, none⟩) 1 1 [.string ⟨#[49]⟩] rfl rfl HNW.out (by simp [Value.oneCell']) (fun h => by cases h) (by unfold maxLen; omega) (by omega) HZ9.out (by first | rfl | go_simp) ?_))
    intro v' w4 hown4 hgrow4
    have hbl : w4.heap[w5.heap.size + 1]? = wr.heap[w5.heap.size + 1]? := HG.out.block (bl_alloc (Below.refl wr.heap.size wr) _) hgrow4 HG.out.hi
    have hc4 : w4.cell? ⟨w5.heap.size + 1, 1, none⟩ = some v := by rw [World.cell?_of_block (w := wr) hbl]; exact HG.out.c1
    have hf4 : w4.frozen? ⟨w5.heap.size + 1, 1, none⟩ = false := by rw [World.frozen?_of_block (w := wr) hbl]; exact HG.out.f1
    obtain ⟨a4, c4, ev, _⟩ := Row.of_own hown4
    subst ev
    have HF : Hid _ := HG.out.next (bl_alloc (Below.refl wr.heap.size wr) _) hgrow4 hown4
    clear hown4 hgrow4 hbl HG HOW HNW z1
    go_wp2
    go_roundw
    case rel => exact ⟨k + 1, .slice a4 (k + 1) c4, by omega, by go_num, by rw [txts_reps]; exact HF.out⟩
    case measure => simp [intOf]; omega
  obtain rfl : n1 = k := by omega
  clear h hk

  obtain ⟨bu, du, ev, hrow, hfar⟩ := hG.far
  subst ev
  replace s0 := hG.cell s0 (by omega)
  replace s1 := hG.cell s1 (by omega)
  have hbz : Below w5.heap.size w5 wr := hG.below HU5.out (by omega)
  clear r0 r1 fr l11 HU5 HSZ
  have hu := hbz
  replace HB : Hid _ := bl_trans HB.out hu
  replace HTa : Hid _ := HTa.out.below hu
  replace HTt : Hid _ := HTt.out.below hu
  replace K10 := cell_below hu K10
  replace K11 := cell_below hu K11
  replace Kr0 := cell_below hu Kr0
  replace Kr1 := cell_below hu Kr1
  replace Kt0 := cell_below hu Kt0
  replace Kt1 := cell_below hu Kt1
  replace Kp0 := cell_below hu Kp0
  replace Kp1 := cell_below hu Kp1
  clear hu
  have Ku0 := hG.c0
  have Ku1 := hG.c1
  have rc := (rgt_two n1 1).2 (by omega)
  have HTu : Hid (Tt wr 0 (some ⟨w5.heap.size, 0, none⟩) bu [(n1 : Int), ((1 : Nat) : Int)] 2 n1 (List.replicate n1 1) 40) := tt_of ⟨sl_of_two s0 s1, by rw [List.map_replicate, R1]; exact hrow, fun _ _ _ _ => Nat.zero_le _, fun _ _ _ _ => Nat.zero_le _⟩ rc (by rw [sz_two rc]; simp) (fun t ht => by rw [(List.mem_replicate.1 ht).2]; exact bd_one) rfl (by simp)
  clear hbz hG hrow hfar rc s0
  have m11 := K11
  have HS1 : Hid _ := s1
  clear s1
  have hu := bl_alloc (Below.refl wr.heap.size wr) (.cells #[.int .i64 1, .int .i64 (n1 : Int)] 3)
  replace HB : Hid _ := bl_trans HB.out hu
  replace HTa : Hid _ := HTa.out.below hu
  replace HTt : Hid _ := HTt.out.below hu
  replace HTu : Hid _ := HTu.out.below hu
  replace K10 := cell_below hu K10
  replace K11 := cell_below hu K11
  replace Kr0 := cell_below hu Kr0
  replace Kr1 := cell_below hu Kr1
  replace Kt0 := cell_below hu Kt0
  replace Kt1 := cell_below hu Kt1
  replace Kp0 := cell_below hu Kp0
  replace Kp1 := cell_below hu Kp1
  replace Ku0 := cell_below hu Ku0
  replace Ku1 := cell_below hu Ku1
  clear hu
  have hmm : Calls Tryz.prog 19 #[.agg #[.slice (some ⟨wr.heap.size, 0, none⟩) 2 2, .slice b1 n1 d1], .agg #[.slice (some ⟨w5.heap.size, 0, none⟩) 2 2, .slice bu n1 du]] (wr.alloc (.cells #[.int .i64 1, .int .i64 (n1 : Int)] 3)) fun e w' => ∃ z, e = .returned z ∧ Nt [((1 : Nat) : Int), ((1 : Nat) : Int)] 2 1 [tot qs] (n1 * (40 + 40 + 1) + 1) w' z ∧ Below (wr.alloc (.cells #[.int .i64 1, .int .i64 (n1 : Int)] 3)).heap.size (wr.alloc (.cells #[.int .i64 1, .int .i64 (n1 : Int)] 3)) w' := by
    have q0 : (wr.alloc (.cells #[.int .i64 1, .int .i64 (n1 : Int)] 3)).cell? ⟨wr.heap.size, 0, none⟩ = some (.int .i64 ((1 : Nat) : Int)) := by simp
    have q1 : (wr.alloc (.cells #[.int .i64 1, .int .i64 (n1 : Int)] 3)).cell? ⟨wr.heap.size, 1, none⟩ = some (.int .i64 (n1 : Int)) := by simp
    have rr := (rgt_two 1 n1).2 (by omega)
    have hq : Tt (wr.alloc (.cells #[.int .i64 1, .int .i64 (n1 : Int)] 3)) 0 (some ⟨wr.heap.size, 0, none⟩) b1 [((1 : Nat) : Int), (n1 : Int)] 2 n1 qs 40 := tt_of ⟨sl_of_two q0 q1, HTa.out.tm.r, fun _ _ _ _ => Nat.zero_le _, fun _ _ _ _ => Nat.zero_le _⟩ rr (by rw [sz_two rr, HLQ.out]; simp) HTa.out.tr.b rfl HLQ.out
    have k := rmm_any wr.heap.size 0 w5.heap.size 0 b1 bu 2 d1 n1 2 du n1 1 n1 1 qs (List.replicate n1 1) (wr.alloc (.cells #[.int .i64 1, .int .i64 (n1 : Int)] 3)) hq HTu.out (by omega) q0 q1 (cell_below (bl_alloc (Below.refl wr.heap.size wr) (.cells #[.int .i64 1, .int .i64 (n1 : Int)] 3)) HS1.out)
    rw [ones_col HLQ.out] at k
    exact k
  clear HS1
  go_wp2_with fail
  refine hmm.mono ?_
  clear hmm
  rintro e w20 ⟨z, rfl, ⟨a9, c9, b9, d9, rfl, h9⟩, hb⟩
  clear m11
  have hu := bl_alloc hb (.cells #[.slice a9 2 c9, .slice b9 1 d9] 25)
  replace HB : Hid _ := bl_trans HB.out hu
  replace HTa : Hid _ := HTa.out.below hu
  replace HTt : Hid _ := HTt.out.below hu
  replace HTu : Hid _ := HTu.out.below hu
  replace K10 := cell_below hu K10
  replace K11 := cell_below hu K11
  replace Kr0 := cell_below hu Kr0
  replace Kr1 := cell_below hu Kr1
  replace Kt0 := cell_below hu Kt0
  replace Kt1 := cell_below hu Kt1
  replace Kp0 := cell_below hu Kp0
  replace Kp1 := cell_below hu Kp1
  replace Ku0 := cell_below hu Ku0
  replace Ku1 := cell_below hu Ku1
  clear hu
  have HTq : Hid _ := h9.below (bl_alloc (Below.refl w20.heap.size w20) (.cells #[.slice a9 2 c9, .slice b9 1 d9] 25))
  have Kq0 : (w20.alloc (.cells #[.slice a9 2 c9, .slice b9 1 d9] 25)).cell? ⟨w20.heap.size, 0, none⟩ = some (.slice a9 2 c9) := by simp
  have Kq1 : (w20.alloc (.cells #[.slice a9 2 c9, .slice b9 1 d9] 25)).cell? ⟨w20.heap.size, 1, none⟩ = some (.slice b9 1 d9) := by simp
  clear hb h9 HTu Ku0 Ku1
  obtain ⟨b8, o8, e8, x8⟩ := row_str HTt.out.tm.r (i := 0) (by simp)
  obtain ⟨b7, o7, e7, x7⟩ := row_str HTq.out.tm.r (i := 0) (by simp)
  subst e7 e8
  simp only [List.map_cons, List.map_nil, List.getD, List.getElem?_cons_zero, Option.getD_some, Nat.add_zero] at x7 x8
  clear HTq HTt
  go_wp2_with fail
  obtain ⟨C, hC⟩ : ∃ C : World → Prop, C = fun v => Below (w20.alloc (.cells #[.slice a9 2 c9, .slice (some ⟨b7, o7, none⟩) 1 d9] 25)).heap.size (w20.alloc (.cells #[.slice a9 2 c9, .slice (some ⟨b7, o7, none⟩) 1 d9] 25)) v := ⟨_, rfl⟩
  have et0 : ∀ v, C v → v.cell? ⟨w3.heap.size, 0, none⟩ = some (.slice a3' 0 c3') := fun v h => by subst hC; exact cell_below h Kt0
  have et1 : ∀ v, C v → v.cell? ⟨w3.heap.size, 1, none⟩ = some (.slice (some ⟨b8, o8, none⟩) 1 d3') := fun v h => by subst hC; exact cell_below h Kt1
  have eq1 : ∀ v, C v → v.cell? ⟨w20.heap.size, 1, none⟩ = some (.slice (some ⟨b7, o7, none⟩) 1 d9) := fun v h => by subst hC; exact cell_below h Kq1
  have xt : ∀ v, C v → v.cell? ⟨b8, o8, none⟩ = some (.string (R (tot qs))) := fun v h => by subst hC; exact cell_below h x8
  have xq : ∀ v, C v → v.cell? ⟨b7, o7, none⟩ = some (.string (R (tot qs))) := fun v h => by subst hC; exact cell_below h x7
  have cB : ∀ v, C v → Below w.heap.size w v := fun v h => by subst hC; exact bl_trans HB.out h
  have cT : ∀ u v, C u → Below u.heap.size u v → C v := fun u v h k => by subst hC; exact bl_trans h k
  have cI : C (w20.alloc (.cells #[.slice a9 2 c9, .slice (some ⟨b7, o7, none⟩) 1 d9] 25)).drew := by subst hC; exact bl_drew (Below.refl _ _)
  have CC : Hid (∀ v, C v → Below (w20.alloc (.cells #[.slice a9 2 c9, .slice (some ⟨b7, o7, none⟩) 1 d9] 25)).heap.size (w20.alloc (.cells #[.slice a9 2 c9, .slice (some ⟨b7, o7, none⟩) 1 d9] 25)) v) := fun v h => by subst hC; exact h
  clear hC
  refine region_calm C (by kernel_rfl) (by kernel_rfl) cI ?_
  clear cI
  with_reducible refine wpQuiet_step (fun K hK => ?_)
  go_simp
  refine ⟨_, fun v hv => rfl, hK _ ?_⟩
  clear hK K
  with_reducible refine wpQuiet_step (fun K hK => ?_)
  go_simp
  refine ⟨.slice a3' 0 c3', fun v hv => ?_, hK _ ?_⟩
  · simp [et0 v hv]
  clear hK K
  with_reducible refine wpQuiet_step (fun K hK => ?_)
  go_simp
  refine ⟨_, fun v hv => rfl, hK _ ?_⟩
  clear hK K
  with_reducible refine wpQuiet_step (fun K hK => ?_)
  go_simp
  refine ⟨_, fun v hv => rfl, hK _ ?_⟩
  clear hK K
  with_reducible refine wpQuiet_step (fun K hK => ?_)
  go_simp
  refine ⟨_, fun v hv => rfl, hK _ ?_⟩
  clear hK K
  with_reducible refine wpQuiet_step (fun K hK => ?_)
  go_simp
  refine ⟨_, fun v hv => rfl, hK _ ?_⟩
  clear hK K
  with_reducible refine wpQuiet_step (fun K hK => ?_)
  go_simp
  refine ⟨.slice (some ⟨b8, o8, none⟩) 1 d3', fun v hv => ?_, hK _ ?_⟩
  · simp [et1 v hv]
  clear hK K
  with_reducible refine wpQuiet_step (fun K hK => ?_)
  go_simp
  refine ⟨_, fun v hv => rfl, hK _ ?_⟩
  clear hK K
  with_reducible refine wpQuiet_step (fun K hK => ?_)
  go_simp
  refine ⟨_, fun v hv => rfl, hK _ ?_⟩
  clear hK K
  with_reducible refine wpQuiet_step (fun K hK => ?_)
  go_simp
  refine ⟨_, fun v hv => rfl, hK _ ?_⟩
  clear hK K
  with_reducible refine wpQuiet_step (fun K hK => ?_)
  go_simp
  refine ⟨_, fun v hv => rfl, hK _ ?_⟩
  clear hK K
  with_reducible refine wpQuiet_step (fun K hK => ?_)
  go_simp
  refine ⟨_, fun v hv => rfl, hK _ ?_⟩
  clear hK K
  with_reducible refine wpQuiet_step (fun K hK => ?_)
  go_simp
  refine ⟨.slice (some ⟨b8, o8, none⟩) 1 d3', fun v hv => ?_, hK _ ?_⟩
  · simp [et1 v hv]
  clear hK K
  with_reducible refine wpQuiet_step (fun K hK => ?_)
  go_simp
  refine ⟨_, fun v hv => rfl, hK _ ?_⟩
  clear hK K
  with_reducible refine wpQuiet_step (fun K hK => ?_)
  go_simp
  refine ⟨.string (R (tot qs)), fun v hv => ?_, hK _ ?_⟩
  · simp [xt v hv]
  clear hK K
  with_reducible refine wpQuiet_step (fun K hK => ?_)
  go_simp
  refine ⟨_, fun v hv => rfl, hK _ ?_⟩
  clear hK K
  with_reducible refine wpQuiet_step (fun K hK => ?_)
  go_simp
  refine ⟨.slice (some ⟨b7, o7, none⟩) 1 d9, fun v hv => ?_, hK _ ?_⟩
  · simp [eq1 v hv]
  clear hK K
  with_reducible refine wpQuiet_step (fun K hK => ?_)
  go_simp
  refine ⟨_, fun v hv => rfl, hK _ ?_⟩
  clear hK K
  with_reducible refine wpQuiet_step (fun K hK => ?_)
  go_simp
  refine ⟨.string (R (tot qs)), fun v hv => ?_, hK _ ?_⟩
  · simp [xq v hv]
  clear hK K
  with_reducible refine wpQuiet_step (fun K hK => ?_)
  go_simp
  refine ⟨_, fun v hv => rfl, hK _ ?_⟩
  clear hK K
  with_reducible refine wpQuiet_step (fun K hK => ?_)
  go_simp
  refine ⟨_, fun v hv => rfl, hK _ ?_⟩
  clear hK K
  with_reducible refine wpQuiet_step (fun K hK => ?_)
  go_simp
  refine ⟨_, fun v hv => rfl, hK _ ?_⟩
  clear hK K
  with_reducible refine wpQuiet_step (fun K hK => ?_)
  go_simp
  refine ⟨_, fun v hv => rfl, hK _ ?_⟩
  clear hK K
  with_reducible refine wpQuiet_step (fun K hK => ?_)
  go_simp
  refine ⟨_, fun v hv => rfl, hK _ ?_⟩
  clear hK K
  with_reducible refine wpQuiet_step (fun K hK => ?_)
  go_simp
  refine ⟨_, fun v hv => rfl, hK _ ?_⟩
  clear hK K
  refine wpQuiet_nil ?_
  intro w21 C1
  have hb := CC.out _ C1
  clear C1 CC cB cT et0 et1 eq1 xt xq
  have hu := hb
  replace HB : Hid _ := bl_trans HB.out hu
  replace HTa : Hid _ := HTa.out.below hu
  replace K10 := cell_below hu K10
  replace K11 := cell_below hu K11
  replace Kr0 := cell_below hu Kr0
  replace Kr1 := cell_below hu Kr1
  replace Kt0 := cell_below hu Kt0
  replace Kt1 := cell_below hu Kt1
  replace Kp0 := cell_below hu Kp0
  replace Kp1 := cell_below hu Kp1
  replace Kq0 := cell_below hu Kq0
  replace Kq1 := cell_below hu Kq1
  clear hu
  clear hb
  clear x7 x8
  clear Kt0 Kt1
  clear Kq0 Kq1
  go_wp2_with fail
  refine (hQ _ HB.out).mono ?_
  rintro e w22 ⟨rfl, hb⟩
  have hu := hb
  replace HB : Hid _ := bl_trans HB.out hu
  replace HTa : Hid _ := HTa.out.below hu
  replace K10 := cell_below hu K10
  replace K11 := cell_below hu K11
  replace Kr0 := cell_below hu Kr0
  replace Kr1 := cell_below hu Kr1
  replace Kp0 := cell_below hu Kp0
  replace Kp1 := cell_below hu Kp1
  clear hu
  clear hb
  go_wp2_with fail
  refine (awake_any aF aZ _ (HE.out.below HB.out)).mono ?_
  rintro e w23 ⟨rfl, hb⟩
  have hu := hb
  replace HB : Hid _ := bl_trans HB.out hu
  replace HTa : Hid _ := HTa.out.below hu
  replace K10 := cell_below hu K10
  replace K11 := cell_below hu K11
  replace Kr0 := cell_below hu Kr0
  replace Kr1 := cell_below hu Kr1
  replace Kp0 := cell_below hu Kp0
  replace Kp1 := cell_below hu Kp1
  clear hu
  clear hb
  go_wp2
  go_ret
  exact ⟨rfl, HB.out⟩

set_option maxHeartbeats 4000000 in
theorem shapes_nn (a1 b1 : Option Addr) (c1 d1 m1 n1 : Nat) (a2 : Option Addr) (m2 c2 : Nat) (zs us : List Int) (qs : List Rat) (N : Nat) (aF aZ : Addr) (w : World) (hE : Er w aF aZ)
    (hS1 : ∀ v, Below w.heap.size w v → Calls Tryz.prog 12 #[.agg #[.slice a1 m1 c1, .slice b1 n1 d1]] v fun e w' => e = .returned (.bool true) ∧ Below v.heap.size v w')
    (hR1 : ∀ v, Below w.heap.size w v → Calls Tryz.prog 16 #[.agg #[.slice a1 m1 c1, .slice b1 n1 d1]] v fun e w' => e = .returned (.bool true) ∧ Below v.heap.size v w')
    (hT : Tt w 0 a1 b1 zs m1 n1 qs 40) (hl : ¬ 10 < m2) (h2 : Sp.Sl w a2 us) (hm : us.length = m2)
    (hRe : ∀ v, Below w.heap.size w v → Calls Tryz.prog 20 #[.agg #[.slice a1 m1 c1, .slice b1 n1 d1], .slice a2 m2 c2] v fun e w' => e = .returned (noTensor 4) ∧ Below v.heap.size v w')
    (hSp : ∀ v, Below w.heap.size w v → Calls Tryz.prog 22 #[.agg #[.slice a1 m1 c1, .slice b1 n1 d1], .slice a2 m2 c2] v fun e w' => e = .returned (noTensor 4) ∧ Below v.heap.size v w') (hm1 : ((m1 : Int) != 0) = true)
    (hQ : ∀ v, Below w.heap.size w v → Calls Tryz.prog 23 #[.slice a2 m2 c2] v fun e w' => e = .returned (.bool true) ∧ Below v.heap.size v w')
    (hZ : ∀ v, Below w.heap.size w v → Calls Tryz.prog 24 #[.slice a2 m2 c2] v fun e w' => e = .returned (.int .i64 (N : Int)) ∧ Below v.heap.size v w')
    (hne : ((N : Int) != (n1 : Int)) = true) (hne2 : ((N : Int) == (n1 : Int)) = false) :
    Calls Tryz.prog 4 #[.agg #[.slice a1 m1 c1, .slice b1 n1 d1], .slice a2 m2 c2] w fun e w' => e = .returned (.bool true) ∧ Below w.heap.size w w' := by
  have HE : Hid _ := hE
  clear hE
  have HB : Hid (Below w.heap.size w w) := Below.refl _ _
  have hle := hT.le
  have HLQ : Hid (qs.length = n1) := hT.hn
  have HU : Hid (Sp.Sl w a2 us) := h2
  clear h2
  have HTa : Hid _ := hT
  clear hT
  have hu := bl_alloc (Below.refl w.heap.size w) (.cells #[.slice a1 m1 c1, .slice b1 n1 d1] 25)
  replace HB : Hid _ := bl_trans HB.out hu
  replace HTa : Hid _ := HTa.out.below hu
  clear hu
  have K10 : (w.alloc (.cells #[.slice a1 m1 c1, .slice b1 n1 d1] 25)).cell? ⟨w.heap.size, 0, none⟩ = some (.slice a1 m1 c1) := by first | rw [World.cell?_alloc_at _ _ _ _ (by simp)]; rfl | simp
  have K11 : (w.alloc (.cells #[.slice a1 m1 c1, .slice b1 n1 d1] 25)).cell? ⟨w.heap.size, 1, none⟩ = some (.slice b1 n1 d1) := by first | rw [World.cell?_alloc_at _ _ _ _ (by simp)]; rfl | simp
  go_enter Tryz.func4, Tryz.ntmps4
  go_wp2_with fail
  refine (hS1 _ HB.out).mono ?_
  rintro e w1 ⟨rfl, hb⟩
  have hu := hb
  replace HB : Hid _ := bl_trans HB.out hu
  replace HTa : Hid _ := HTa.out.below hu
  replace K10 := cell_below hu K10
  replace K11 := cell_below hu K11
  clear hu
  clear hb
  go_wp2_with fail
  refine (hRe _ HB.out).mono ?_
  rintro e w2 ⟨rfl, hb⟩
  have hu := bl_alloc hb (.cells #[.slice none 0 0, .slice none 0 0] 25)
  replace HB : Hid _ := bl_trans HB.out hu
  replace HTa : Hid _ := HTa.out.below hu
  replace K10 := cell_below hu K10
  replace K11 := cell_below hu K11
  clear hu
  have Kr0 : (w2.alloc (.cells #[.slice none 0 0, .slice none 0 0] 25)).cell? ⟨w2.heap.size, 0, none⟩ = some (.slice none 0 0) := by simp
  have Kr1 : (w2.alloc (.cells #[.slice none 0 0, .slice none 0 0] 25)).cell? ⟨w2.heap.size, 1, none⟩ = some (.slice none 0 0) := by simp
  clear hb
  go_wp2_with fail
  refine (ztotal c1 d1 (HE.out.below HB.out) HTa.out (by omega)).mono ?_
  rintro e w3 ⟨a3', c3', b3', d3', rfl, hT, hb⟩
  have hu := bl_alloc hb (.cells #[.slice a3' 0 c3', .slice b3' 1 d3'] 25)
  replace HB : Hid _ := bl_trans HB.out hu
  replace HTa : Hid _ := HTa.out.below hu
  replace K10 := cell_below hu K10
  replace K11 := cell_below hu K11
  replace Kr0 := cell_below hu Kr0
  replace Kr1 := cell_below hu Kr1
  clear hu
  have HTt : Hid _ := hT.below (bl_alloc (Below.refl w3.heap.size w3) (.cells #[.slice a3' 0 c3', .slice b3' 1 d3'] 25))
  have Kt0 : (w3.alloc (.cells #[.slice a3' 0 c3', .slice b3' 1 d3'] 25)).cell? ⟨w3.heap.size, 0, none⟩ = some (.slice a3' 0 c3') := by simp
  have Kt1 : (w3.alloc (.cells #[.slice a3' 0 c3', .slice b3' 1 d3'] 25)).cell? ⟨w3.heap.size, 1, none⟩ = some (.slice b3' 1 d3') := by simp
  clear hb hT
  go_wp2_with fail
  refine (hSp _ HB.out).mono ?_
  rintro e w4 ⟨rfl, hb⟩
  have hu := bl_alloc hb (.cells #[.slice none 0 0, .slice none 0 0] 25)
  replace HB : Hid _ := bl_trans HB.out hu
  replace HTa : Hid _ := HTa.out.below hu
  replace HTt : Hid _ := HTt.out.below hu
  replace K10 := cell_below hu K10
  replace K11 := cell_below hu K11
  replace Kr0 := cell_below hu Kr0
  replace Kr1 := cell_below hu Kr1
  replace Kt0 := cell_below hu Kt0
  replace Kt1 := cell_below hu Kt1
  clear hu
  have Kp0 : (w4.alloc (.cells #[.slice none 0 0, .slice none 0 0] 25)).cell? ⟨w4.heap.size, 0, none⟩ = some (.slice none 0 0) := by simp
  have Kp1 : (w4.alloc (.cells #[.slice none 0 0, .slice none 0 0] 25)).cell? ⟨w4.heap.size, 1, none⟩ = some (.slice none 0 0) := by simp
  clear hb
  go_wp2_with fail
  refine (hR1 _ HB.out).mono ?_
  rintro e w5 ⟨rfl, hb⟩
  have hu := hb
  replace HB : Hid _ := bl_trans HB.out hu
  replace HTa : Hid _ := HTa.out.below hu
  replace HTt : Hid _ := HTt.out.below hu
  replace K10 := cell_below hu K10
  replace K11 := cell_below hu K11
  replace Kr0 := cell_below hu Kr0
  replace Kr1 := cell_below hu Kr1
  replace Kt0 := cell_below hu Kt0
  replace Kt1 := cell_below hu Kt1
  replace Kp0 := cell_below hu Kp0
  replace Kp1 := cell_below hu Kp1
  clear hu
  clear hb
  obtain ⟨i0, hi, hz0, hz1, hz2⟩ := info_parts inf9
  have u1 := bl_alloc (bl_alloc (Below.refl w5.heap.size w5) (.cells #[.int .i64 (n1 : Int), .int .i64 1] 3)) (.cells #[.slice (some ⟨w5.heap.size, 0, none⟩) 2 2, .slice none 0 0] 25)
  have l11 := cell_below u1 K11
  have HU5 : Hid (Below w5.heap.size w5 ((w5.alloc (.cells #[.int .i64 (n1 : Int), .int .i64 1] 3)).alloc (.cells #[.slice (some ⟨w5.heap.size, 0, none⟩) 2 2, .slice none 0 0] 25))) := u1
  clear u1
  go_wp2_with fail
  have s0 : ((w5.alloc (.cells #[.int .i64 (n1 : Int), .int .i64 1] 3)).alloc (.cells #[.slice (some ⟨w5.heap.size, 0, none⟩) 2 2, .slice none 0 0] 25)).cell? ⟨w5.heap.size, 0, none⟩ = some (.int .i64 (n1 : Int)) := cell_below (bl_alloc (Below.refl _ _) _) (by simp)
  have s1 : ((w5.alloc (.cells #[.int .i64 (n1 : Int), .int .i64 1] 3)).alloc (.cells #[.slice (some ⟨w5.heap.size, 0, none⟩) 2 2, .slice none 0 0] 25)).cell? ⟨w5.heap.size, 1, none⟩ = some (.int .i64 1) := cell_below (bl_alloc (Below.refl _ _) _) (by simp)
  have r0 : ((w5.alloc (.cells #[.int .i64 (n1 : Int), .int .i64 1] 3)).alloc (.cells #[.slice (some ⟨w5.heap.size, 0, none⟩) 2 2, .slice none 0 0] 25)).cell? ⟨w5.heap.size + 1, 0, none⟩ = some (.slice (some ⟨w5.heap.size, 0, none⟩) 2 2) := by simp
  have r1 : ((w5.alloc (.cells #[.int .i64 (n1 : Int), .int .i64 1] 3)).alloc (.cells #[.slice (some ⟨w5.heap.size, 0, none⟩) 2 2, .slice none 0 0] 25)).cell? ⟨w5.heap.size + 1, 1, none⟩ = some (.slice none 0 0) := by simp
  have fr : ((w5.alloc (.cells #[.int .i64 (n1 : Int), .int .i64 1] 3)).alloc (.cells #[.slice (some ⟨w5.heap.size, 0, none⟩) 2 2, .slice none 0 0] 25)).frozen? ⟨w5.heap.size + 1, 1, none⟩ = false := by simp
  have HSZ : Hid (((w5.alloc (.cells #[.int .i64 (n1 : Int), .int .i64 1] 3)).alloc (.cells #[.slice (some ⟨w5.heap.size, 0, none⟩) 2 2, .slice none 0 0] 25)).heap.size = w5.heap.size + 1 + 1) := by simp [Hid]
  generalize ((w5.alloc (.cells #[.int .i64 (n1 : Int), .int .i64 1] 3)).alloc (.cells #[.slice (some ⟨w5.heap.size, 0, none⟩) 2 2, .slice none 0 0] 25)) = u at *
  go_loopw [84] (fun i wr => ∃ (k : Nat) (v : Value), k ≤ n1 ∧ i = .int .i64 k ∧ Gz u wr (w5.heap.size + 1) (.slice (some ⟨w5.heap.size, 0, none⟩) 2 2) v k (txts (List.replicate k ⟨#[49]⟩))) (fun i _ => n1 - (intOf i).toNat)
  case atStart => exact ⟨0, .slice none 0 0, by omega, rfl, Gz.start r0 r1 fr⟩
  case round =>
  obtain ⟨k, v, hk, rfl, hG⟩ := hrel
  by_cases h : k < n1
  · have hown : (wr.alloc (.cells #[.string ⟨#[49]⟩] 9)).ownsRow u.heap.size 9 1 v k (txts (List.replicate k ⟨#[49]⟩)) := World.ownsRow.alloc hG.ow _
    have z1 := hG.c1
    have hnw : Row (wr.alloc (.cells #[.string ⟨#[49]⟩] 9)) (some ⟨wr.heap.size, 0, none⟩) [.string ⟨#[49]⟩] := Row.one (by simp)
    have HG : Hid _ := hG
    have HOW : Hid _ := hown
    have HNW : Hid _ := hnw
    have HZ9 : Hid (u.heap.size ≤ (wr.alloc (.cells #[.string ⟨#[49]⟩] 9)).heap.size) := by have := hG.sz; simp [Hid]; omega
    clear hG hown hnw
    go_wp2_with (first | (at_builtin; refine wpList_append_row _ _ 23 rfl u.heap.size 9 i0 (.string ByteArray.empty) 16 Tryz.underlying23 hi hz0 hz1 hz2 rfl _ k (txts (List.replicate k ⟨#[49]⟩)) rfl HOW.out (some ⟨wr.heap.size, 0, none⟩) 1 1 [.string ⟨#[49]⟩] rfl rfl HNW.out (by simp [Value.oneCell']) (fun h => by cases h) (by unfold maxLen; omega) (by omega) HZ9.out (by first | rfl | go_simp) ?_))
    intro v' w4 hown4 hgrow4
    have hbl : w4.heap[w5.heap.size + 1]? = wr.heap[w5.heap.size + 1]? := HG.out.block (bl_alloc (Below.refl wr.heap.size wr) _) hgrow4 HG.out.hi
    have hc4 : w4.cell? ⟨w5.heap.size + 1, 1, none⟩ = some v := by rw [World.cell?_of_block (w := wr) hbl]; exact HG.out.c1
    have hf4 : w4.frozen? ⟨w5.heap.size + 1, 1, none⟩ = false := by rw [World.frozen?_of_block (w := wr) hbl]; exact HG.out.f1
    obtain ⟨a4, c4, ev, _⟩ := Row.of_own hown4
    subst ev
    have HF : Hid _ := HG.out.next (bl_alloc (Below.refl wr.heap.size wr) _) hgrow4 hown4
    clear hown4 hgrow4 hbl HG HOW HNW z1
    go_wp2
    go_roundw
    case rel => exact ⟨k + 1, .slice a4 (k + 1) c4, by omega, by go_num, by rw [txts_reps]; exact HF.out⟩
    case measure => simp [intOf]; omega
  obtain rfl : n1 = k := by omega
  clear h hk

  obtain ⟨bu, du, ev, hrow, hfar⟩ := hG.far
  subst ev
  replace s0 := hG.cell s0 (by omega)
  replace s1 := hG.cell s1 (by omega)
  have hbz : Below w5.heap.size w5 wr := hG.below HU5.out (by omega)
  clear r0 r1 fr l11 HU5 HSZ
  have hu := hbz
  replace HB : Hid _ := bl_trans HB.out hu
  replace HTa : Hid _ := HTa.out.below hu
  replace HTt : Hid _ := HTt.out.below hu
  replace K10 := cell_below hu K10
  replace K11 := cell_below hu K11
  replace Kr0 := cell_below hu Kr0
  replace Kr1 := cell_below hu Kr1
  replace Kt0 := cell_below hu Kt0
  replace Kt1 := cell_below hu Kt1
  replace Kp0 := cell_below hu Kp0
  replace Kp1 := cell_below hu Kp1
  clear hu
  have Ku0 := hG.c0
  have Ku1 := hG.c1
  have rc := (rgt_two n1 1).2 (by omega)
  have HTu : Hid (Tt wr 0 (some ⟨w5.heap.size, 0, none⟩) bu [(n1 : Int), ((1 : Nat) : Int)] 2 n1 (List.replicate n1 1) 40) := tt_of ⟨sl_of_two s0 s1, by rw [List.map_replicate, R1]; exact hrow, fun _ _ _ _ => Nat.zero_le _, fun _ _ _ _ => Nat.zero_le _⟩ rc (by rw [sz_two rc]; simp) (fun t ht => by rw [(List.mem_replicate.1 ht).2]; exact bd_one) rfl (by simp)
  clear hbz hG hrow hfar rc s0
  have m11 := K11
  have HS1 : Hid _ := s1
  clear s1
  have hu := bl_alloc (Below.refl wr.heap.size wr) (.cells #[.int .i64 1, .int .i64 (n1 : Int)] 3)
  replace HB : Hid _ := bl_trans HB.out hu
  replace HTa : Hid _ := HTa.out.below hu
  replace HTt : Hid _ := HTt.out.below hu
  replace HTu : Hid _ := HTu.out.below hu
  replace K10 := cell_below hu K10
  replace K11 := cell_below hu K11
  replace Kr0 := cell_below hu Kr0
  replace Kr1 := cell_below hu Kr1
  replace Kt0 := cell_below hu Kt0
  replace Kt1 := cell_below hu Kt1
  replace Kp0 := cell_below hu Kp0
  replace Kp1 := cell_below hu Kp1
  replace Ku0 := cell_below hu Ku0
  replace Ku1 := cell_below hu Ku1
  clear hu
  have hmm : Calls Tryz.prog 19 #[.agg #[.slice (some ⟨wr.heap.size, 0, none⟩) 2 2, .slice b1 n1 d1], .agg #[.slice (some ⟨w5.heap.size, 0, none⟩) 2 2, .slice bu n1 du]] (wr.alloc (.cells #[.int .i64 1, .int .i64 (n1 : Int)] 3)) fun e w' => ∃ z, e = .returned z ∧ Nt [((1 : Nat) : Int), ((1 : Nat) : Int)] 2 1 [tot qs] (n1 * (40 + 40 + 1) + 1) w' z ∧ Below (wr.alloc (.cells #[.int .i64 1, .int .i64 (n1 : Int)] 3)).heap.size (wr.alloc (.cells #[.int .i64 1, .int .i64 (n1 : Int)] 3)) w' := by
    have q0 : (wr.alloc (.cells #[.int .i64 1, .int .i64 (n1 : Int)] 3)).cell? ⟨wr.heap.size, 0, none⟩ = some (.int .i64 ((1 : Nat) : Int)) := by simp
    have q1 : (wr.alloc (.cells #[.int .i64 1, .int .i64 (n1 : Int)] 3)).cell? ⟨wr.heap.size, 1, none⟩ = some (.int .i64 (n1 : Int)) := by simp
    have rr := (rgt_two 1 n1).2 (by omega)
    have hq : Tt (wr.alloc (.cells #[.int .i64 1, .int .i64 (n1 : Int)] 3)) 0 (some ⟨wr.heap.size, 0, none⟩) b1 [((1 : Nat) : Int), (n1 : Int)] 2 n1 qs 40 := tt_of ⟨sl_of_two q0 q1, HTa.out.tm.r, fun _ _ _ _ => Nat.zero_le _, fun _ _ _ _ => Nat.zero_le _⟩ rr (by rw [sz_two rr, HLQ.out]; simp) HTa.out.tr.b rfl HLQ.out
    have k := rmm_any wr.heap.size 0 w5.heap.size 0 b1 bu 2 d1 n1 2 du n1 1 n1 1 qs (List.replicate n1 1) (wr.alloc (.cells #[.int .i64 1, .int .i64 (n1 : Int)] 3)) hq HTu.out (by omega) q0 q1 (cell_below (bl_alloc (Below.refl wr.heap.size wr) (.cells #[.int .i64 1, .int .i64 (n1 : Int)] 3)) HS1.out)
    rw [ones_col HLQ.out] at k
    exact k
  clear HS1
  go_wp2_with fail
  refine hmm.mono ?_
  clear hmm
  rintro e w20 ⟨z, rfl, ⟨a9, c9, b9, d9, rfl, h9⟩, hb⟩
  clear m11
  have hu := bl_alloc hb (.cells #[.slice a9 2 c9, .slice b9 1 d9] 25)
  replace HB : Hid _ := bl_trans HB.out hu
  replace HTa : Hid _ := HTa.out.below hu
  replace HTt : Hid _ := HTt.out.below hu
  replace HTu : Hid _ := HTu.out.below hu
  replace K10 := cell_below hu K10
  replace K11 := cell_below hu K11
  replace Kr0 := cell_below hu Kr0
  replace Kr1 := cell_below hu Kr1
  replace Kt0 := cell_below hu Kt0
  replace Kt1 := cell_below hu Kt1
  replace Kp0 := cell_below hu Kp0
  replace Kp1 := cell_below hu Kp1
  replace Ku0 := cell_below hu Ku0
  replace Ku1 := cell_below hu Ku1
  clear hu
  have HTq : Hid _ := h9.below (bl_alloc (Below.refl w20.heap.size w20) (.cells #[.slice a9 2 c9, .slice b9 1 d9] 25))
  have Kq0 : (w20.alloc (.cells #[.slice a9 2 c9, .slice b9 1 d9] 25)).cell? ⟨w20.heap.size, 0, none⟩ = some (.slice a9 2 c9) := by simp
  have Kq1 : (w20.alloc (.cells #[.slice a9 2 c9, .slice b9 1 d9] 25)).cell? ⟨w20.heap.size, 1, none⟩ = some (.slice b9 1 d9) := by simp
  clear hb h9 HTu Ku0 Ku1
  obtain ⟨b8, o8, e8, x8⟩ := row_str HTt.out.tm.r (i := 0) (by simp)
  obtain ⟨b7, o7, e7, x7⟩ := row_str HTq.out.tm.r (i := 0) (by simp)
  subst e7 e8
  simp only [List.map_cons, List.map_nil, List.getD, List.getElem?_cons_zero, Option.getD_some, Nat.add_zero] at x7 x8
  clear HTq HTt
  go_wp2_with fail
  obtain ⟨C, hC⟩ : ∃ C : World → Prop, C = fun v => Below (w20.alloc (.cells #[.slice a9 2 c9, .slice (some ⟨b7, o7, none⟩) 1 d9] 25)).heap.size (w20.alloc (.cells #[.slice a9 2 c9, .slice (some ⟨b7, o7, none⟩) 1 d9] 25)) v := ⟨_, rfl⟩
  have et0 : ∀ v, C v → v.cell? ⟨w3.heap.size, 0, none⟩ = some (.slice a3' 0 c3') := fun v h => by subst hC; exact cell_below h Kt0
  have et1 : ∀ v, C v → v.cell? ⟨w3.heap.size, 1, none⟩ = some (.slice (some ⟨b8, o8, none⟩) 1 d3') := fun v h => by subst hC; exact cell_below h Kt1
  have eq1 : ∀ v, C v → v.cell? ⟨w20.heap.size, 1, none⟩ = some (.slice (some ⟨b7, o7, none⟩) 1 d9) := fun v h => by subst hC; exact cell_below h Kq1
  have xt : ∀ v, C v → v.cell? ⟨b8, o8, none⟩ = some (.string (R (tot qs))) := fun v h => by subst hC; exact cell_below h x8
  have xq : ∀ v, C v → v.cell? ⟨b7, o7, none⟩ = some (.string (R (tot qs))) := fun v h => by subst hC; exact cell_below h x7
  have cB : ∀ v, C v → Below w.heap.size w v := fun v h => by subst hC; exact bl_trans HB.out h
  have cT : ∀ u v, C u → Below u.heap.size u v → C v := fun u v h k => by subst hC; exact bl_trans h k
  have cI : C (w20.alloc (.cells #[.slice a9 2 c9, .slice (some ⟨b7, o7, none⟩) 1 d9] 25)).drew := by subst hC; exact bl_drew (Below.refl _ _)
  have CC : Hid (∀ v, C v → Below (w20.alloc (.cells #[.slice a9 2 c9, .slice (some ⟨b7, o7, none⟩) 1 d9] 25)).heap.size (w20.alloc (.cells #[.slice a9 2 c9, .slice (some ⟨b7, o7, none⟩) 1 d9] 25)) v) := fun v h => by subst hC; exact h
  clear hC
  refine region_calm C (by kernel_rfl) (by kernel_rfl) cI ?_
  clear cI
  with_reducible refine wpQuiet_step (fun K hK => ?_)
  go_simp
  refine ⟨_, fun v hv => rfl, hK _ ?_⟩
  clear hK K
  with_reducible refine wpQuiet_step (fun K hK => ?_)
  go_simp
  refine ⟨.slice a3' 0 c3', fun v hv => ?_, hK _ ?_⟩
  · simp [et0 v hv]
  clear hK K
  with_reducible refine wpQuiet_step (fun K hK => ?_)
  go_simp
  refine ⟨_, fun v hv => rfl, hK _ ?_⟩
  clear hK K
  with_reducible refine wpQuiet_step (fun K hK => ?_)
  go_simp
  refine ⟨_, fun v hv => rfl, hK _ ?_⟩
  clear hK K
  with_reducible refine wpQuiet_step (fun K hK => ?_)
  go_simp
  refine ⟨_, fun v hv => rfl, hK _ ?_⟩
  clear hK K
  with_reducible refine wpQuiet_step (fun K hK => ?_)
  go_simp
  refine ⟨_, fun v hv => rfl, hK _ ?_⟩
  clear hK K
  with_reducible refine wpQuiet_step (fun K hK => ?_)
  go_simp
  refine ⟨.slice (some ⟨b8, o8, none⟩) 1 d3', fun v hv => ?_, hK _ ?_⟩
  · simp [et1 v hv]
  clear hK K
  with_reducible refine wpQuiet_step (fun K hK => ?_)
  go_simp
  refine ⟨_, fun v hv => rfl, hK _ ?_⟩
  clear hK K
  with_reducible refine wpQuiet_step (fun K hK => ?_)
  go_simp
  refine ⟨_, fun v hv => rfl, hK _ ?_⟩
  clear hK K
  with_reducible refine wpQuiet_step (fun K hK => ?_)
  go_simp
  refine ⟨_, fun v hv => rfl, hK _ ?_⟩
  clear hK K
  with_reducible refine wpQuiet_step (fun K hK => ?_)
  go_simp
  refine ⟨_, fun v hv => rfl, hK _ ?_⟩
  clear hK K
  with_reducible refine wpQuiet_step (fun K hK => ?_)
  go_simp
  refine ⟨_, fun v hv => rfl, hK _ ?_⟩
  clear hK K
  with_reducible refine wpQuiet_step (fun K hK => ?_)
  go_simp
  refine ⟨.slice (some ⟨b8, o8, none⟩) 1 d3', fun v hv => ?_, hK _ ?_⟩
  · simp [et1 v hv]
  clear hK K
  with_reducible refine wpQuiet_step (fun K hK => ?_)
  go_simp
  refine ⟨_, fun v hv => rfl, hK _ ?_⟩
  clear hK K
  with_reducible refine wpQuiet_step (fun K hK => ?_)
  go_simp
  refine ⟨.string (R (tot qs)), fun v hv => ?_, hK _ ?_⟩
  · simp [xt v hv]
  clear hK K
  with_reducible refine wpQuiet_step (fun K hK => ?_)
  go_simp
  refine ⟨_, fun v hv => rfl, hK _ ?_⟩
  clear hK K
  with_reducible refine wpQuiet_step (fun K hK => ?_)
  go_simp
  refine ⟨.slice (some ⟨b7, o7, none⟩) 1 d9, fun v hv => ?_, hK _ ?_⟩
  · simp [eq1 v hv]
  clear hK K
  with_reducible refine wpQuiet_step (fun K hK => ?_)
  go_simp
  refine ⟨_, fun v hv => rfl, hK _ ?_⟩
  clear hK K
  with_reducible refine wpQuiet_step (fun K hK => ?_)
  go_simp
  refine ⟨.string (R (tot qs)), fun v hv => ?_, hK _ ?_⟩
  · simp [xq v hv]
  clear hK K
  with_reducible refine wpQuiet_step (fun K hK => ?_)
  go_simp
  refine ⟨_, fun v hv => rfl, hK _ ?_⟩
  clear hK K
  with_reducible refine wpQuiet_step (fun K hK => ?_)
  go_simp
  refine ⟨_, fun v hv => rfl, hK _ ?_⟩
  clear hK K
  with_reducible refine wpQuiet_step (fun K hK => ?_)
  go_simp
  refine ⟨_, fun v hv => rfl, hK _ ?_⟩
  clear hK K
  with_reducible refine wpQuiet_step (fun K hK => ?_)
  go_simp
  refine ⟨_, fun v hv => rfl, hK _ ?_⟩
  clear hK K
  with_reducible refine wpQuiet_step (fun K hK => ?_)
  go_simp
  refine ⟨_, fun v hv => rfl, hK _ ?_⟩
  clear hK K
  with_reducible refine wpQuiet_step (fun K hK => ?_)
  go_simp
  refine ⟨_, fun v hv => rfl, hK _ ?_⟩
  clear hK K
  refine wpQuiet_nil ?_
  intro w21 C1
  have hb := CC.out _ C1
  clear C1 CC cB cT et0 et1 eq1 xt xq
  have hu := hb
  replace HB : Hid _ := bl_trans HB.out hu
  replace HTa : Hid _ := HTa.out.below hu
  replace K10 := cell_below hu K10
  replace K11 := cell_below hu K11
  replace Kr0 := cell_below hu Kr0
  replace Kr1 := cell_below hu Kr1
  replace Kt0 := cell_below hu Kt0
  replace Kt1 := cell_below hu Kt1
  replace Kp0 := cell_below hu Kp0
  replace Kp1 := cell_below hu Kp1
  replace Kq0 := cell_below hu Kq0
  replace Kq1 := cell_below hu Kq1
  clear hu
  clear hb
  clear x7 x8
  clear Kt0 Kt1
  clear Kq0 Kq1
  go_wp2_with fail
  refine (hQ _ HB.out).mono ?_
  rintro e w22 ⟨rfl, hb⟩
  have hu := hb
  replace HB : Hid _ := bl_trans HB.out hu
  replace HTa : Hid _ := HTa.out.below hu
  replace K10 := cell_below hu K10
  replace K11 := cell_below hu K11
  replace Kr0 := cell_below hu Kr0
  replace Kr1 := cell_below hu Kr1
  replace Kp0 := cell_below hu Kp0
  replace Kp1 := cell_below hu Kp1
  clear hu
  clear hb
  go_wp2_with fail
  refine (hZ _ HB.out).mono ?_
  rintro e w23 ⟨rfl, hb⟩
  have hu := hb
  replace HB : Hid _ := bl_trans HB.out hu
  replace HTa : Hid _ := HTa.out.below hu
  replace K10 := cell_below hu K10
  replace K11 := cell_below hu K11
  replace Kr0 := cell_below hu Kr0
  replace Kr1 := cell_below hu Kr1
  replace Kp0 := cell_below hu Kp0
  replace Kp1 := cell_below hu Kp1
  clear hu
  clear hb
  go_wp2_with fail
  refine (awake_any aF aZ _ (HE.out.below HB.out)).mono ?_
  rintro e w24 ⟨rfl, hb⟩
  have hu := hb
  replace HB : Hid _ := bl_trans HB.out hu
  replace HTa : Hid _ := HTa.out.below hu
  replace K10 := cell_below hu K10
  replace K11 := cell_below hu K11
  replace Kr0 := cell_below hu Kr0
  replace Kr1 := cell_below hu Kr1
  replace Kp0 := cell_below hu Kp0
  replace Kp1 := cell_below hu Kp1
  clear hu
  clear hb
  go_wp2
  go_ret
  exact ⟨rfl, HB.out⟩

set_option maxHeartbeats 4000000 in
theorem shapes_yn (a1 b1 : Option Addr) (c1 d1 m1 n1 : Nat) (a2 : Option Addr) (m2 c2 : Nat) (zs us : List Int) (qs : List Rat) (aF aZ : Addr) (w : World) (hE : Er w aF aZ)
    (hS1 : ∀ v, Below w.heap.size w v → Calls Tryz.prog 12 #[.agg #[.slice a1 m1 c1, .slice b1 n1 d1]] v fun e w' => e = .returned (.bool true) ∧ Below v.heap.size v w')
    (hR1 : ∀ v, Below w.heap.size w v → Calls Tryz.prog 16 #[.agg #[.slice a1 m1 c1, .slice b1 n1 d1]] v fun e w' => e = .returned (.bool true) ∧ Below v.heap.size v w')
    (hT : Tt w 0 a1 b1 zs m1 n1 qs 40) (hl : ¬ 10 < m2) (h2 : Sp.Sl w a2 us) (hm : us.length = m2) (hr : Sp.Rgt us) (hn : Sp.szI us = n1)
    (hSp : ∀ v, Below w.heap.size w v → Calls Tryz.prog 22 #[.agg #[.slice a1 m1 c1, .slice b1 n1 d1], .slice a2 m2 c2] v fun e w' => e = .returned (noTensor 4) ∧ Below v.heap.size v w') (hm1 : ((m1 : Int) != 0) = true)
    (hQ : ∀ v, Below w.heap.size w v → Calls Tryz.prog 23 #[.slice a2 m2 c2] v fun e w' => e = .returned (.bool true) ∧ Below v.heap.size v w')
    (hZ : ∀ v, Below w.heap.size w v → Calls Tryz.prog 24 #[.slice a2 m2 c2] v fun e w' => e = .returned (.int .i64 (n1 : Int)) ∧ Below v.heap.size v w') :
    Calls Tryz.prog 4 #[.agg #[.slice a1 m1 c1, .slice b1 n1 d1], .slice a2 m2 c2] w fun e w' => e = .returned (.bool true) ∧ Below w.heap.size w w' := by
  have HE : Hid _ := hE
  clear hE
  have HB : Hid (Below w.heap.size w w) := Below.refl _ _
  have hle := hT.le
  have HLQ : Hid (qs.length = n1) := hT.hn
  have HU : Hid (Sp.Sl w a2 us) := h2
  have HTv : Hid _ := (show Tt w 0 a2 b1 us m2 n1 qs 40 from tt_of ⟨h2, hT.tm.r, fun _ _ _ _ => Nat.zero_le _, fun _ _ _ _ => Nat.zero_le _⟩ hr (by rw [hT.hn, hn]) hT.tr.b hm hT.hn)
  clear h2
  have HTa : Hid _ := hT
  clear hT
  have hu := bl_alloc (Below.refl w.heap.size w) (.cells #[.slice a1 m1 c1, .slice b1 n1 d1] 25)
  replace HB : Hid _ := bl_trans HB.out hu
  replace HTv : Hid _ := HTv.out.below hu
  replace HTa : Hid _ := HTa.out.below hu
  clear hu
  have K10 : (w.alloc (.cells #[.slice a1 m1 c1, .slice b1 n1 d1] 25)).cell? ⟨w.heap.size, 0, none⟩ = some (.slice a1 m1 c1) := by first | rw [World.cell?_alloc_at _ _ _ _ (by simp)]; rfl | simp
  have K11 : (w.alloc (.cells #[.slice a1 m1 c1, .slice b1 n1 d1] 25)).cell? ⟨w.heap.size, 1, none⟩ = some (.slice b1 n1 d1) := by first | rw [World.cell?_alloc_at _ _ _ _ (by simp)]; rfl | simp
  go_enter Tryz.func4, Tryz.ntmps4
  go_wp2_with fail
  refine (hS1 _ HB.out).mono ?_
  rintro e w1 ⟨rfl, hb⟩
  have hu := hb
  replace HB : Hid _ := bl_trans HB.out hu
  replace HTv : Hid _ := HTv.out.below hu
  replace HTa : Hid _ := HTa.out.below hu
  replace K10 := cell_below hu K10
  replace K11 := cell_below hu K11
  clear hu
  clear hb
  go_wp2_with fail
  refine (zre c1 d1 c2 (HE.out.below HB.out) HTa.out (Sp.Sl.below HU.out HB.out) hr hm hn (by omega)).mono ?_
  rintro e w2 ⟨a2', c2', b2', d2', rfl, hT, hb⟩
  have hu := bl_alloc hb (.cells #[.slice a2' m2 c2', .slice b2' n1 d2'] 25)
  replace HB : Hid _ := bl_trans HB.out hu
  replace HTv : Hid _ := HTv.out.below hu
  replace HTa : Hid _ := HTa.out.below hu
  replace K10 := cell_below hu K10
  replace K11 := cell_below hu K11
  clear hu
  have HTr : Hid _ := hT.below (bl_alloc (Below.refl w2.heap.size w2) (.cells #[.slice a2' m2 c2', .slice b2' n1 d2'] 25))
  have Kr0 : (w2.alloc (.cells #[.slice a2' m2 c2', .slice b2' n1 d2'] 25)).cell? ⟨w2.heap.size, 0, none⟩ = some (.slice a2' m2 c2') := by simp
  have Kr1 : (w2.alloc (.cells #[.slice a2' m2 c2', .slice b2' n1 d2'] 25)).cell? ⟨w2.heap.size, 1, none⟩ = some (.slice b2' n1 d2') := by simp
  clear hb hT
  go_wp2_with fail
  refine (ztotal c1 d1 (HE.out.below HB.out) HTa.out (by omega)).mono ?_
  rintro e w3 ⟨a3', c3', b3', d3', rfl, hT, hb⟩
  have hu := bl_alloc hb (.cells #[.slice a3' 0 c3', .slice b3' 1 d3'] 25)
  replace HB : Hid _ := bl_trans HB.out hu
  replace HTv : Hid _ := HTv.out.below hu
  replace HTa : Hid _ := HTa.out.below hu
  replace HTr : Hid _ := HTr.out.below hu
  replace K10 := cell_below hu K10
  replace K11 := cell_below hu K11
  replace Kr0 := cell_below hu Kr0
  replace Kr1 := cell_below hu Kr1
  clear hu
  have HTt : Hid _ := hT.below (bl_alloc (Below.refl w3.heap.size w3) (.cells #[.slice a3' 0 c3', .slice b3' 1 d3'] 25))
  have Kt0 : (w3.alloc (.cells #[.slice a3' 0 c3', .slice b3' 1 d3'] 25)).cell? ⟨w3.heap.size, 0, none⟩ = some (.slice a3' 0 c3') := by simp
  have Kt1 : (w3.alloc (.cells #[.slice a3' 0 c3', .slice b3' 1 d3'] 25)).cell? ⟨w3.heap.size, 1, none⟩ = some (.slice b3' 1 d3') := by simp
  clear hb hT
  go_wp2_with fail
  refine (hSp _ HB.out).mono ?_
  rintro e w4 ⟨rfl, hb⟩
  have hu := bl_alloc hb (.cells #[.slice none 0 0, .slice none 0 0] 25)
  replace HB : Hid _ := bl_trans HB.out hu
  replace HTv : Hid _ := HTv.out.below hu
  replace HTa : Hid _ := HTa.out.below hu
  replace HTr : Hid _ := HTr.out.below hu
  replace HTt : Hid _ := HTt.out.below hu
  replace K10 := cell_below hu K10
  replace K11 := cell_below hu K11
  replace Kr0 := cell_below hu Kr0
  replace Kr1 := cell_below hu Kr1
  replace Kt0 := cell_below hu Kt0
  replace Kt1 := cell_below hu Kt1
  clear hu
  have Kp0 : (w4.alloc (.cells #[.slice none 0 0, .slice none 0 0] 25)).cell? ⟨w4.heap.size, 0, none⟩ = some (.slice none 0 0) := by simp
  have Kp1 : (w4.alloc (.cells #[.slice none 0 0, .slice none 0 0] 25)).cell? ⟨w4.heap.size, 1, none⟩ = some (.slice none 0 0) := by simp
  clear hb
  go_wp2_with fail
  refine (hR1 _ HB.out).mono ?_
  rintro e w5 ⟨rfl, hb⟩
  have hu := hb
  replace HB : Hid _ := bl_trans HB.out hu
  replace HTv : Hid _ := HTv.out.below hu
  replace HTa : Hid _ := HTa.out.below hu
  replace HTr : Hid _ := HTr.out.below hu
  replace HTt : Hid _ := HTt.out.below hu
  replace K10 := cell_below hu K10
  replace K11 := cell_below hu K11
  replace Kr0 := cell_below hu Kr0
  replace Kr1 := cell_below hu Kr1
  replace Kt0 := cell_below hu Kt0
  replace Kt1 := cell_below hu Kt1
  replace Kp0 := cell_below hu Kp0
  replace Kp1 := cell_below hu Kp1
  clear hu
  clear hb
  obtain ⟨i0, hi, hz0, hz1, hz2⟩ := info_parts inf9
  have u1 := bl_alloc (bl_alloc (Below.refl w5.heap.size w5) (.cells #[.int .i64 (n1 : Int), .int .i64 1] 3)) (.cells #[.slice (some ⟨w5.heap.size, 0, none⟩) 2 2, .slice none 0 0] 25)
  have l11 := cell_below u1 K11
  have HU5 : Hid (Below w5.heap.size w5 ((w5.alloc (.cells #[.int .i64 (n1 : Int), .int .i64 1] 3)).alloc (.cells #[.slice (some ⟨w5.heap.size, 0, none⟩) 2 2, .slice none 0 0] 25))) := u1
  clear u1
  go_wp2_with fail
  have s0 : ((w5.alloc (.cells #[.int .i64 (n1 : Int), .int .i64 1] 3)).alloc (.cells #[.slice (some ⟨w5.heap.size, 0, none⟩) 2 2, .slice none 0 0] 25)).cell? ⟨w5.heap.size, 0, none⟩ = some (.int .i64 (n1 : Int)) := cell_below (bl_alloc (Below.refl _ _) _) (by simp)
  have s1 : ((w5.alloc (.cells #[.int .i64 (n1 : Int), .int .i64 1] 3)).alloc (.cells #[.slice (some ⟨w5.heap.size, 0, none⟩) 2 2, .slice none 0 0] 25)).cell? ⟨w5.heap.size, 1, none⟩ = some (.int .i64 1) := cell_below (bl_alloc (Below.refl _ _) _) (by simp)
  have r0 : ((w5.alloc (.cells #[.int .i64 (n1 : Int), .int .i64 1] 3)).alloc (.cells #[.slice (some ⟨w5.heap.size, 0, none⟩) 2 2, .slice none 0 0] 25)).cell? ⟨w5.heap.size + 1, 0, none⟩ = some (.slice (some ⟨w5.heap.size, 0, none⟩) 2 2) := by simp
  have r1 : ((w5.alloc (.cells #[.int .i64 (n1 : Int), .int .i64 1] 3)).alloc (.cells #[.slice (some ⟨w5.heap.size, 0, none⟩) 2 2, .slice none 0 0] 25)).cell? ⟨w5.heap.size + 1, 1, none⟩ = some (.slice none 0 0) := by simp
  have fr : ((w5.alloc (.cells #[.int .i64 (n1 : Int), .int .i64 1] 3)).alloc (.cells #[.slice (some ⟨w5.heap.size, 0, none⟩) 2 2, .slice none 0 0] 25)).frozen? ⟨w5.heap.size + 1, 1, none⟩ = false := by simp
  have HSZ : Hid (((w5.alloc (.cells #[.int .i64 (n1 : Int), .int .i64 1] 3)).alloc (.cells #[.slice (some ⟨w5.heap.size, 0, none⟩) 2 2, .slice none 0 0] 25)).heap.size = w5.heap.size + 1 + 1) := by simp [Hid]
  generalize ((w5.alloc (.cells #[.int .i64 (n1 : Int), .int .i64 1] 3)).alloc (.cells #[.slice (some ⟨w5.heap.size, 0, none⟩) 2 2, .slice none 0 0] 25)) = u at *
  go_loopw [84] (fun i wr => ∃ (k : Nat) (v : Value), k ≤ n1 ∧ i = .int .i64 k ∧ Gz u wr (w5.heap.size + 1) (.slice (some ⟨w5.heap.size, 0, none⟩) 2 2) v k (txts (List.replicate k ⟨#[49]⟩))) (fun i _ => n1 - (intOf i).toNat)
  case atStart => exact ⟨0, .slice none 0 0, by omega, rfl, Gz.start r0 r1 fr⟩
  case round =>
  obtain ⟨k, v, hk, rfl, hG⟩ := hrel
  by_cases h : k < n1
  · have hown : (wr.alloc (.cells #[.string ⟨#[49]⟩] 9)).ownsRow u.heap.size 9 1 v k (txts (List.replicate k ⟨#[49]⟩)) := World.ownsRow.alloc hG.ow _
    have z1 := hG.c1
    have hnw : Row (wr.alloc (.cells #[.string ⟨#[49]⟩] 9)) (some ⟨wr.heap.size, 0, none⟩) [.string ⟨#[49]⟩] := Row.one (by simp)
    have HG : Hid _ := hG
    have HOW : Hid _ := hown
    have HNW : Hid _ := hnw
    have HZ9 : Hid (u.heap.size ≤ (wr.alloc (.cells #[.string ⟨#[49]⟩] 9)).heap.size) := by have := hG.sz; simp [Hid]; omega
    clear hG hown hnw
    go_wp2_with (first | (at_builtin; refine wpList_append_row _ _ 23 rfl u.heap.size 9 i0 (.string ByteArray.empty) 16 Tryz.underlying23 hi hz0 hz1 hz2 rfl _ k (txts (List.replicate k ⟨#[49]⟩)) rfl HOW.out (some ⟨wr.heap.size, 0, none⟩) 1 1 [.string ⟨#[49]⟩] rfl rfl HNW.out (by simp [Value.oneCell']) (fun h => by cases h) (by unfold maxLen; omega) (by omega) HZ9.out (by first | rfl | go_simp) ?_))
    intro v' w4 hown4 hgrow4
    have hbl : w4.heap[w5.heap.size + 1]? = wr.heap[w5.heap.size + 1]? := HG.out.block (bl_alloc (Below.refl wr.heap.size wr) _) hgrow4 HG.out.hi
    have hc4 : w4.cell? ⟨w5.heap.size + 1, 1, none⟩ = some v := by rw [World.cell?_of_block (w := wr) hbl]; exact HG.out.c1
    have hf4 : w4.frozen? ⟨w5.heap.size + 1, 1, none⟩ = false := by rw [World.frozen?_of_block (w := wr) hbl]; exact HG.out.f1
    obtain ⟨a4, c4, ev, _⟩ := Row.of_own hown4
    subst ev
    have HF : Hid _ := HG.out.next (bl_alloc (Below.refl wr.heap.size wr) _) hgrow4 hown4
    clear hown4 hgrow4 hbl HG HOW HNW z1
    go_wp2
    go_roundw
    case rel => exact ⟨k + 1, .slice a4 (k + 1) c4, by omega, by go_num, by rw [txts_reps]; exact HF.out⟩
    case measure => simp [intOf]; omega
  obtain rfl : n1 = k := by omega
  clear h hk

  obtain ⟨bu, du, ev, hrow, hfar⟩ := hG.far
  subst ev
  replace s0 := hG.cell s0 (by omega)
  replace s1 := hG.cell s1 (by omega)
  have hbz : Below w5.heap.size w5 wr := hG.below HU5.out (by omega)
  clear r0 r1 fr l11 HU5 HSZ
  have hu := hbz
  replace HB : Hid _ := bl_trans HB.out hu
  replace HTv : Hid _ := HTv.out.below hu
  replace HTa : Hid _ := HTa.out.below hu
  replace HTr : Hid _ := HTr.out.below hu
  replace HTt : Hid _ := HTt.out.below hu
  replace K10 := cell_below hu K10
  replace K11 := cell_below hu K11
  replace Kr0 := cell_below hu Kr0
  replace Kr1 := cell_below hu Kr1
  replace Kt0 := cell_below hu Kt0
  replace Kt1 := cell_below hu Kt1
  replace Kp0 := cell_below hu Kp0
  replace Kp1 := cell_below hu Kp1
  clear hu
  have Ku0 := hG.c0
  have Ku1 := hG.c1
  have rc := (rgt_two n1 1).2 (by omega)
  have HTu : Hid (Tt wr 0 (some ⟨w5.heap.size, 0, none⟩) bu [(n1 : Int), ((1 : Nat) : Int)] 2 n1 (List.replicate n1 1) 40) := tt_of ⟨sl_of_two s0 s1, by rw [List.map_replicate, R1]; exact hrow, fun _ _ _ _ => Nat.zero_le _, fun _ _ _ _ => Nat.zero_le _⟩ rc (by rw [sz_two rc]; simp) (fun t ht => by rw [(List.mem_replicate.1 ht).2]; exact bd_one) rfl (by simp)
  clear hbz hG hrow hfar rc s0
  have m11 := K11
  have HS1 : Hid _ := s1
  clear s1
  have hu := bl_alloc (Below.refl wr.heap.size wr) (.cells #[.int .i64 1, .int .i64 (n1 : Int)] 3)
  replace HB : Hid _ := bl_trans HB.out hu
  replace HTv : Hid _ := HTv.out.below hu
  replace HTa : Hid _ := HTa.out.below hu
  replace HTr : Hid _ := HTr.out.below hu
  replace HTt : Hid _ := HTt.out.below hu
  replace HTu : Hid _ := HTu.out.below hu
  replace K10 := cell_below hu K10
  replace K11 := cell_below hu K11
  replace Kr0 := cell_below hu Kr0
  replace Kr1 := cell_below hu Kr1
  replace Kt0 := cell_below hu Kt0
  replace Kt1 := cell_below hu Kt1
  replace Kp0 := cell_below hu Kp0
  replace Kp1 := cell_below hu Kp1
  replace Ku0 := cell_below hu Ku0
  replace Ku1 := cell_below hu Ku1
  clear hu
  have hmm : Calls Tryz.prog 19 #[.agg #[.slice (some ⟨wr.heap.size, 0, none⟩) 2 2, .slice b1 n1 d1], .agg #[.slice (some ⟨w5.heap.size, 0, none⟩) 2 2, .slice bu n1 du]] (wr.alloc (.cells #[.int .i64 1, .int .i64 (n1 : Int)] 3)) fun e w' => ∃ z, e = .returned z ∧ Nt [((1 : Nat) : Int), ((1 : Nat) : Int)] 2 1 [tot qs] (n1 * (40 + 40 + 1) + 1) w' z ∧ Below (wr.alloc (.cells #[.int .i64 1, .int .i64 (n1 : Int)] 3)).heap.size (wr.alloc (.cells #[.int .i64 1, .int .i64 (n1 : Int)] 3)) w' := by
    have q0 : (wr.alloc (.cells #[.int .i64 1, .int .i64 (n1 : Int)] 3)).cell? ⟨wr.heap.size, 0, none⟩ = some (.int .i64 ((1 : Nat) : Int)) := by simp
    have q1 : (wr.alloc (.cells #[.int .i64 1, .int .i64 (n1 : Int)] 3)).cell? ⟨wr.heap.size, 1, none⟩ = some (.int .i64 (n1 : Int)) := by simp
    have rr := (rgt_two 1 n1).2 (by omega)
    have hq : Tt (wr.alloc (.cells #[.int .i64 1, .int .i64 (n1 : Int)] 3)) 0 (some ⟨wr.heap.size, 0, none⟩) b1 [((1 : Nat) : Int), (n1 : Int)] 2 n1 qs 40 := tt_of ⟨sl_of_two q0 q1, HTa.out.tm.r, fun _ _ _ _ => Nat.zero_le _, fun _ _ _ _ => Nat.zero_le _⟩ rr (by rw [sz_two rr, HLQ.out]; simp) HTa.out.tr.b rfl HLQ.out
    have k := rmm_any wr.heap.size 0 w5.heap.size 0 b1 bu 2 d1 n1 2 du n1 1 n1 1 qs (List.replicate n1 1) (wr.alloc (.cells #[.int .i64 1, .int .i64 (n1 : Int)] 3)) hq HTu.out (by omega) q0 q1 (cell_below (bl_alloc (Below.refl wr.heap.size wr) (.cells #[.int .i64 1, .int .i64 (n1 : Int)] 3)) HS1.out)
    rw [ones_col HLQ.out] at k
    exact k
  clear HS1
  go_wp2_with fail
  refine hmm.mono ?_
  clear hmm
  rintro e w20 ⟨z, rfl, ⟨a9, c9, b9, d9, rfl, h9⟩, hb⟩
  clear m11
  have hu := bl_alloc hb (.cells #[.slice a9 2 c9, .slice b9 1 d9] 25)
  replace HB : Hid _ := bl_trans HB.out hu
  replace HTv : Hid _ := HTv.out.below hu
  replace HTa : Hid _ := HTa.out.below hu
  replace HTr : Hid _ := HTr.out.below hu
  replace HTt : Hid _ := HTt.out.below hu
  replace HTu : Hid _ := HTu.out.below hu
  replace K10 := cell_below hu K10
  replace K11 := cell_below hu K11
  replace Kr0 := cell_below hu Kr0
  replace Kr1 := cell_below hu Kr1
  replace Kt0 := cell_below hu Kt0
  replace Kt1 := cell_below hu Kt1
  replace Kp0 := cell_below hu Kp0
  replace Kp1 := cell_below hu Kp1
  replace Ku0 := cell_below hu Ku0
  replace Ku1 := cell_below hu Ku1
  clear hu
  have HTq : Hid _ := h9.below (bl_alloc (Below.refl w20.heap.size w20) (.cells #[.slice a9 2 c9, .slice b9 1 d9] 25))
  have Kq0 : (w20.alloc (.cells #[.slice a9 2 c9, .slice b9 1 d9] 25)).cell? ⟨w20.heap.size, 0, none⟩ = some (.slice a9 2 c9) := by simp
  have Kq1 : (w20.alloc (.cells #[.slice a9 2 c9, .slice b9 1 d9] 25)).cell? ⟨w20.heap.size, 1, none⟩ = some (.slice b9 1 d9) := by simp
  clear hb h9 HTu Ku0 Ku1
  obtain ⟨b8, o8, e8, x8⟩ := row_str HTt.out.tm.r (i := 0) (by simp)
  obtain ⟨b7, o7, e7, x7⟩ := row_str HTq.out.tm.r (i := 0) (by simp)
  subst e7 e8
  simp only [List.map_cons, List.map_nil, List.getD, List.getElem?_cons_zero, Option.getD_some, Nat.add_zero] at x7 x8
  clear HTq HTt
  go_wp2_with fail
  obtain ⟨C, hC⟩ : ∃ C : World → Prop, C = fun v => Below (w20.alloc (.cells #[.slice a9 2 c9, .slice (some ⟨b7, o7, none⟩) 1 d9] 25)).heap.size (w20.alloc (.cells #[.slice a9 2 c9, .slice (some ⟨b7, o7, none⟩) 1 d9] 25)) v := ⟨_, rfl⟩
  have et0 : ∀ v, C v → v.cell? ⟨w3.heap.size, 0, none⟩ = some (.slice a3' 0 c3') := fun v h => by subst hC; exact cell_below h Kt0
  have et1 : ∀ v, C v → v.cell? ⟨w3.heap.size, 1, none⟩ = some (.slice (some ⟨b8, o8, none⟩) 1 d3') := fun v h => by subst hC; exact cell_below h Kt1
  have eq1 : ∀ v, C v → v.cell? ⟨w20.heap.size, 1, none⟩ = some (.slice (some ⟨b7, o7, none⟩) 1 d9) := fun v h => by subst hC; exact cell_below h Kq1
  have xt : ∀ v, C v → v.cell? ⟨b8, o8, none⟩ = some (.string (R (tot qs))) := fun v h => by subst hC; exact cell_below h x8
  have xq : ∀ v, C v → v.cell? ⟨b7, o7, none⟩ = some (.string (R (tot qs))) := fun v h => by subst hC; exact cell_below h x7
  have cB : ∀ v, C v → Below w.heap.size w v := fun v h => by subst hC; exact bl_trans HB.out h
  have cT : ∀ u v, C u → Below u.heap.size u v → C v := fun u v h k => by subst hC; exact bl_trans h k
  have cI : C (w20.alloc (.cells #[.slice a9 2 c9, .slice (some ⟨b7, o7, none⟩) 1 d9] 25)).drew := by subst hC; exact bl_drew (Below.refl _ _)
  have CC : Hid (∀ v, C v → Below (w20.alloc (.cells #[.slice a9 2 c9, .slice (some ⟨b7, o7, none⟩) 1 d9] 25)).heap.size (w20.alloc (.cells #[.slice a9 2 c9, .slice (some ⟨b7, o7, none⟩) 1 d9] 25)) v) := fun v h => by subst hC; exact h
  clear hC
  refine region_calm C (by kernel_rfl) (by kernel_rfl) cI ?_
  clear cI
  with_reducible refine wpQuiet_step (fun K hK => ?_)
  go_simp
  refine ⟨_, fun v hv => rfl, hK _ ?_⟩
  clear hK K
  with_reducible refine wpQuiet_step (fun K hK => ?_)
  go_simp
  refine ⟨.slice a3' 0 c3', fun v hv => ?_, hK _ ?_⟩
  · simp [et0 v hv]
  clear hK K
  with_reducible refine wpQuiet_step (fun K hK => ?_)
  go_simp
  refine ⟨_, fun v hv => rfl, hK _ ?_⟩
  clear hK K
  with_reducible refine wpQuiet_step (fun K hK => ?_)
  go_simp
  refine ⟨_, fun v hv => rfl, hK _ ?_⟩
  clear hK K
  with_reducible refine wpQuiet_step (fun K hK => ?_)
  go_simp
  refine ⟨_, fun v hv => rfl, hK _ ?_⟩
  clear hK K
  with_reducible refine wpQuiet_step (fun K hK => ?_)
  go_simp
  refine ⟨_, fun v hv => rfl, hK _ ?_⟩
  clear hK K
  with_reducible refine wpQuiet_step (fun K hK => ?_)
  go_simp
  refine ⟨.slice (some ⟨b8, o8, none⟩) 1 d3', fun v hv => ?_, hK _ ?_⟩
  · simp [et1 v hv]
  clear hK K
  with_reducible refine wpQuiet_step (fun K hK => ?_)
  go_simp
  refine ⟨_, fun v hv => rfl, hK _ ?_⟩
  clear hK K
  with_reducible refine wpQuiet_step (fun K hK => ?_)
  go_simp
  refine ⟨_, fun v hv => rfl, hK _ ?_⟩
  clear hK K
  with_reducible refine wpQuiet_step (fun K hK => ?_)
  go_simp
  refine ⟨_, fun v hv => rfl, hK _ ?_⟩
  clear hK K
  with_reducible refine wpQuiet_step (fun K hK => ?_)
  go_simp
  refine ⟨_, fun v hv => rfl, hK _ ?_⟩
  clear hK K
  with_reducible refine wpQuiet_step (fun K hK => ?_)
  go_simp
  refine ⟨_, fun v hv => rfl, hK _ ?_⟩
  clear hK K
  with_reducible refine wpQuiet_step (fun K hK => ?_)
  go_simp
  refine ⟨.slice (some ⟨b8, o8, none⟩) 1 d3', fun v hv => ?_, hK _ ?_⟩
  · simp [et1 v hv]
  clear hK K
  with_reducible refine wpQuiet_step (fun K hK => ?_)
  go_simp
  refine ⟨_, fun v hv => rfl, hK _ ?_⟩
  clear hK K
  with_reducible refine wpQuiet_step (fun K hK => ?_)
  go_simp
  refine ⟨.string (R (tot qs)), fun v hv => ?_, hK _ ?_⟩
  · simp [xt v hv]
  clear hK K
  with_reducible refine wpQuiet_step (fun K hK => ?_)
  go_simp
  refine ⟨_, fun v hv => rfl, hK _ ?_⟩
  clear hK K
  with_reducible refine wpQuiet_step (fun K hK => ?_)
  go_simp
  refine ⟨.slice (some ⟨b7, o7, none⟩) 1 d9, fun v hv => ?_, hK _ ?_⟩
  · simp [eq1 v hv]
  clear hK K
  with_reducible refine wpQuiet_step (fun K hK => ?_)
  go_simp
  refine ⟨_, fun v hv => rfl, hK _ ?_⟩
  clear hK K
  with_reducible refine wpQuiet_step (fun K hK => ?_)
  go_simp
  refine ⟨.string (R (tot qs)), fun v hv => ?_, hK _ ?_⟩
  · simp [xq v hv]
  clear hK K
  with_reducible refine wpQuiet_step (fun K hK => ?_)
  go_simp
  refine ⟨_, fun v hv => rfl, hK _ ?_⟩
  clear hK K
  with_reducible refine wpQuiet_step (fun K hK => ?_)
  go_simp
  refine ⟨_, fun v hv => rfl, hK _ ?_⟩
  clear hK K
  with_reducible refine wpQuiet_step (fun K hK => ?_)
  go_simp
  refine ⟨_, fun v hv => rfl, hK _ ?_⟩
  clear hK K
  with_reducible refine wpQuiet_step (fun K hK => ?_)
  go_simp
  refine ⟨_, fun v hv => rfl, hK _ ?_⟩
  clear hK K
  with_reducible refine wpQuiet_step (fun K hK => ?_)
  go_simp
  refine ⟨_, fun v hv => rfl, hK _ ?_⟩
  clear hK K
  with_reducible refine wpQuiet_step (fun K hK => ?_)
  go_simp
  refine ⟨_, fun v hv => rfl, hK _ ?_⟩
  clear hK K
  refine wpQuiet_nil ?_
  intro w21 C1
  have hb := CC.out _ C1
  clear C1 CC cB cT et0 et1 eq1 xt xq
  have hu := hb
  replace HB : Hid _ := bl_trans HB.out hu
  replace HTv : Hid _ := HTv.out.below hu
  replace HTa : Hid _ := HTa.out.below hu
  replace HTr : Hid _ := HTr.out.below hu
  replace K10 := cell_below hu K10
  replace K11 := cell_below hu K11
  replace Kr0 := cell_below hu Kr0
  replace Kr1 := cell_below hu Kr1
  replace Kt0 := cell_below hu Kt0
  replace Kt1 := cell_below hu Kt1
  replace Kp0 := cell_below hu Kp0
  replace Kp1 := cell_below hu Kp1
  replace Kq0 := cell_below hu Kq0
  replace Kq1 := cell_below hu Kq1
  clear hu
  clear hb
  clear x7 x8
  clear Kt0 Kt1
  clear Kq0 Kq1
  go_wp2_with fail
  refine (hQ _ HB.out).mono ?_
  rintro e w22 ⟨rfl, hb⟩
  have hu := hb
  replace HB : Hid _ := bl_trans HB.out hu
  replace HTv : Hid _ := HTv.out.below hu
  replace HTa : Hid _ := HTa.out.below hu
  replace HTr : Hid _ := HTr.out.below hu
  replace K10 := cell_below hu K10
  replace K11 := cell_below hu K11
  replace Kr0 := cell_below hu Kr0
  replace Kr1 := cell_below hu Kr1
  replace Kp0 := cell_below hu Kp0
  replace Kp1 := cell_below hu Kp1
  clear hu
  clear hb
  go_wp2_with fail
  refine (hZ _ HB.out).mono ?_
  rintro e w23 ⟨rfl, hb⟩
  have hu := hb
  replace HB : Hid _ := bl_trans HB.out hu
  replace HTv : Hid _ := HTv.out.below hu
  replace HTa : Hid _ := HTa.out.below hu
  replace HTr : Hid _ := HTr.out.below hu
  replace K10 := cell_below hu K10
  replace K11 := cell_below hu K11
  replace Kr0 := cell_below hu Kr0
  replace Kr1 := cell_below hu Kr1
  replace Kp0 := cell_below hu Kp0
  replace Kp1 := cell_below hu Kp1
  clear hu
  clear hb
  go_wp2_with fail
  refine (zeq c2' d2' c2 d1 HTr.out HTv.out rfl).mono ?_
  rintro e w24 ⟨rfl, hb⟩
  have hu := hb
  replace HB : Hid _ := bl_trans HB.out hu
  replace HTv : Hid _ := HTv.out.below hu
  replace HTa : Hid _ := HTa.out.below hu
  replace HTr : Hid _ := HTr.out.below hu
  replace K10 := cell_below hu K10
  replace K11 := cell_below hu K11
  replace Kr0 := cell_below hu Kr0
  replace Kr1 := cell_below hu Kr1
  replace Kp0 := cell_below hu Kp0
  replace Kp1 := cell_below hu Kp1
  clear hu
  clear hb
  go_wp2_with fail
  refine (awake_any aF aZ _ (HE.out.below HB.out)).mono ?_
  rintro e w25 ⟨rfl, hb⟩
  have hu := hb
  replace HB : Hid _ := bl_trans HB.out hu
  replace HTv : Hid _ := HTv.out.below hu
  replace HTa : Hid _ := HTa.out.below hu
  replace HTr : Hid _ := HTr.out.below hu
  replace K10 := cell_below hu K10
  replace K11 := cell_below hu K11
  replace Kr0 := cell_below hu Kr0
  replace Kr1 := cell_below hu Kr1
  replace Kp0 := cell_below hu Kp0
  replace Kp1 := cell_below hu Kp1
  clear hu
  clear hb
  go_wp2
  go_ret
  exact ⟨rfl, HB.out⟩
end Go.Proofs.YtbfboippaejnmaaGreatDoor.Tn
