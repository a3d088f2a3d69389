/-
  THE WALK OF TensorSums. Conditions: what the arguments hold.
-/
import Derived.Test.YtfblgaffkflenaaGreatDoorWPowers
namespace Go.Proofs.YtfblgaffkflenaaGreatDoor.Tn
set_option maxRecDepth 100000
open Go.RowKit Nm
set_option linter.unusedVariables false

set_option maxHeartbeats 4000000 in
theorem sums_long1 (a1 b1 : Option Addr) (c1 d1 m1 n1 : Nat) (y : ByteArray) (aF aZ : Addr) (w : World) (hE : Er w aF aZ)
    (hS1 : ∀ v, Below w.heap.size w v → Calls Tryz.prog 12 #[.agg #[.slice a1 m1 c1, .slice b1 n1 d1]] v fun e w' => e = .returned (.bool false) ∧ Below v.heap.size v w') :
    Calls Tryz.prog 7 #[.agg #[.slice a1 m1 c1, .slice b1 n1 d1], .string y] w fun e w' => e = .returned (.bool true) ∧ Below w.heap.size w w' := by
  have HE : Hid _ := hE
  clear hE
  have HB : Hid (Below w.heap.size w w) := Below.refl _ _
  have hu := bl_alloc (Below.refl w.heap.size w) (.cells #[.slice a1 m1 c1, .slice b1 n1 d1] 25)
  replace HB : Hid _ := bl_trans HB.out hu
  clear hu
  have K10 : (w.alloc (.cells #[.slice a1 m1 c1, .slice b1 n1 d1] 25)).cell? ⟨w.heap.size, 0, none⟩ = some (.slice a1 m1 c1) := by first | rw [World.cell?_alloc_at _ _ _ _ (by simp)]; rfl | simp
  have K11 : (w.alloc (.cells #[.slice a1 m1 c1, .slice b1 n1 d1] 25)).cell? ⟨w.heap.size, 1, none⟩ = some (.slice b1 n1 d1) := by first | rw [World.cell?_alloc_at _ _ _ _ (by simp)]; rfl | simp
  go_enter Tryz.func7, Tryz.ntmps7
  go_wp2_with fail
  refine (hS1 _ HB.out).mono ?_
  rintro e w1 ⟨rfl, hb⟩
  have hu := hb
  replace HB : Hid _ := bl_trans HB.out hu
  replace K10 := cell_below hu K10
  replace K11 := cell_below hu K11
  clear hu
  clear hb
  go_wp2_with fail
  refine (awake_any aF aZ _ (HE.out.below HB.out)).mono ?_
  rintro e w2 ⟨rfl, hb⟩
  have hu := hb
  replace HB : Hid _ := bl_trans HB.out hu
  replace K10 := cell_below hu K10
  replace K11 := cell_below hu K11
  clear hu
  clear hb
  go_wp2
  go_ret
  exact ⟨rfl, HB.out⟩

set_option maxHeartbeats 4000000 in
theorem sums_long2 (a1 b1 : Option Addr) (c1 d1 m1 n1 : Nat) (y : ByteArray) (aF aZ : Addr) (w : World) (hE : Er w aF aZ)
    (hS1 : ∀ v, Below w.heap.size w v → Calls Tryz.prog 12 #[.agg #[.slice a1 m1 c1, .slice b1 n1 d1]] v fun e w' => e = .returned (.bool true) ∧ Below v.heap.size v w') (hy : 40 < y.size) :
    Calls Tryz.prog 7 #[.agg #[.slice a1 m1 c1, .slice b1 n1 d1], .string y] w fun e w' => e = .returned (.bool true) ∧ Below w.heap.size w w' := by
  have HE : Hid _ := hE
  clear hE
  have HB : Hid (Below w.heap.size w w) := Below.refl _ _
  have hu := bl_alloc (Below.refl w.heap.size w) (.cells #[.slice a1 m1 c1, .slice b1 n1 d1] 25)
  replace HB : Hid _ := bl_trans HB.out hu
  clear hu
  have K10 : (w.alloc (.cells #[.slice a1 m1 c1, .slice b1 n1 d1] 25)).cell? ⟨w.heap.size, 0, none⟩ = some (.slice a1 m1 c1) := by first | rw [World.cell?_alloc_at _ _ _ _ (by simp)]; rfl | simp
  have K11 : (w.alloc (.cells #[.slice a1 m1 c1, .slice b1 n1 d1] 25)).cell? ⟨w.heap.size, 1, none⟩ = some (.slice b1 n1 d1) := by first | rw [World.cell?_alloc_at _ _ _ _ (by simp)]; rfl | simp
  go_enter Tryz.func7, Tryz.ntmps7
  go_wp2_with fail
  refine (hS1 _ HB.out).mono ?_
  rintro e w1 ⟨rfl, hb⟩
  have hu := hb
  replace HB : Hid _ := bl_trans HB.out hu
  replace K10 := cell_below hu K10
  replace K11 := cell_below hu K11
  clear hu
  clear hb
  go_wp2_with fail
  refine (awake_any aF aZ _ (HE.out.below HB.out)).mono ?_
  rintro e w2 ⟨rfl, hb⟩
  have hu := hb
  replace HB : Hid _ := bl_trans HB.out hu
  replace K10 := cell_below hu K10
  replace K11 := cell_below hu K11
  clear hu
  clear hb
  go_wp2
  go_ret
  exact ⟨rfl, HB.out⟩

set_option maxHeartbeats 4000000 in
theorem sums_bad (a1 b1 : Option Addr) (c1 d1 m1 n1 : Nat) (y : ByteArray) (aF aZ : Addr) (w : World) (hE : Er w aF aZ)
    (hS1 : ∀ v, Below w.heap.size w v → Calls Tryz.prog 12 #[.agg #[.slice a1 m1 c1, .slice b1 n1 d1]] v fun e w' => e = .returned (.bool true) ∧ Below v.heap.size v w')
    (hR1 : ∀ v, Below w.heap.size w v → Calls Tryz.prog 15 #[.agg #[.slice a1 m1 c1, .slice b1 n1 d1]] v fun e w' => e = .returned (.bool false) ∧ Below v.heap.size v w') (hy : ¬ 40 < y.size) :
    Calls Tryz.prog 7 #[.agg #[.slice a1 m1 c1, .slice b1 n1 d1], .string y] w fun e w' => e = .returned (.bool true) ∧ Below w.heap.size w w' := by
  have HE : Hid _ := hE
  clear hE
  have HB : Hid (Below w.heap.size w w) := Below.refl _ _
  have hu := bl_alloc (Below.refl w.heap.size w) (.cells #[.slice a1 m1 c1, .slice b1 n1 d1] 25)
  replace HB : Hid _ := bl_trans HB.out hu
  clear hu
  have K10 : (w.alloc (.cells #[.slice a1 m1 c1, .slice b1 n1 d1] 25)).cell? ⟨w.heap.size, 0, none⟩ = some (.slice a1 m1 c1) := by first | rw [World.cell?_alloc_at _ _ _ _ (by simp)]; rfl | simp
  have K11 : (w.alloc (.cells #[.slice a1 m1 c1, .slice b1 n1 d1] 25)).cell? ⟨w.heap.size, 1, none⟩ = some (.slice b1 n1 d1) := by first | rw [World.cell?_alloc_at _ _ _ _ (by simp)]; rfl | simp
  go_enter Tryz.func7, Tryz.ntmps7
  go_wp2_with fail
  refine (hS1 _ HB.out).mono ?_
  rintro e w1 ⟨rfl, hb⟩
  have hu := hb
  replace HB : Hid _ := bl_trans HB.out hu
  replace K10 := cell_below hu K10
  replace K11 := cell_below hu K11
  clear hu
  clear hb
  go_wp2_with fail
  refine (hR1 _ HB.out).mono ?_
  rintro e w2 ⟨rfl, hb⟩
  have hu := hb
  replace HB : Hid _ := bl_trans HB.out hu
  replace K10 := cell_below hu K10
  replace K11 := cell_below hu K11
  clear hu
  clear hb
  go_wp2_with fail
  refine (awake_any aF aZ _ (HE.out.below HB.out)).mono ?_
  rintro e w3 ⟨rfl, hb⟩
  have hu := hb
  replace HB : Hid _ := bl_trans HB.out hu
  replace K10 := cell_below hu K10
  replace K11 := cell_below hu K11
  clear hu
  clear hb
  go_wp2
  go_ret
  exact ⟨rfl, HB.out⟩

set_option maxHeartbeats 4000000 in
theorem sums_no (a1 b1 : Option Addr) (c1 d1 m1 n1 : Nat) (y : ByteArray) (aF aZ : Addr) (w : World) (hE : Er w aF aZ)
    (hS1 : ∀ v, Below w.heap.size w v → Calls Tryz.prog 12 #[.agg #[.slice a1 m1 c1, .slice b1 n1 d1]] v fun e w' => e = .returned (.bool true) ∧ Below v.heap.size v w')
    (hR1 : ∀ v, Below w.heap.size w v → Calls Tryz.prog 15 #[.agg #[.slice a1 m1 c1, .slice b1 n1 d1]] v fun e w' => e = .returned (.bool true) ∧ Below v.heap.size v w')
    (hZ : ∀ v, Below w.heap.size w v → Calls Tryz.prog 20 #[.agg #[.slice a1 m1 c1, .slice b1 n1 d1], .string y] v fun e w' => e = .returned (noTensor 1) ∧ Below v.heap.size v w') (hy : ¬ 40 < y.size) :
    Calls Tryz.prog 7 #[.agg #[.slice a1 m1 c1, .slice b1 n1 d1], .string y] w fun e w' => e = .returned (.bool true) ∧ Below w.heap.size w w' := by
  have HE : Hid _ := hE
  clear hE
  have HB : Hid (Below w.heap.size w w) := Below.refl _ _
  have hu := bl_alloc (Below.refl w.heap.size w) (.cells #[.slice a1 m1 c1, .slice b1 n1 d1] 25)
  replace HB : Hid _ := bl_trans HB.out hu
  clear hu
  have K10 : (w.alloc (.cells #[.slice a1 m1 c1, .slice b1 n1 d1] 25)).cell? ⟨w.heap.size, 0, none⟩ = some (.slice a1 m1 c1) := by first | rw [World.cell?_alloc_at _ _ _ _ (by simp)]; rfl | simp
  have K11 : (w.alloc (.cells #[.slice a1 m1 c1, .slice b1 n1 d1] 25)).cell? ⟨w.heap.size, 1, none⟩ = some (.slice b1 n1 d1) := by first | rw [World.cell?_alloc_at _ _ _ _ (by simp)]; rfl | simp
  go_enter Tryz.func7, Tryz.ntmps7
  go_wp2_with fail
  refine (hS1 _ HB.out).mono ?_
  rintro e w1 ⟨rfl, hb⟩
  have hu := hb
  replace HB : Hid _ := bl_trans HB.out hu
  replace K10 := cell_below hu K10
  replace K11 := cell_below hu K11
  clear hu
  clear hb
  go_wp2_with fail
  refine (hR1 _ HB.out).mono ?_
  rintro e w2 ⟨rfl, hb⟩
  have hu := hb
  replace HB : Hid _ := bl_trans HB.out hu
  replace K10 := cell_below hu K10
  replace K11 := cell_below hu K11
  clear hu
  clear hb
  go_wp2_with fail
  refine (hZ _ HB.out).mono ?_
  rintro e w3 ⟨rfl, hb⟩
  have hu := bl_alloc hb (.cells #[.slice none 0 0, .slice none 0 0] 25)
  replace HB : Hid _ := bl_trans HB.out hu
  replace K10 := cell_below hu K10
  replace K11 := cell_below hu K11
  clear hu
  have Kt0 : (w3.alloc (.cells #[.slice none 0 0, .slice none 0 0] 25)).cell? ⟨w3.heap.size, 0, none⟩ = some (.slice none 0 0) := by simp
  have Kt1 : (w3.alloc (.cells #[.slice none 0 0, .slice none 0 0] 25)).cell? ⟨w3.heap.size, 1, none⟩ = some (.slice none 0 0) := by simp
  clear hb
  go_wp2_with fail
  refine (awake_any aF aZ _ (HE.out.below HB.out)).mono ?_
  rintro e w4 ⟨rfl, hb⟩
  have hu := hb
  replace HB : Hid _ := bl_trans HB.out hu
  replace K10 := cell_below hu K10
  replace K11 := cell_below hu K11
  replace Kt0 := cell_below hu Kt0
  replace Kt1 := cell_below hu Kt1
  clear hu
  clear hb
  go_wp2
  go_ret
  exact ⟨rfl, HB.out⟩

set_option maxHeartbeats 4000000 in
theorem sums_good (a1 b1 : Option Addr) (c1 d1 m1 n1 : Nat) (zs : List Int) (qs : List Rat) (y : Rat) (aF aZ : Addr) (w : World) (hE : Er w aF aZ)
    (hS1 : ∀ v, Below w.heap.size w v → Calls Tryz.prog 12 #[.agg #[.slice a1 m1 c1, .slice b1 n1 d1]] v fun e w' => e = .returned (.bool true) ∧ Below v.heap.size v w') (hT : Tt w 0 a1 b1 zs m1 n1 qs 40) (hy : Bd y 40) (hys : ¬ 40 < (R y).size) :
    Calls Tryz.prog 7 #[.agg #[.slice a1 m1 c1, .slice b1 n1 d1], .string (R y)] w fun e w' => e = .returned (.bool true) ∧ Below w.heap.size w w' := by
  have HE : Hid _ := hE
  clear hE
  have HB : Hid (Below w.heap.size w w) := Below.refl _ _
  have hle := hT.le
  have hq := hT.tr.b
  have HQ : Hid (Bd (tot qs) 2625) := (Bd.tot hq).mono (by have h1 := hT.hn; have h2 : qs.length * (40 + 1) ≤ 64 * (40 + 1) := Nat.mul_le_mul_right _ (by omega); omega)
  clear hq
  have HTa : Hid _ := hT
  clear hT
  have hu := bl_alloc (Below.refl w.heap.size w) (.cells #[.slice a1 m1 c1, .slice b1 n1 d1] 25)
  replace HB : Hid _ := bl_trans HB.out hu
  replace HTa : Hid _ := HTa.out.below hu
  clear hu
  have K10 : (w.alloc (.cells #[.slice a1 m1 c1, .slice b1 n1 d1] 25)).cell? ⟨w.heap.size, 0, none⟩ = some (.slice a1 m1 c1) := by first | rw [World.cell?_alloc_at _ _ _ _ (by simp)]; rfl | simp
  have K11 : (w.alloc (.cells #[.slice a1 m1 c1, .slice b1 n1 d1] 25)).cell? ⟨w.heap.size, 1, none⟩ = some (.slice b1 n1 d1) := by first | rw [World.cell?_alloc_at _ _ _ _ (by simp)]; rfl | simp
  obtain ⟨Y, hY⟩ : ∃ Y, R y = Y := ⟨_, rfl⟩
  have HY : Hid _ := hY
  rw [hY] at hys ⊢
  clear hY
  go_enter Tryz.func7, Tryz.ntmps7
  go_wp2_with fail
  refine (hS1 _ HB.out).mono ?_
  rintro e w1 ⟨rfl, hb⟩
  have hu := hb
  replace HB : Hid _ := bl_trans HB.out hu
  replace HTa : Hid _ := HTa.out.below hu
  replace K10 := cell_below hu K10
  replace K11 := cell_below hu K11
  clear hu
  clear hb
  go_wp2_with fail
  refine (zright c1 d1 (HE.out.below HB.out) HTa.out (by omega)).mono ?_
  rintro e w2 ⟨rfl, hb⟩
  have hu := hb
  replace HB : Hid _ := bl_trans HB.out hu
  replace HTa : Hid _ := HTa.out.below hu
  replace K10 := cell_below hu K10
  replace K11 := cell_below hu K11
  clear hu
  clear hb
  have hk := zscale c1 d1 (HE.out.below HB.out) HTa.out y hy (by omega)
  rw [HY.out] at hk
  go_wp2_with fail
  refine (hk).mono ?_
  rintro e w3 ⟨a3', c3', b3', d3', rfl, hT, hb⟩
  have hu := bl_alloc hb (.cells #[.slice a3' m1 c3', .slice b3' n1 d3'] 25)
  replace HB : Hid _ := bl_trans HB.out hu
  replace HTa : Hid _ := HTa.out.below hu
  replace K10 := cell_below hu K10
  replace K11 := cell_below hu K11
  clear hu
  have HTt : Hid _ := hT.below (bl_alloc (Below.refl w3.heap.size w3) (.cells #[.slice a3' m1 c3', .slice b3' n1 d3'] 25))
  have Kt0 : (w3.alloc (.cells #[.slice a3' m1 c3', .slice b3' n1 d3'] 25)).cell? ⟨w3.heap.size, 0, none⟩ = some (.slice a3' m1 c3') := by simp
  have Kt1 : (w3.alloc (.cells #[.slice a3' m1 c3', .slice b3' n1 d3'] 25)).cell? ⟨w3.heap.size, 1, none⟩ = some (.slice b3' n1 d3') := by simp
  clear hb hT
  clear hk
  have hk := zsum c3' d3' (HE.out.below HB.out) HTt.out (by omega)
  rw [tot_times] at hk
  go_wp2_with fail
  refine (hk).mono ?_
  rintro e w4 ⟨rfl, hb⟩
  have hu := hb
  replace HB : Hid _ := bl_trans HB.out hu
  replace HTa : Hid _ := HTa.out.below hu
  replace HTt : Hid _ := HTt.out.below hu
  replace K10 := cell_below hu K10
  replace K11 := cell_below hu K11
  replace Kt0 := cell_below hu Kt0
  replace Kt1 := cell_below hu Kt1
  clear hu
  clear hb
  clear hk
  go_wp2_with fail
  refine (zsum c1 d1 (HE.out.below HB.out) HTa.out (by omega)).mono ?_
  rintro e w5 ⟨rfl, hb⟩
  have hu := hb
  replace HB : Hid _ := bl_trans HB.out hu
  replace HTa : Hid _ := HTa.out.below hu
  replace HTt : Hid _ := HTt.out.below hu
  replace K10 := cell_below hu K10
  replace K11 := cell_below hu K11
  replace Kt0 := cell_below hu Kt0
  replace Kt1 := cell_below hu Kt1
  clear hu
  clear hb
  have hu := bl_alloc (Below.refl w5.heap.size w5) (.cells #[.string (R (tot qs))] 9)
  replace HB : Hid _ := bl_trans HB.out hu
  replace HTa : Hid _ := HTa.out.below hu
  replace HTt : Hid _ := HTt.out.below hu
  replace K10 := cell_below hu K10
  replace K11 := cell_below hu K11
  replace Kt0 := cell_below hu Kt0
  replace Kt1 := cell_below hu Kt1
  clear hu
  have Ku0 : (w5.alloc (.cells #[.string (R (tot qs))] 9)).cell? ⟨w5.heap.size, 0, none⟩ = some (.string (R (tot qs))) := by first | rw [World.cell?_alloc_at _ _ _ _ (by simp)]; rfl | simp
  have HTu : Hid _ := Tt.one (B := 0) Ku0 (Nat.zero_le _) HQ.out
  have hk := zscale 0 1 (HE.out.below HB.out) HTu.out y hy (by omega)
  rw [HY.out] at hk
  go_wp2_with fail
  refine (hk).mono ?_
  rintro e w6 ⟨a6', c6', b6', d6', rfl, hT, hb⟩
  have hu := bl_alloc hb (.cells #[.slice a6' 0 c6', .slice b6' 1 d6'] 25)
  replace HB : Hid _ := bl_trans HB.out hu
  replace HTa : Hid _ := HTa.out.below hu
  replace HTt : Hid _ := HTt.out.below hu
  replace HTu : Hid _ := HTu.out.below hu
  replace K10 := cell_below hu K10
  replace K11 := cell_below hu K11
  replace Kt0 := cell_below hu Kt0
  replace Kt1 := cell_below hu Kt1
  replace Ku0 := cell_below hu Ku0
  clear hu
  have HTv : Hid _ := hT.below (bl_alloc (Below.refl w6.heap.size w6) (.cells #[.slice a6' 0 c6', .slice b6' 1 d6'] 25))
  have Kv0 : (w6.alloc (.cells #[.slice a6' 0 c6', .slice b6' 1 d6'] 25)).cell? ⟨w6.heap.size, 0, none⟩ = some (.slice a6' 0 c6') := by simp
  have Kv1 : (w6.alloc (.cells #[.slice a6' 0 c6', .slice b6' 1 d6'] 25)).cell? ⟨w6.heap.size, 1, none⟩ = some (.slice b6' 1 d6') := by simp
  clear hb hT
  clear hk
  obtain ⟨p, q, eb, hc⟩ := row_str HTv.out.tm.r (i := 0) (by simp)
  simp only [List.map_cons, List.map_nil, List.getD, List.getElem?_cons_zero, Option.getD_some, Nat.add_zero] at hc
  have HC : Hid _ := hc
  subst eb
  go_wp2_with fail
  refine (awake_any aF aZ _ (HE.out.below HB.out)).mono ?_
  rintro e w7 ⟨rfl, hb⟩
  have hu := hb
  replace HB : Hid _ := bl_trans HB.out hu
  replace HTa : Hid _ := HTa.out.below hu
  replace HTt : Hid _ := HTt.out.below hu
  replace HTu : Hid _ := HTu.out.below hu
  replace HTv : Hid _ := HTv.out.below hu
  replace K10 := cell_below hu K10
  replace K11 := cell_below hu K11
  replace Kt0 := cell_below hu Kt0
  replace Kt1 := cell_below hu Kt1
  replace Ku0 := cell_below hu Ku0
  replace Kv0 := cell_below hu Kv0
  replace Kv1 := cell_below hu Kv1
  clear hu
  clear hb
  go_wp2
  go_ret
  exact ⟨rfl, HB.out⟩
end Go.Proofs.YtfblgaffkflenaaGreatDoor.Tn
