/-
  THE WALK OF TensorPowers. Conditions: what the argument holds.
-/
import Derived.Test.YtfblgaffkflenaaGreatDoorTw
namespace Go.Proofs.YtfblgaffkflenaaGreatDoor.Tn
set_option maxRecDepth 100000
open Go.RowKit Nm
set_option linter.unusedVariables false

theorem l0 : R 0 = ⟨#[48]⟩ := by decide +kernel
theorem l1 : R 1 = ⟨#[49]⟩ := by decide +kernel
theorem lm1 : R (-1) = ⟨#[45, 49]⟩ := by decide +kernel
theorem bd0 : Bd 0 1 := by constructor <;> decide +kernel
theorem bd1 : Bd 1 1 := by constructor <;> decide +kernel
theorem bdm1 : Bd (-1) 1 := by constructor <;> decide +kernel
theorem pow_one' (l : List Rat) : l.map (· ^ 1) = l := by
  induction l with
  | nil => rfl
  | cons a l ih => simp only [List.map_cons, ih]; congr 1; grind
theorem pow_none (l : List Rat) : l.map (· ^ 0) = List.replicate l.length 1 := by
  induction l with
  | nil => rfl
  | cons a l ih => simp only [List.map_cons, List.length_cons, List.replicate_succ, ih]; congr 1; grind
theorem no_empty : tn [] [] = false := by decide +kernel
theorem Ta.empty (w : World) : Ta w 0 none none [] [] := ⟨⟨Sp.Sl.nil _ _, Row.nil _ _, (fun _ _ _ e => by cases e), (fun _ _ _ e => by cases e)⟩, by simp, by simp, by simp⟩

set_option maxHeartbeats 4000000 in
theorem powers_long (a1 b1 : Option Addr) (c1 d1 m1 n1 : Nat) (aF aZ : Addr) (w : World) (hE : Er w aF aZ)
    (hS1 : ∀ v, Below w.heap.size w v → Calls Tryz.prog 12 #[.agg #[.slice a1 m1 c1, .slice b1 n1 d1]] v fun e w' => e = .returned (.bool false) ∧ Below v.heap.size v w') :
    Calls Tryz.prog 6 #[.agg #[.slice a1 m1 c1, .slice b1 n1 d1]] w fun e w' => e = .returned (.bool true) ∧ Below w.heap.size w w' := by
  have HE : Hid _ := hE
  clear hE
  have HB : Hid (Below w.heap.size w w) := Below.refl _ _
  have hu := bl_alloc (Below.refl w.heap.size w) (.cells #[.slice a1 m1 c1, .slice b1 n1 d1] 25)
  replace HB : Hid _ := bl_trans HB.out hu
  clear hu
  have K10 : (w.alloc (.cells #[.slice a1 m1 c1, .slice b1 n1 d1] 25)).cell? ⟨w.heap.size, 0, none⟩ = some (.slice a1 m1 c1) := by first | rw [World.cell?_alloc_at _ _ _ _ (by simp)]; rfl | simp
  have K11 : (w.alloc (.cells #[.slice a1 m1 c1, .slice b1 n1 d1] 25)).cell? ⟨w.heap.size, 1, none⟩ = some (.slice b1 n1 d1) := by first | rw [World.cell?_alloc_at _ _ _ _ (by simp)]; rfl | simp
  go_enter Tryz.func6, Tryz.ntmps6
  go_wp2_with fail
  refine (hS1 _ HB.out).mono ?_
  rintro e w1 ⟨rfl, hb⟩
  have hu := hb
  replace HB : Hid _ := bl_trans HB.out hu
  replace K10 := cell_below hu K10
  replace K11 := cell_below hu K11
  clear hu
  clear hb
  go_wp2_with fail
  refine (awake_any aF aZ _ (HE.out.below HB.out)).mono ?_
  rintro e w2 ⟨rfl, hb⟩
  have hu := hb
  replace HB : Hid _ := bl_trans HB.out hu
  replace K10 := cell_below hu K10
  replace K11 := cell_below hu K11
  clear hu
  clear hb
  go_wp2
  go_ret
  exact ⟨rfl, HB.out⟩

set_option maxHeartbeats 4000000 in
theorem powers_bad (a1 b1 : Option Addr) (c1 d1 m1 n1 : Nat) (aF aZ : Addr) (w : World) (hE : Er w aF aZ)
    (hS1 : ∀ v, Below w.heap.size w v → Calls Tryz.prog 12 #[.agg #[.slice a1 m1 c1, .slice b1 n1 d1]] v fun e w' => e = .returned (.bool true) ∧ Below v.heap.size v w')
    (hR1 : ∀ v, Below w.heap.size w v → Calls Tryz.prog 15 #[.agg #[.slice a1 m1 c1, .slice b1 n1 d1]] v fun e w' => e = .returned (.bool false) ∧ Below v.heap.size v w') :
    Calls Tryz.prog 6 #[.agg #[.slice a1 m1 c1, .slice b1 n1 d1]] w fun e w' => e = .returned (.bool true) ∧ Below w.heap.size w w' := by
  have HE : Hid _ := hE
  clear hE
  have HB : Hid (Below w.heap.size w w) := Below.refl _ _
  have hu := bl_alloc (Below.refl w.heap.size w) (.cells #[.slice a1 m1 c1, .slice b1 n1 d1] 25)
  replace HB : Hid _ := bl_trans HB.out hu
  clear hu
  have K10 : (w.alloc (.cells #[.slice a1 m1 c1, .slice b1 n1 d1] 25)).cell? ⟨w.heap.size, 0, none⟩ = some (.slice a1 m1 c1) := by first | rw [World.cell?_alloc_at _ _ _ _ (by simp)]; rfl | simp
  have K11 : (w.alloc (.cells #[.slice a1 m1 c1, .slice b1 n1 d1] 25)).cell? ⟨w.heap.size, 1, none⟩ = some (.slice b1 n1 d1) := by first | rw [World.cell?_alloc_at _ _ _ _ (by simp)]; rfl | simp
  go_enter Tryz.func6, Tryz.ntmps6
  go_wp2_with fail
  refine (hS1 _ HB.out).mono ?_
  rintro e w1 ⟨rfl, hb⟩
  have hu := hb
  replace HB : Hid _ := bl_trans HB.out hu
  replace K10 := cell_below hu K10
  replace K11 := cell_below hu K11
  clear hu
  clear hb
  go_wp2_with fail
  refine (hR1 _ HB.out).mono ?_
  rintro e w2 ⟨rfl, hb⟩
  have hu := hb
  replace HB : Hid _ := bl_trans HB.out hu
  replace K10 := cell_below hu K10
  replace K11 := cell_below hu K11
  clear hu
  clear hb
  go_wp2_with fail
  refine (awake_any aF aZ _ (HE.out.below HB.out)).mono ?_
  rintro e w3 ⟨rfl, hb⟩
  have hu := hb
  replace HB : Hid _ := bl_trans HB.out hu
  replace K10 := cell_below hu K10
  replace K11 := cell_below hu K11
  clear hu
  clear hb
  go_wp2
  go_ret
  exact ⟨rfl, HB.out⟩

set_option maxHeartbeats 4000000 in
theorem powers_good (a1 b1 : Option Addr) (c1 d1 m1 n1 : Nat) (zs : List Int) (qs : List Rat) (aF aZ : Addr) (w : World) (hE : Er w aF aZ)
    (hS1 : ∀ v, Below w.heap.size w v → Calls Tryz.prog 12 #[.agg #[.slice a1 m1 c1, .slice b1 n1 d1]] v fun e w' => e = .returned (.bool true) ∧ Below v.heap.size v w') (hT : Tt w 0 a1 b1 zs m1 n1 qs 40) :
    Calls Tryz.prog 6 #[.agg #[.slice a1 m1 c1, .slice b1 n1 d1]] w fun e w' => e = .returned (.bool true) ∧ Below w.heap.size w w' := by
  have HE : Hid _ := hE
  clear hE
  have HB : Hid (Below w.heap.size w w) := Below.refl _ _
  have hle := hT.le
  have HTa : Hid _ := hT
  clear hT
  have hu := bl_alloc (Below.refl w.heap.size w) (.cells #[.slice a1 m1 c1, .slice b1 n1 d1] 25)
  replace HB : Hid _ := bl_trans HB.out hu
  replace HTa : Hid _ := HTa.out.below hu
  clear hu
  have K10 : (w.alloc (.cells #[.slice a1 m1 c1, .slice b1 n1 d1] 25)).cell? ⟨w.heap.size, 0, none⟩ = some (.slice a1 m1 c1) := by first | rw [World.cell?_alloc_at _ _ _ _ (by simp)]; rfl | simp
  have K11 : (w.alloc (.cells #[.slice a1 m1 c1, .slice b1 n1 d1] 25)).cell? ⟨w.heap.size, 1, none⟩ = some (.slice b1 n1 d1) := by first | rw [World.cell?_alloc_at _ _ _ _ (by simp)]; rfl | simp
  go_enter Tryz.func6, Tryz.ntmps6
  go_wp2_with fail
  refine (hS1 _ HB.out).mono ?_
  rintro e w1 ⟨rfl, hb⟩
  have hu := hb
  replace HB : Hid _ := bl_trans HB.out hu
  replace HTa : Hid _ := HTa.out.below hu
  replace K10 := cell_below hu K10
  replace K11 := cell_below hu K11
  clear hu
  clear hb
  go_wp2_with fail
  refine (zright c1 d1 (HE.out.below HB.out) HTa.out (by omega)).mono ?_
  rintro e w2 ⟨rfl, hb⟩
  have hu := hb
  replace HB : Hid _ := bl_trans HB.out hu
  replace HTa : Hid _ := HTa.out.below hu
  replace K10 := cell_below hu K10
  replace K11 := cell_below hu K11
  clear hu
  clear hb
  go_wp2_with fail
  refine (zpow c1 d1 1 (HE.out.below HB.out) HTa.out (by omega) (by omega) (by omega)).mono ?_
  rintro e w3 ⟨a3', c3', b3', d3', rfl, hT, hb⟩
  have hu := bl_alloc hb (.cells #[.slice a3' m1 c3', .slice b3' n1 d3'] 25)
  replace HB : Hid _ := bl_trans HB.out hu
  replace HTa : Hid _ := HTa.out.below hu
  replace K10 := cell_below hu K10
  replace K11 := cell_below hu K11
  clear hu
  have HTo : Hid _ := hT.below (bl_alloc (Below.refl w3.heap.size w3) (.cells #[.slice a3' m1 c3', .slice b3' n1 d3'] 25))
  have Ko0 : (w3.alloc (.cells #[.slice a3' m1 c3', .slice b3' n1 d3'] 25)).cell? ⟨w3.heap.size, 0, none⟩ = some (.slice a3' m1 c3') := by simp
  have Ko1 : (w3.alloc (.cells #[.slice a3' m1 c3', .slice b3' n1 d3'] 25)).cell? ⟨w3.heap.size, 1, none⟩ = some (.slice b3' n1 d3') := by simp
  clear hb hT
  go_wp2_with fail
  refine (zpow c1 d1 0 (HE.out.below HB.out) HTa.out (by omega) (by omega) (by omega)).mono ?_
  rintro e w4 ⟨a4', c4', b4', d4', rfl, hT, hb⟩
  have hu := bl_alloc hb (.cells #[.slice a4' m1 c4', .slice b4' n1 d4'] 25)
  replace HB : Hid _ := bl_trans HB.out hu
  replace HTa : Hid _ := HTa.out.below hu
  replace HTo : Hid _ := HTo.out.below hu
  replace K10 := cell_below hu K10
  replace K11 := cell_below hu K11
  replace Ko0 := cell_below hu Ko0
  replace Ko1 := cell_below hu Ko1
  clear hu
  have HTn : Hid _ := hT.below (bl_alloc (Below.refl w4.heap.size w4) (.cells #[.slice a4' m1 c4', .slice b4' n1 d4'] 25))
  have Kn0 : (w4.alloc (.cells #[.slice a4' m1 c4', .slice b4' n1 d4'] 25)).cell? ⟨w4.heap.size, 0, none⟩ = some (.slice a4' m1 c4') := by simp
  have Kn1 : (w4.alloc (.cells #[.slice a4' m1 c4', .slice b4' n1 d4'] 25)).cell? ⟨w4.heap.size, 1, none⟩ = some (.slice b4' n1 d4') := by simp
  clear hb hT
  go_wp2_with fail
  refine (zpow c1 d1 2 (HE.out.below HB.out) HTa.out (by omega) (by omega) (by omega)).mono ?_
  rintro e w5 ⟨a5', c5', b5', d5', rfl, hT, hb⟩
  have hu := bl_alloc hb (.cells #[.slice a5' m1 c5', .slice b5' n1 d5'] 25)
  replace HB : Hid _ := bl_trans HB.out hu
  replace HTa : Hid _ := HTa.out.below hu
  replace HTo : Hid _ := HTo.out.below hu
  replace HTn : Hid _ := HTn.out.below hu
  replace K10 := cell_below hu K10
  replace K11 := cell_below hu K11
  replace Ko0 := cell_below hu Ko0
  replace Ko1 := cell_below hu Ko1
  replace Kn0 := cell_below hu Kn0
  replace Kn1 := cell_below hu Kn1
  clear hu
  have HTt : Hid _ := hT.below (bl_alloc (Below.refl w5.heap.size w5) (.cells #[.slice a5' m1 c5', .slice b5' n1 d5'] 25))
  have Kt0 : (w5.alloc (.cells #[.slice a5' m1 c5', .slice b5' n1 d5'] 25)).cell? ⟨w5.heap.size, 0, none⟩ = some (.slice a5' m1 c5') := by simp
  have Kt1 : (w5.alloc (.cells #[.slice a5' m1 c5', .slice b5' n1 d5'] 25)).cell? ⟨w5.heap.size, 1, none⟩ = some (.slice b5' n1 d5') := by simp
  clear hb hT
  go_wp2_with fail
  refine (zmul c1 d1 c1 d1 (HE.out.below HB.out) HTa.out HTa.out (by omega)).mono ?_
  rintro e w6 ⟨a6', c6', b6', d6', rfl, hT, hb⟩
  have hu := bl_alloc hb (.cells #[.slice a6' m1 c6', .slice b6' n1 d6'] 25)
  replace HB : Hid _ := bl_trans HB.out hu
  replace HTa : Hid _ := HTa.out.below hu
  replace HTo : Hid _ := HTo.out.below hu
  replace HTn : Hid _ := HTn.out.below hu
  replace HTt : Hid _ := HTt.out.below hu
  replace K10 := cell_below hu K10
  replace K11 := cell_below hu K11
  replace Ko0 := cell_below hu Ko0
  replace Ko1 := cell_below hu Ko1
  replace Kn0 := cell_below hu Kn0
  replace Kn1 := cell_below hu Kn1
  replace Kt0 := cell_below hu Kt0
  replace Kt1 := cell_below hu Kt1
  clear hu
  have HTs : Hid _ := hT.below (bl_alloc (Below.refl w6.heap.size w6) (.cells #[.slice a6' m1 c6', .slice b6' n1 d6'] 25))
  have Ks0 : (w6.alloc (.cells #[.slice a6' m1 c6', .slice b6' n1 d6'] 25)).cell? ⟨w6.heap.size, 0, none⟩ = some (.slice a6' m1 c6') := by simp
  have Ks1 : (w6.alloc (.cells #[.slice a6' m1 c6', .slice b6' n1 d6'] 25)).cell? ⟨w6.heap.size, 1, none⟩ = some (.slice b6' n1 d6') := by simp
  clear hb hT
  have hk := zscale c1 d1 (HE.out.below HB.out) HTa.out 0 bd0 (by omega)
  rw [l0] at hk
  go_wp2_with fail
  refine (hk).mono ?_
  rintro e w7 ⟨a7', c7', b7', d7', rfl, hT, hb⟩
  have hu := bl_alloc hb (.cells #[.slice a7' m1 c7', .slice b7' n1 d7'] 25)
  replace HB : Hid _ := bl_trans HB.out hu
  replace HTa : Hid _ := HTa.out.below hu
  replace HTo : Hid _ := HTo.out.below hu
  replace HTn : Hid _ := HTn.out.below hu
  replace HTt : Hid _ := HTt.out.below hu
  replace HTs : Hid _ := HTs.out.below hu
  replace K10 := cell_below hu K10
  replace K11 := cell_below hu K11
  replace Ko0 := cell_below hu Ko0
  replace Ko1 := cell_below hu Ko1
  replace Kn0 := cell_below hu Kn0
  replace Kn1 := cell_below hu Kn1
  replace Kt0 := cell_below hu Kt0
  replace Kt1 := cell_below hu Kt1
  replace Ks0 := cell_below hu Ks0
  replace Ks1 := cell_below hu Ks1
  clear hu
  have HTz : Hid _ := hT.below (bl_alloc (Below.refl w7.heap.size w7) (.cells #[.slice a7' m1 c7', .slice b7' n1 d7'] 25))
  have Kz0 : (w7.alloc (.cells #[.slice a7' m1 c7', .slice b7' n1 d7'] 25)).cell? ⟨w7.heap.size, 0, none⟩ = some (.slice a7' m1 c7') := by simp
  have Kz1 : (w7.alloc (.cells #[.slice a7' m1 c7', .slice b7' n1 d7'] 25)).cell? ⟨w7.heap.size, 1, none⟩ = some (.slice b7' n1 d7') := by simp
  clear hb hT
  clear hk
  have hk := zfill c1 (HE.out.below HB.out) HTa.out.tm.s HTa.out.tr.r HTa.out.hm (HTa.out.tr.l.symm.trans HTa.out.hn) 1 bd1 (by omega)
  rw [l1] at hk
  go_wp2_with fail
  refine (hk).mono ?_
  rintro e w8 ⟨a8', c8', b8', d8', rfl, hT, hb⟩
  have hu := bl_alloc hb (.cells #[.slice a8' m1 c8', .slice b8' n1 d8'] 25)
  replace HB : Hid _ := bl_trans HB.out hu
  replace HTa : Hid _ := HTa.out.below hu
  replace HTo : Hid _ := HTo.out.below hu
  replace HTn : Hid _ := HTn.out.below hu
  replace HTt : Hid _ := HTt.out.below hu
  replace HTs : Hid _ := HTs.out.below hu
  replace HTz : Hid _ := HTz.out.below hu
  replace K10 := cell_below hu K10
  replace K11 := cell_below hu K11
  replace Ko0 := cell_below hu Ko0
  replace Ko1 := cell_below hu Ko1
  replace Kn0 := cell_below hu Kn0
  replace Kn1 := cell_below hu Kn1
  replace Kt0 := cell_below hu Kt0
  replace Kt1 := cell_below hu Kt1
  replace Ks0 := cell_below hu Ks0
  replace Ks1 := cell_below hu Ks1
  replace Kz0 := cell_below hu Kz0
  replace Kz1 := cell_below hu Kz1
  clear hu
  have HTi : Hid _ := hT.below (bl_alloc (Below.refl w8.heap.size w8) (.cells #[.slice a8' m1 c8', .slice b8' n1 d8'] 25))
  have Ki0 : (w8.alloc (.cells #[.slice a8' m1 c8', .slice b8' n1 d8'] 25)).cell? ⟨w8.heap.size, 0, none⟩ = some (.slice a8' m1 c8') := by simp
  have Ki1 : (w8.alloc (.cells #[.slice a8' m1 c8', .slice b8' n1 d8'] 25)).cell? ⟨w8.heap.size, 1, none⟩ = some (.slice b8' n1 d8') := by simp
  clear hb hT
  clear hk
  have hk := zfill c1 (HE.out.below HB.out) HTa.out.tm.s HTa.out.tr.r HTa.out.hm (HTa.out.tr.l.symm.trans HTa.out.hn) 0 bd0 (by omega)
  rw [l0] at hk
  go_wp2_with fail
  refine (hk).mono ?_
  rintro e w9 ⟨a9', c9', b9', d9', rfl, hT, hb⟩
  have hu := bl_alloc hb (.cells #[.slice a9' m1 c9', .slice b9' n1 d9'] 25)
  replace HB : Hid _ := bl_trans HB.out hu
  replace HTa : Hid _ := HTa.out.below hu
  replace HTo : Hid _ := HTo.out.below hu
  replace HTn : Hid _ := HTn.out.below hu
  replace HTt : Hid _ := HTt.out.below hu
  replace HTs : Hid _ := HTs.out.below hu
  replace HTz : Hid _ := HTz.out.below hu
  replace HTi : Hid _ := HTi.out.below hu
  replace K10 := cell_below hu K10
  replace K11 := cell_below hu K11
  replace Ko0 := cell_below hu Ko0
  replace Ko1 := cell_below hu Ko1
  replace Kn0 := cell_below hu Kn0
  replace Kn1 := cell_below hu Kn1
  replace Kt0 := cell_below hu Kt0
  replace Kt1 := cell_below hu Kt1
  replace Ks0 := cell_below hu Ks0
  replace Ks1 := cell_below hu Ks1
  replace Kz0 := cell_below hu Kz0
  replace Kz1 := cell_below hu Kz1
  replace Ki0 := cell_below hu Ki0
  replace Ki1 := cell_below hu Ki1
  clear hu
  have HTj : Hid _ := hT.below (bl_alloc (Below.refl w9.heap.size w9) (.cells #[.slice a9' m1 c9', .slice b9' n1 d9'] 25))
  have Kj0 : (w9.alloc (.cells #[.slice a9' m1 c9', .slice b9' n1 d9'] 25)).cell? ⟨w9.heap.size, 0, none⟩ = some (.slice a9' m1 c9') := by simp
  have Kj1 : (w9.alloc (.cells #[.slice a9' m1 c9', .slice b9' n1 d9'] 25)).cell? ⟨w9.heap.size, 1, none⟩ = some (.slice b9' n1 d9') := by simp
  clear hb hT
  clear hk
  go_wp2_with fail
  refine (zeq c3' d3' c1 d1 HTo.out HTa.out (pow_one' qs)).mono ?_
  rintro e w10 ⟨rfl, hb⟩
  have hu := hb
  replace HB : Hid _ := bl_trans HB.out hu
  replace HTa : Hid _ := HTa.out.below hu
  replace HTo : Hid _ := HTo.out.below hu
  replace HTn : Hid _ := HTn.out.below hu
  replace HTt : Hid _ := HTt.out.below hu
  replace HTs : Hid _ := HTs.out.below hu
  replace HTz : Hid _ := HTz.out.below hu
  replace HTi : Hid _ := HTi.out.below hu
  replace HTj : Hid _ := HTj.out.below hu
  replace K10 := cell_below hu K10
  replace K11 := cell_below hu K11
  replace Ko0 := cell_below hu Ko0
  replace Ko1 := cell_below hu Ko1
  replace Kn0 := cell_below hu Kn0
  replace Kn1 := cell_below hu Kn1
  replace Kt0 := cell_below hu Kt0
  replace Kt1 := cell_below hu Kt1
  replace Ks0 := cell_below hu Ks0
  replace Ks1 := cell_below hu Ks1
  replace Kz0 := cell_below hu Kz0
  replace Kz1 := cell_below hu Kz1
  replace Ki0 := cell_below hu Ki0
  replace Ki1 := cell_below hu Ki1
  replace Kj0 := cell_below hu Kj0
  replace Kj1 := cell_below hu Kj1
  clear hu
  clear hb
  go_wp2_with fail
  refine (zeq c4' d4' c8' d8' HTn.out HTi.out (by rw [pow_none, HTa.out.hn])).mono ?_
  rintro e w11 ⟨rfl, hb⟩
  have hu := hb
  replace HB : Hid _ := bl_trans HB.out hu
  replace HTa : Hid _ := HTa.out.below hu
  replace HTo : Hid _ := HTo.out.below hu
  replace HTn : Hid _ := HTn.out.below hu
  replace HTt : Hid _ := HTt.out.below hu
  replace HTs : Hid _ := HTs.out.below hu
  replace HTz : Hid _ := HTz.out.below hu
  replace HTi : Hid _ := HTi.out.below hu
  replace HTj : Hid _ := HTj.out.below hu
  replace K10 := cell_below hu K10
  replace K11 := cell_below hu K11
  replace Ko0 := cell_below hu Ko0
  replace Ko1 := cell_below hu Ko1
  replace Kn0 := cell_below hu Kn0
  replace Kn1 := cell_below hu Kn1
  replace Kt0 := cell_below hu Kt0
  replace Kt1 := cell_below hu Kt1
  replace Ks0 := cell_below hu Ks0
  replace Ks1 := cell_below hu Ks1
  replace Kz0 := cell_below hu Kz0
  replace Kz1 := cell_below hu Kz1
  replace Ki0 := cell_below hu Ki0
  replace Ki1 := cell_below hu Ki1
  replace Kj0 := cell_below hu Kj0
  replace Kj1 := cell_below hu Kj1
  clear hu
  clear hb
  go_wp2_with fail
  refine (zeq c5' d5' c6' d6' HTt.out HTs.out (zip_square qs).symm).mono ?_
  rintro e w12 ⟨rfl, hb⟩
  have hu := hb
  replace HB : Hid _ := bl_trans HB.out hu
  replace HTa : Hid _ := HTa.out.below hu
  replace HTo : Hid _ := HTo.out.below hu
  replace HTn : Hid _ := HTn.out.below hu
  replace HTt : Hid _ := HTt.out.below hu
  replace HTs : Hid _ := HTs.out.below hu
  replace HTz : Hid _ := HTz.out.below hu
  replace HTi : Hid _ := HTi.out.below hu
  replace HTj : Hid _ := HTj.out.below hu
  replace K10 := cell_below hu K10
  replace K11 := cell_below hu K11
  replace Ko0 := cell_below hu Ko0
  replace Ko1 := cell_below hu Ko1
  replace Kn0 := cell_below hu Kn0
  replace Kn1 := cell_below hu Kn1
  replace Kt0 := cell_below hu Kt0
  replace Kt1 := cell_below hu Kt1
  replace Ks0 := cell_below hu Ks0
  replace Ks1 := cell_below hu Ks1
  replace Kz0 := cell_below hu Kz0
  replace Kz1 := cell_below hu Kz1
  replace Ki0 := cell_below hu Ki0
  replace Ki1 := cell_below hu Ki1
  replace Kj0 := cell_below hu Kj0
  replace Kj1 := cell_below hu Kj1
  clear hu
  clear hb
  go_wp2_with fail
  refine (zeq c7' d7' c9' d9' HTz.out HTj.out (by rw [scale_none, HTa.out.hn])).mono ?_
  rintro e w13 ⟨rfl, hb⟩
  have hu := hb
  replace HB : Hid _ := bl_trans HB.out hu
  replace HTa : Hid _ := HTa.out.below hu
  replace HTo : Hid _ := HTo.out.below hu
  replace HTn : Hid _ := HTn.out.below hu
  replace HTt : Hid _ := HTt.out.below hu
  replace HTs : Hid _ := HTs.out.below hu
  replace HTz : Hid _ := HTz.out.below hu
  replace HTi : Hid _ := HTi.out.below hu
  replace HTj : Hid _ := HTj.out.below hu
  replace K10 := cell_below hu K10
  replace K11 := cell_below hu K11
  replace Ko0 := cell_below hu Ko0
  replace Ko1 := cell_below hu Ko1
  replace Kn0 := cell_below hu Kn0
  replace Kn1 := cell_below hu Kn1
  replace Kt0 := cell_below hu Kt0
  replace Kt1 := cell_below hu Kt1
  replace Ks0 := cell_below hu Ks0
  replace Ks1 := cell_below hu Ks1
  replace Kz0 := cell_below hu Kz0
  replace Kz1 := cell_below hu Kz1
  replace Ki0 := cell_below hu Ki0
  replace Ki1 := cell_below hu Ki1
  replace Kj0 := cell_below hu Kj0
  replace Kj1 := cell_below hu Kj1
  clear hu
  clear hb
  go_wp2_with fail
  refine (awake_any aF aZ _ (HE.out.below HB.out)).mono ?_
  rintro e w14 ⟨rfl, hb⟩
  have hu := hb
  replace HB : Hid _ := bl_trans HB.out hu
  replace HTa : Hid _ := HTa.out.below hu
  replace HTo : Hid _ := HTo.out.below hu
  replace HTn : Hid _ := HTn.out.below hu
  replace HTt : Hid _ := HTt.out.below hu
  replace HTs : Hid _ := HTs.out.below hu
  replace HTz : Hid _ := HTz.out.below hu
  replace HTi : Hid _ := HTi.out.below hu
  replace HTj : Hid _ := HTj.out.below hu
  replace K10 := cell_below hu K10
  replace K11 := cell_below hu K11
  replace Ko0 := cell_below hu Ko0
  replace Ko1 := cell_below hu Ko1
  replace Kn0 := cell_below hu Kn0
  replace Kn1 := cell_below hu Kn1
  replace Kt0 := cell_below hu Kt0
  replace Kt1 := cell_below hu Kt1
  replace Ks0 := cell_below hu Ks0
  replace Ks1 := cell_below hu Ks1
  replace Kz0 := cell_below hu Kz0
  replace Kz1 := cell_below hu Kz1
  replace Ki0 := cell_below hu Ki0
  replace Ki1 := cell_below hu Ki1
  replace Kj0 := cell_below hu Kj0
  replace Kj1 := cell_below hu Kj1
  clear hu
  clear hb
  go_wp2
  go_ret
  exact ⟨rfl, HB.out⟩
end Go.Proofs.YtfblgaffkflenaaGreatDoor.Tn
