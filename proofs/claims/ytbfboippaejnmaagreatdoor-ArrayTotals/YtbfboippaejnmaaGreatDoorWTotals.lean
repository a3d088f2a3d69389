/-
  THE WALK OF ArrayTotals. Conditions: what the arguments hold.
-/
import Derived.Test.YtbfboippaejnmaaGreatDoorAw6
namespace Go.Proofs.YtbfboippaejnmaaGreatDoor.Tn
set_option maxRecDepth 100000
open Go.RowKit Nm
set_option linter.unusedVariables false

set_option maxHeartbeats 4000000 in
theorem totals_long1 (a1 b1 : Option Addr) (c1 d1 m1 n1 : Nat) (a2 : Option Addr) (m2 c2 : Nat) (aF aZ : Addr) (w : World) (hE : Er w aF aZ)
    (hS1 : ∀ v, Below w.heap.size w v → Calls Tryz.prog 12 #[.agg #[.slice a1 m1 c1, .slice b1 n1 d1]] v fun e w' => e = .returned (.bool false) ∧ Below v.heap.size v w') :
    Calls Tryz.prog 7 #[.agg #[.slice a1 m1 c1, .slice b1 n1 d1], .slice a2 m2 c2] w fun e w' => e = .returned (.bool true) ∧ Below w.heap.size w w' := by
  have HE : Hid _ := hE
  clear hE
  have HB : Hid (Below w.heap.size w w) := Below.refl _ _
  have hu := bl_alloc (Below.refl w.heap.size w) (.cells #[.slice a1 m1 c1, .slice b1 n1 d1] 25)
  replace HB : Hid _ := bl_trans HB.out hu
  clear hu
  have K10 : (w.alloc (.cells #[.slice a1 m1 c1, .slice b1 n1 d1] 25)).cell? ⟨w.heap.size, 0, none⟩ = some (.slice a1 m1 c1) := by first | rw [World.cell?_alloc_at _ _ _ _ (by simp)]; rfl | simp
  have K11 : (w.alloc (.cells #[.slice a1 m1 c1, .slice b1 n1 d1] 25)).cell? ⟨w.heap.size, 1, none⟩ = some (.slice b1 n1 d1) := by first | rw [World.cell?_alloc_at _ _ _ _ (by simp)]; rfl | simp
  go_enter Tryz.func7, Tryz.ntmps7
  go_wp2_with fail
  refine (hS1 _ HB.out).mono ?_
  rintro e w1 ⟨rfl, hb⟩
  have hu := hb
  replace HB : Hid _ := bl_trans HB.out hu
  replace K10 := cell_below hu K10
  replace K11 := cell_below hu K11
  clear hu
  clear hb
  go_wp2_with fail
  refine (awake_any aF aZ _ (HE.out.below HB.out)).mono ?_
  rintro e w2 ⟨rfl, hb⟩
  have hu := hb
  replace HB : Hid _ := bl_trans HB.out hu
  replace K10 := cell_below hu K10
  replace K11 := cell_below hu K11
  clear hu
  clear hb
  go_wp2
  go_ret
  exact ⟨rfl, HB.out⟩

set_option maxHeartbeats 4000000 in
theorem totals_long2 (a1 b1 : Option Addr) (c1 d1 m1 n1 : Nat) (a2 : Option Addr) (m2 c2 : Nat) (aF aZ : Addr) (w : World) (hE : Er w aF aZ)
    (hS1 : ∀ v, Below w.heap.size w v → Calls Tryz.prog 12 #[.agg #[.slice a1 m1 c1, .slice b1 n1 d1]] v fun e w' => e = .returned (.bool true) ∧ Below v.heap.size v w') (hl : 10 < m2) :
    Calls Tryz.prog 7 #[.agg #[.slice a1 m1 c1, .slice b1 n1 d1], .slice a2 m2 c2] w fun e w' => e = .returned (.bool true) ∧ Below w.heap.size w w' := by
  have HE : Hid _ := hE
  clear hE
  have HB : Hid (Below w.heap.size w w) := Below.refl _ _
  have hu := bl_alloc (Below.refl w.heap.size w) (.cells #[.slice a1 m1 c1, .slice b1 n1 d1] 25)
  replace HB : Hid _ := bl_trans HB.out hu
  clear hu
  have K10 : (w.alloc (.cells #[.slice a1 m1 c1, .slice b1 n1 d1] 25)).cell? ⟨w.heap.size, 0, none⟩ = some (.slice a1 m1 c1) := by first | rw [World.cell?_alloc_at _ _ _ _ (by simp)]; rfl | simp
  have K11 : (w.alloc (.cells #[.slice a1 m1 c1, .slice b1 n1 d1] 25)).cell? ⟨w.heap.size, 1, none⟩ = some (.slice b1 n1 d1) := by first | rw [World.cell?_alloc_at _ _ _ _ (by simp)]; rfl | simp
  go_enter Tryz.func7, Tryz.ntmps7
  go_wp2_with fail
  refine (hS1 _ HB.out).mono ?_
  rintro e w1 ⟨rfl, hb⟩
  have hu := hb
  replace HB : Hid _ := bl_trans HB.out hu
  replace K10 := cell_below hu K10
  replace K11 := cell_below hu K11
  clear hu
  clear hb
  go_wp2_with fail
  refine (awake_any aF aZ _ (HE.out.below HB.out)).mono ?_
  rintro e w2 ⟨rfl, hb⟩
  have hu := hb
  replace HB : Hid _ := bl_trans HB.out hu
  replace K10 := cell_below hu K10
  replace K11 := cell_below hu K11
  clear hu
  clear hb
  go_wp2
  go_ret
  exact ⟨rfl, HB.out⟩

set_option maxHeartbeats 4000000 in
theorem totals_bad (a1 b1 : Option Addr) (c1 d1 m1 n1 : Nat) (a2 : Option Addr) (m2 c2 : Nat) (aF aZ : Addr) (w : World) (hE : Er w aF aZ)
    (hS1 : ∀ v, Below w.heap.size w v → Calls Tryz.prog 12 #[.agg #[.slice a1 m1 c1, .slice b1 n1 d1]] v fun e w' => e = .returned (.bool true) ∧ Below v.heap.size v w')
    (hR1 : ∀ v, Below w.heap.size w v → Calls Tryz.prog 16 #[.agg #[.slice a1 m1 c1, .slice b1 n1 d1]] v fun e w' => e = .returned (.bool false) ∧ Below v.heap.size v w') (hl : ¬ 10 < m2) :
    Calls Tryz.prog 7 #[.agg #[.slice a1 m1 c1, .slice b1 n1 d1], .slice a2 m2 c2] w fun e w' => e = .returned (.bool true) ∧ Below w.heap.size w w' := by
  have HE : Hid _ := hE
  clear hE
  have HB : Hid (Below w.heap.size w w) := Below.refl _ _
  have hu := bl_alloc (Below.refl w.heap.size w) (.cells #[.slice a1 m1 c1, .slice b1 n1 d1] 25)
  replace HB : Hid _ := bl_trans HB.out hu
  clear hu
  have K10 : (w.alloc (.cells #[.slice a1 m1 c1, .slice b1 n1 d1] 25)).cell? ⟨w.heap.size, 0, none⟩ = some (.slice a1 m1 c1) := by first | rw [World.cell?_alloc_at _ _ _ _ (by simp)]; rfl | simp
  have K11 : (w.alloc (.cells #[.slice a1 m1 c1, .slice b1 n1 d1] 25)).cell? ⟨w.heap.size, 1, none⟩ = some (.slice b1 n1 d1) := by first | rw [World.cell?_alloc_at _ _ _ _ (by simp)]; rfl | simp
  go_enter Tryz.func7, Tryz.ntmps7
  go_wp2_with fail
  refine (hS1 _ HB.out).mono ?_
  rintro e w1 ⟨rfl, hb⟩
  have hu := hb
  replace HB : Hid _ := bl_trans HB.out hu
  replace K10 := cell_below hu K10
  replace K11 := cell_below hu K11
  clear hu
  clear hb
  go_wp2_with fail
  refine (hR1 _ HB.out).mono ?_
  rintro e w2 ⟨rfl, hb⟩
  have hu := hb
  replace HB : Hid _ := bl_trans HB.out hu
  replace K10 := cell_below hu K10
  replace K11 := cell_below hu K11
  clear hu
  clear hb
  go_wp2_with fail
  refine (awake_any aF aZ _ (HE.out.below HB.out)).mono ?_
  rintro e w3 ⟨rfl, hb⟩
  have hu := hb
  replace HB : Hid _ := bl_trans HB.out hu
  replace K10 := cell_below hu K10
  replace K11 := cell_below hu K11
  clear hu
  clear hb
  go_wp2
  go_ret
  exact ⟨rfl, HB.out⟩

set_option maxHeartbeats 4000000 in
theorem totals_yy (a1 b1 : Option Addr) (c1 d1 n1 : Nat) (a2 : Option Addr) (m2 c2 : Nat) (p q : Nat) (us : List Int) (qs : List Rat) (aF aZ : Addr) (w : World) (hE : Er w aF aZ)
    (hS1 : ∀ v, Below w.heap.size w v → Calls Tryz.prog 12 #[.agg #[.slice a1 2 c1, .slice b1 n1 d1]] v fun e w' => e = .returned (.bool true) ∧ Below v.heap.size v w')
    (hR1 : ∀ v, Below w.heap.size w v → Calls Tryz.prog 16 #[.agg #[.slice a1 2 c1, .slice b1 n1 d1]] v fun e w' => e = .returned (.bool true) ∧ Below v.heap.size v w')
    (hT : Tt w 0 a1 b1 [(p : Int), (q : Int)] 2 n1 qs 40) (hl : ¬ 10 < m2)
    (h2 : Sp.Sl w a2 us) (hr : Sp.Rgt us) (hm : us.length = m2) (hn : Sp.szI us = n1) :
    Calls Tryz.prog 7 #[.agg #[.slice a1 2 c1, .slice b1 n1 d1], .slice a2 m2 c2] w fun e w' => e = .returned (.bool true) ∧ Below w.heap.size w w' := by
  have HE : Hid _ := hE
  clear hE
  have HB : Hid (Below w.heap.size w w) := Below.refl _ _
  have HU : Hid (Sp.Sl w a2 us) := h2
  clear h2
  have hle := hT.le
  have HL : Hid (qs.length = p * q) := hT.two.1
  have HTa : Hid _ := hT
  clear hT
  have hu := bl_alloc (Below.refl w.heap.size w) (.cells #[.slice a1 2 c1, .slice b1 n1 d1] 25)
  replace HB : Hid _ := bl_trans HB.out hu
  replace HTa : Hid _ := HTa.out.below hu
  clear hu
  have K10 : (w.alloc (.cells #[.slice a1 2 c1, .slice b1 n1 d1] 25)).cell? ⟨w.heap.size, 0, none⟩ = some (.slice a1 2 c1) := by first | rw [World.cell?_alloc_at _ _ _ _ (by simp)]; rfl | simp
  have K11 : (w.alloc (.cells #[.slice a1 2 c1, .slice b1 n1 d1] 25)).cell? ⟨w.heap.size, 1, none⟩ = some (.slice b1 n1 d1) := by first | rw [World.cell?_alloc_at _ _ _ _ (by simp)]; rfl | simp
  go_enter Tryz.func7, Tryz.ntmps7
  go_wp2_with fail
  refine (hS1 _ HB.out).mono ?_
  rintro e w1 ⟨rfl, hb⟩
  have hu := hb
  replace HB : Hid _ := bl_trans HB.out hu
  replace HTa : Hid _ := HTa.out.below hu
  replace K10 := cell_below hu K10
  replace K11 := cell_below hu K11
  clear hu
  clear hb
  go_wp2_with fail
  refine (hR1 _ HB.out).mono ?_
  rintro e w2 ⟨rfl, hb⟩
  have hu := hb
  replace HB : Hid _ := bl_trans HB.out hu
  replace HTa : Hid _ := HTa.out.below hu
  replace K10 := cell_below hu K10
  replace K11 := cell_below hu K11
  clear hu
  clear hb
  go_wp2_with fail
  refine (ztotal c1 d1 (HE.out.below HB.out) HTa.out (by omega)).mono ?_
  rintro e w3 ⟨a3', c3', b3', d3', rfl, hT, hb⟩
  have hu := bl_alloc hb (.cells #[.slice a3' 0 c3', .slice b3' 1 d3'] 25)
  replace HB : Hid _ := bl_trans HB.out hu
  replace HTa : Hid _ := HTa.out.below hu
  replace K10 := cell_below hu K10
  replace K11 := cell_below hu K11
  clear hu
  have HTx : Hid _ := hT.below (bl_alloc (Below.refl w3.heap.size w3) (.cells #[.slice a3' 0 c3', .slice b3' 1 d3'] 25))
  have Kx0 : (w3.alloc (.cells #[.slice a3' 0 c3', .slice b3' 1 d3'] 25)).cell? ⟨w3.heap.size, 0, none⟩ = some (.slice a3' 0 c3') := by simp
  have Kx1 : (w3.alloc (.cells #[.slice a3' 0 c3', .slice b3' 1 d3'] 25)).cell? ⟨w3.heap.size, 1, none⟩ = some (.slice b3' 1 d3') := by simp
  clear hb hT
  go_wp2_with fail
  refine (ztr c1 d1 (HE.out.below HB.out) HTa.out (by omega)).mono ?_
  rintro e w4 ⟨a4', c4', b4', d4', rfl, hT, hb⟩
  have hu := bl_alloc hb (.cells #[.slice a4' 2 c4', .slice b4' n1 d4'] 25)
  replace HB : Hid _ := bl_trans HB.out hu
  replace HTa : Hid _ := HTa.out.below hu
  replace HTx : Hid _ := HTx.out.below hu
  replace K10 := cell_below hu K10
  replace K11 := cell_below hu K11
  replace Kx0 := cell_below hu Kx0
  replace Kx1 := cell_below hu Kx1
  clear hu
  have HTt : Hid _ := hT.below (bl_alloc (Below.refl w4.heap.size w4) (.cells #[.slice a4' 2 c4', .slice b4' n1 d4'] 25))
  have Kt0 : (w4.alloc (.cells #[.slice a4' 2 c4', .slice b4' n1 d4'] 25)).cell? ⟨w4.heap.size, 0, none⟩ = some (.slice a4' 2 c4') := by simp
  have Kt1 : (w4.alloc (.cells #[.slice a4' 2 c4', .slice b4' n1 d4'] 25)).cell? ⟨w4.heap.size, 1, none⟩ = some (.slice b4' n1 d4') := by simp
  clear hb hT
  go_wp2_with fail
  refine (ztotal c4' d4' (HE.out.below HB.out) HTt.out (by omega)).mono ?_
  rintro e w5 ⟨a5', c5', b5', d5', rfl, hT, hb⟩
  have hu := bl_alloc hb (.cells #[.slice a5' 0 c5', .slice b5' 1 d5'] 25)
  replace HB : Hid _ := bl_trans HB.out hu
  replace HTa : Hid _ := HTa.out.below hu
  replace HTx : Hid _ := HTx.out.below hu
  replace HTt : Hid _ := HTt.out.below hu
  replace K10 := cell_below hu K10
  replace K11 := cell_below hu K11
  replace Kx0 := cell_below hu Kx0
  replace Kx1 := cell_below hu Kx1
  replace Kt0 := cell_below hu Kt0
  replace Kt1 := cell_below hu Kt1
  clear hu
  have HTy : Hid _ := hT.below (bl_alloc (Below.refl w5.heap.size w5) (.cells #[.slice a5' 0 c5', .slice b5' 1 d5'] 25))
  have Ky0 : (w5.alloc (.cells #[.slice a5' 0 c5', .slice b5' 1 d5'] 25)).cell? ⟨w5.heap.size, 0, none⟩ = some (.slice a5' 0 c5') := by simp
  have Ky1 : (w5.alloc (.cells #[.slice a5' 0 c5', .slice b5' 1 d5'] 25)).cell? ⟨w5.heap.size, 1, none⟩ = some (.slice b5' 1 d5') := by simp
  clear hb hT
  go_wp2_with fail
  refine (zre c1 d1 c2 (HE.out.below HB.out) HTa.out (Sp.Sl.below HU.out HB.out) hr hm hn (by omega)).mono ?_
  rintro e w6 ⟨a6', c6', b6', d6', rfl, hT, hb⟩
  have hu := bl_alloc hb (.cells #[.slice a6' m2 c6', .slice b6' n1 d6'] 25)
  replace HB : Hid _ := bl_trans HB.out hu
  replace HTa : Hid _ := HTa.out.below hu
  replace HTx : Hid _ := HTx.out.below hu
  replace HTt : Hid _ := HTt.out.below hu
  replace HTy : Hid _ := HTy.out.below hu
  replace K10 := cell_below hu K10
  replace K11 := cell_below hu K11
  replace Kx0 := cell_below hu Kx0
  replace Kx1 := cell_below hu Kx1
  replace Kt0 := cell_below hu Kt0
  replace Kt1 := cell_below hu Kt1
  replace Ky0 := cell_below hu Ky0
  replace Ky1 := cell_below hu Ky1
  clear hu
  have HTr : Hid _ := hT.below (bl_alloc (Below.refl w6.heap.size w6) (.cells #[.slice a6' m2 c6', .slice b6' n1 d6'] 25))
  have Kr0 : (w6.alloc (.cells #[.slice a6' m2 c6', .slice b6' n1 d6'] 25)).cell? ⟨w6.heap.size, 0, none⟩ = some (.slice a6' m2 c6') := by simp
  have Kr1 : (w6.alloc (.cells #[.slice a6' m2 c6', .slice b6' n1 d6'] 25)).cell? ⟨w6.heap.size, 1, none⟩ = some (.slice b6' n1 d6') := by simp
  clear hb hT
  go_wp2_with fail
  refine (ztotal c6' d6' (HE.out.below HB.out) HTr.out (by omega)).mono ?_
  rintro e w7 ⟨a7', c7', b7', d7', rfl, hT, hb⟩
  have hu := bl_alloc hb (.cells #[.slice a7' 0 c7', .slice b7' 1 d7'] 25)
  replace HB : Hid _ := bl_trans HB.out hu
  replace HTa : Hid _ := HTa.out.below hu
  replace HTx : Hid _ := HTx.out.below hu
  replace HTt : Hid _ := HTt.out.below hu
  replace HTy : Hid _ := HTy.out.below hu
  replace HTr : Hid _ := HTr.out.below hu
  replace K10 := cell_below hu K10
  replace K11 := cell_below hu K11
  replace Kx0 := cell_below hu Kx0
  replace Kx1 := cell_below hu Kx1
  replace Kt0 := cell_below hu Kt0
  replace Kt1 := cell_below hu Kt1
  replace Ky0 := cell_below hu Ky0
  replace Ky1 := cell_below hu Ky1
  replace Kr0 := cell_below hu Kr0
  replace Kr1 := cell_below hu Kr1
  clear hu
  have HTz : Hid _ := hT.below (bl_alloc (Below.refl w7.heap.size w7) (.cells #[.slice a7' 0 c7', .slice b7' 1 d7'] 25))
  have Kz0 : (w7.alloc (.cells #[.slice a7' 0 c7', .slice b7' 1 d7'] 25)).cell? ⟨w7.heap.size, 0, none⟩ = some (.slice a7' 0 c7') := by simp
  have Kz1 : (w7.alloc (.cells #[.slice a7' 0 c7', .slice b7' 1 d7'] 25)).cell? ⟨w7.heap.size, 1, none⟩ = some (.slice b7' 1 d7') := by simp
  clear hb hT
  go_wp2_with fail
  refine (zeq c3' d3' c5' d5' HTx.out HTy.out (by rw [tot_tr HL.out])).mono ?_
  rintro e w8 ⟨rfl, hb⟩
  have hu := hb
  replace HB : Hid _ := bl_trans HB.out hu
  replace HTa : Hid _ := HTa.out.below hu
  replace HTx : Hid _ := HTx.out.below hu
  replace HTt : Hid _ := HTt.out.below hu
  replace HTy : Hid _ := HTy.out.below hu
  replace HTr : Hid _ := HTr.out.below hu
  replace HTz : Hid _ := HTz.out.below hu
  replace K10 := cell_below hu K10
  replace K11 := cell_below hu K11
  replace Kx0 := cell_below hu Kx0
  replace Kx1 := cell_below hu Kx1
  replace Kt0 := cell_below hu Kt0
  replace Kt1 := cell_below hu Kt1
  replace Ky0 := cell_below hu Ky0
  replace Ky1 := cell_below hu Ky1
  replace Kr0 := cell_below hu Kr0
  replace Kr1 := cell_below hu Kr1
  replace Kz0 := cell_below hu Kz0
  replace Kz1 := cell_below hu Kz1
  clear hu
  clear hb
  go_wp2_with fail
  refine (zeq c3' d3' c7' d7' HTx.out HTz.out rfl).mono ?_
  rintro e w9 ⟨rfl, hb⟩
  have hu := hb
  replace HB : Hid _ := bl_trans HB.out hu
  replace HTa : Hid _ := HTa.out.below hu
  replace HTx : Hid _ := HTx.out.below hu
  replace HTt : Hid _ := HTt.out.below hu
  replace HTy : Hid _ := HTy.out.below hu
  replace HTr : Hid _ := HTr.out.below hu
  replace HTz : Hid _ := HTz.out.below hu
  replace K10 := cell_below hu K10
  replace K11 := cell_below hu K11
  replace Kx0 := cell_below hu Kx0
  replace Kx1 := cell_below hu Kx1
  replace Kt0 := cell_below hu Kt0
  replace Kt1 := cell_below hu Kt1
  replace Ky0 := cell_below hu Ky0
  replace Ky1 := cell_below hu Ky1
  replace Kr0 := cell_below hu Kr0
  replace Kr1 := cell_below hu Kr1
  replace Kz0 := cell_below hu Kz0
  replace Kz1 := cell_below hu Kz1
  clear hu
  clear hb
  go_wp2_with fail
  refine (awake_any aF aZ _ (HE.out.below HB.out)).mono ?_
  rintro e w10 ⟨rfl, hb⟩
  have hu := hb
  replace HB : Hid _ := bl_trans HB.out hu
  replace HTa : Hid _ := HTa.out.below hu
  replace HTx : Hid _ := HTx.out.below hu
  replace HTt : Hid _ := HTt.out.below hu
  replace HTy : Hid _ := HTy.out.below hu
  replace HTr : Hid _ := HTr.out.below hu
  replace HTz : Hid _ := HTz.out.below hu
  replace K10 := cell_below hu K10
  replace K11 := cell_below hu K11
  replace Kx0 := cell_below hu Kx0
  replace Kx1 := cell_below hu Kx1
  replace Kt0 := cell_below hu Kt0
  replace Kt1 := cell_below hu Kt1
  replace Ky0 := cell_below hu Ky0
  replace Ky1 := cell_below hu Ky1
  replace Kr0 := cell_below hu Kr0
  replace Kr1 := cell_below hu Kr1
  replace Kz0 := cell_below hu Kz0
  replace Kz1 := cell_below hu Kz1
  clear hu
  clear hb
  go_wp2
  go_ret
  exact ⟨rfl, HB.out⟩

set_option maxHeartbeats 4000000 in
theorem totals_yn (a1 b1 : Option Addr) (c1 d1 n1 : Nat) (a2 : Option Addr) (m2 c2 : Nat) (p q : Nat) (us : List Int) (qs : List Rat) (er2 : Int) (aF aZ : Addr) (w : World) (hE : Er w aF aZ)
    (hS1 : ∀ v, Below w.heap.size w v → Calls Tryz.prog 12 #[.agg #[.slice a1 2 c1, .slice b1 n1 d1]] v fun e w' => e = .returned (.bool true) ∧ Below v.heap.size v w')
    (hR1 : ∀ v, Below w.heap.size w v → Calls Tryz.prog 16 #[.agg #[.slice a1 2 c1, .slice b1 n1 d1]] v fun e w' => e = .returned (.bool true) ∧ Below v.heap.size v w')
    (hT : Tt w 0 a1 b1 [(p : Int), (q : Int)] 2 n1 qs 40) (hl : ¬ 10 < m2)
    (hY : ∀ v, Below w.heap.size w v → Calls Tryz.prog 20 #[.agg #[.slice a1 2 c1, .slice b1 n1 d1], .slice a2 m2 c2] v fun e w' => e = .returned (noTensor er2) ∧ Below v.heap.size v w') (hne2 : (er2 != 0) = true)
    (hE0 : ∀ v, Below w.heap.size w v → Calls Tryz.prog 21 #[.agg #[.slice none 0 0, .slice none 0 0]] v fun e w' => e = .returned (noTensor 1) ∧ Below v.heap.size v w') :
    Calls Tryz.prog 7 #[.agg #[.slice a1 2 c1, .slice b1 n1 d1], .slice a2 m2 c2] w fun e w' => e = .returned (.bool true) ∧ Below w.heap.size w w' := by
  have HE : Hid _ := hE
  clear hE
  have HB : Hid (Below w.heap.size w w) := Below.refl _ _
  have hle := hT.le
  have HL : Hid (qs.length = p * q) := hT.two.1
  have HTa : Hid _ := hT
  clear hT
  have hu := bl_alloc (Below.refl w.heap.size w) (.cells #[.slice a1 2 c1, .slice b1 n1 d1] 25)
  replace HB : Hid _ := bl_trans HB.out hu
  replace HTa : Hid _ := HTa.out.below hu
  clear hu
  have K10 : (w.alloc (.cells #[.slice a1 2 c1, .slice b1 n1 d1] 25)).cell? ⟨w.heap.size, 0, none⟩ = some (.slice a1 2 c1) := by first | rw [World.cell?_alloc_at _ _ _ _ (by simp)]; rfl | simp
  have K11 : (w.alloc (.cells #[.slice a1 2 c1, .slice b1 n1 d1] 25)).cell? ⟨w.heap.size, 1, none⟩ = some (.slice b1 n1 d1) := by first | rw [World.cell?_alloc_at _ _ _ _ (by simp)]; rfl | simp
  go_enter Tryz.func7, Tryz.ntmps7
  go_wp2_with fail
  refine (hS1 _ HB.out).mono ?_
  rintro e w1 ⟨rfl, hb⟩
  have hu := hb
  replace HB : Hid _ := bl_trans HB.out hu
  replace HTa : Hid _ := HTa.out.below hu
  replace K10 := cell_below hu K10
  replace K11 := cell_below hu K11
  clear hu
  clear hb
  go_wp2_with fail
  refine (hR1 _ HB.out).mono ?_
  rintro e w2 ⟨rfl, hb⟩
  have hu := hb
  replace HB : Hid _ := bl_trans HB.out hu
  replace HTa : Hid _ := HTa.out.below hu
  replace K10 := cell_below hu K10
  replace K11 := cell_below hu K11
  clear hu
  clear hb
  go_wp2_with fail
  refine (ztotal c1 d1 (HE.out.below HB.out) HTa.out (by omega)).mono ?_
  rintro e w3 ⟨a3', c3', b3', d3', rfl, hT, hb⟩
  have hu := bl_alloc hb (.cells #[.slice a3' 0 c3', .slice b3' 1 d3'] 25)
  replace HB : Hid _ := bl_trans HB.out hu
  replace HTa : Hid _ := HTa.out.below hu
  replace K10 := cell_below hu K10
  replace K11 := cell_below hu K11
  clear hu
  have HTx : Hid _ := hT.below (bl_alloc (Below.refl w3.heap.size w3) (.cells #[.slice a3' 0 c3', .slice b3' 1 d3'] 25))
  have Kx0 : (w3.alloc (.cells #[.slice a3' 0 c3', .slice b3' 1 d3'] 25)).cell? ⟨w3.heap.size, 0, none⟩ = some (.slice a3' 0 c3') := by simp
  have Kx1 : (w3.alloc (.cells #[.slice a3' 0 c3', .slice b3' 1 d3'] 25)).cell? ⟨w3.heap.size, 1, none⟩ = some (.slice b3' 1 d3') := by simp
  clear hb hT
  go_wp2_with fail
  refine (ztr c1 d1 (HE.out.below HB.out) HTa.out (by omega)).mono ?_
  rintro e w4 ⟨a4', c4', b4', d4', rfl, hT, hb⟩
  have hu := bl_alloc hb (.cells #[.slice a4' 2 c4', .slice b4' n1 d4'] 25)
  replace HB : Hid _ := bl_trans HB.out hu
  replace HTa : Hid _ := HTa.out.below hu
  replace HTx : Hid _ := HTx.out.below hu
  replace K10 := cell_below hu K10
  replace K11 := cell_below hu K11
  replace Kx0 := cell_below hu Kx0
  replace Kx1 := cell_below hu Kx1
  clear hu
  have HTt : Hid _ := hT.below (bl_alloc (Below.refl w4.heap.size w4) (.cells #[.slice a4' 2 c4', .slice b4' n1 d4'] 25))
  have Kt0 : (w4.alloc (.cells #[.slice a4' 2 c4', .slice b4' n1 d4'] 25)).cell? ⟨w4.heap.size, 0, none⟩ = some (.slice a4' 2 c4') := by simp
  have Kt1 : (w4.alloc (.cells #[.slice a4' 2 c4', .slice b4' n1 d4'] 25)).cell? ⟨w4.heap.size, 1, none⟩ = some (.slice b4' n1 d4') := by simp
  clear hb hT
  go_wp2_with fail
  refine (ztotal c4' d4' (HE.out.below HB.out) HTt.out (by omega)).mono ?_
  rintro e w5 ⟨a5', c5', b5', d5', rfl, hT, hb⟩
  have hu := bl_alloc hb (.cells #[.slice a5' 0 c5', .slice b5' 1 d5'] 25)
  replace HB : Hid _ := bl_trans HB.out hu
  replace HTa : Hid _ := HTa.out.below hu
  replace HTx : Hid _ := HTx.out.below hu
  replace HTt : Hid _ := HTt.out.below hu
  replace K10 := cell_below hu K10
  replace K11 := cell_below hu K11
  replace Kx0 := cell_below hu Kx0
  replace Kx1 := cell_below hu Kx1
  replace Kt0 := cell_below hu Kt0
  replace Kt1 := cell_below hu Kt1
  clear hu
  have HTy : Hid _ := hT.below (bl_alloc (Below.refl w5.heap.size w5) (.cells #[.slice a5' 0 c5', .slice b5' 1 d5'] 25))
  have Ky0 : (w5.alloc (.cells #[.slice a5' 0 c5', .slice b5' 1 d5'] 25)).cell? ⟨w5.heap.size, 0, none⟩ = some (.slice a5' 0 c5') := by simp
  have Ky1 : (w5.alloc (.cells #[.slice a5' 0 c5', .slice b5' 1 d5'] 25)).cell? ⟨w5.heap.size, 1, none⟩ = some (.slice b5' 1 d5') := by simp
  clear hb hT
  go_wp2_with fail
  refine (hY _ HB.out).mono ?_
  rintro e w6 ⟨rfl, hb⟩
  have hu := bl_alloc hb (.cells #[.slice none 0 0, .slice none 0 0] 25)
  replace HB : Hid _ := bl_trans HB.out hu
  replace HTa : Hid _ := HTa.out.below hu
  replace HTx : Hid _ := HTx.out.below hu
  replace HTt : Hid _ := HTt.out.below hu
  replace HTy : Hid _ := HTy.out.below hu
  replace K10 := cell_below hu K10
  replace K11 := cell_below hu K11
  replace Kx0 := cell_below hu Kx0
  replace Kx1 := cell_below hu Kx1
  replace Kt0 := cell_below hu Kt0
  replace Kt1 := cell_below hu Kt1
  replace Ky0 := cell_below hu Ky0
  replace Ky1 := cell_below hu Ky1
  clear hu
  have Kr0 : (w6.alloc (.cells #[.slice none 0 0, .slice none 0 0] 25)).cell? ⟨w6.heap.size, 0, none⟩ = some (.slice none 0 0) := by simp
  have Kr1 : (w6.alloc (.cells #[.slice none 0 0, .slice none 0 0] 25)).cell? ⟨w6.heap.size, 1, none⟩ = some (.slice none 0 0) := by simp
  clear hb
  go_wp2_with fail
  refine (hE0 _ HB.out).mono ?_
  rintro e w7 ⟨rfl, hb⟩
  have hu := bl_alloc hb (.cells #[.slice none 0 0, .slice none 0 0] 25)
  replace HB : Hid _ := bl_trans HB.out hu
  replace HTa : Hid _ := HTa.out.below hu
  replace HTx : Hid _ := HTx.out.below hu
  replace HTt : Hid _ := HTt.out.below hu
  replace HTy : Hid _ := HTy.out.below hu
  replace K10 := cell_below hu K10
  replace K11 := cell_below hu K11
  replace Kx0 := cell_below hu Kx0
  replace Kx1 := cell_below hu Kx1
  replace Kt0 := cell_below hu Kt0
  replace Kt1 := cell_below hu Kt1
  replace Ky0 := cell_below hu Ky0
  replace Ky1 := cell_below hu Ky1
  replace Kr0 := cell_below hu Kr0
  replace Kr1 := cell_below hu Kr1
  clear hu
  have Kz0 : (w7.alloc (.cells #[.slice none 0 0, .slice none 0 0] 25)).cell? ⟨w7.heap.size, 0, none⟩ = some (.slice none 0 0) := by simp
  have Kz1 : (w7.alloc (.cells #[.slice none 0 0, .slice none 0 0] 25)).cell? ⟨w7.heap.size, 1, none⟩ = some (.slice none 0 0) := by simp
  clear hb
  go_wp2_with fail
  refine (zeq c3' d3' c5' d5' HTx.out HTy.out (by rw [tot_tr HL.out])).mono ?_
  rintro e w8 ⟨rfl, hb⟩
  have hu := hb
  replace HB : Hid _ := bl_trans HB.out hu
  replace HTa : Hid _ := HTa.out.below hu
  replace HTx : Hid _ := HTx.out.below hu
  replace HTt : Hid _ := HTt.out.below hu
  replace HTy : Hid _ := HTy.out.below hu
  replace K10 := cell_below hu K10
  replace K11 := cell_below hu K11
  replace Kx0 := cell_below hu Kx0
  replace Kx1 := cell_below hu Kx1
  replace Kt0 := cell_below hu Kt0
  replace Kt1 := cell_below hu Kt1
  replace Ky0 := cell_below hu Ky0
  replace Ky1 := cell_below hu Ky1
  replace Kr0 := cell_below hu Kr0
  replace Kr1 := cell_below hu Kr1
  replace Kz0 := cell_below hu Kz0
  replace Kz1 := cell_below hu Kz1
  clear hu
  clear hb
  go_wp2_with fail
  refine (awake_any aF aZ _ (HE.out.below HB.out)).mono ?_
  rintro e w9 ⟨rfl, hb⟩
  have hu := hb
  replace HB : Hid _ := bl_trans HB.out hu
  replace HTa : Hid _ := HTa.out.below hu
  replace HTx : Hid _ := HTx.out.below hu
  replace HTt : Hid _ := HTt.out.below hu
  replace HTy : Hid _ := HTy.out.below hu
  replace K10 := cell_below hu K10
  replace K11 := cell_below hu K11
  replace Kx0 := cell_below hu Kx0
  replace Kx1 := cell_below hu Kx1
  replace Kt0 := cell_below hu Kt0
  replace Kt1 := cell_below hu Kt1
  replace Ky0 := cell_below hu Ky0
  replace Ky1 := cell_below hu Ky1
  replace Kr0 := cell_below hu Kr0
  replace Kr1 := cell_below hu Kr1
  replace Kz0 := cell_below hu Kz0
  replace Kz1 := cell_below hu Kz1
  clear hu
  clear hb
  go_wp2
  go_ret
  exact ⟨rfl, HB.out⟩

set_option maxHeartbeats 4000000 in
theorem totals_ny (a1 b1 : Option Addr) (c1 d1 m1 n1 : Nat) (a2 : Option Addr) (m2 c2 : Nat) (zs : List Int) (us : List Int) (qs : List Rat) (er : Int) (aF aZ : Addr) (w : World) (hE : Er w aF aZ)
    (hS1 : ∀ v, Below w.heap.size w v → Calls Tryz.prog 12 #[.agg #[.slice a1 m1 c1, .slice b1 n1 d1]] v fun e w' => e = .returned (.bool true) ∧ Below v.heap.size v w')
    (hR1 : ∀ v, Below w.heap.size w v → Calls Tryz.prog 16 #[.agg #[.slice a1 m1 c1, .slice b1 n1 d1]] v fun e w' => e = .returned (.bool true) ∧ Below v.heap.size v w')
    (hT : Tt w 0 a1 b1 zs m1 n1 qs 40) (hl : ¬ 10 < m2)
    (hX : ∀ v, Below w.heap.size w v → Calls Tryz.prog 15 #[.agg #[.slice a1 m1 c1, .slice b1 n1 d1]] v fun e w' => e = .returned (noTensor er) ∧ Below v.heap.size v w') (hne : (er != 0) = true)
    (h2 : Sp.Sl w a2 us) (hr : Sp.Rgt us) (hm : us.length = m2) (hn : Sp.szI us = n1)
    (hE0 : ∀ v, Below w.heap.size w v → Calls Tryz.prog 21 #[.agg #[.slice none 0 0, .slice none 0 0]] v fun e w' => e = .returned (noTensor 1) ∧ Below v.heap.size v w') :
    Calls Tryz.prog 7 #[.agg #[.slice a1 m1 c1, .slice b1 n1 d1], .slice a2 m2 c2] w fun e w' => e = .returned (.bool true) ∧ Below w.heap.size w w' := by
  have HE : Hid _ := hE
  clear hE
  have HB : Hid (Below w.heap.size w w) := Below.refl _ _
  have HU : Hid (Sp.Sl w a2 us) := h2
  clear h2
  have hle := hT.le
  have HTa : Hid _ := hT
  clear hT
  have hu := bl_alloc (Below.refl w.heap.size w) (.cells #[.slice a1 m1 c1, .slice b1 n1 d1] 25)
  replace HB : Hid _ := bl_trans HB.out hu
  replace HTa : Hid _ := HTa.out.below hu
  clear hu
  have K10 : (w.alloc (.cells #[.slice a1 m1 c1, .slice b1 n1 d1] 25)).cell? ⟨w.heap.size, 0, none⟩ = some (.slice a1 m1 c1) := by first | rw [World.cell?_alloc_at _ _ _ _ (by simp)]; rfl | simp
  have K11 : (w.alloc (.cells #[.slice a1 m1 c1, .slice b1 n1 d1] 25)).cell? ⟨w.heap.size, 1, none⟩ = some (.slice b1 n1 d1) := by first | rw [World.cell?_alloc_at _ _ _ _ (by simp)]; rfl | simp
  go_enter Tryz.func7, Tryz.ntmps7
  go_wp2_with fail
  refine (hS1 _ HB.out).mono ?_
  rintro e w1 ⟨rfl, hb⟩
  have hu := hb
  replace HB : Hid _ := bl_trans HB.out hu
  replace HTa : Hid _ := HTa.out.below hu
  replace K10 := cell_below hu K10
  replace K11 := cell_below hu K11
  clear hu
  clear hb
  go_wp2_with fail
  refine (hR1 _ HB.out).mono ?_
  rintro e w2 ⟨rfl, hb⟩
  have hu := hb
  replace HB : Hid _ := bl_trans HB.out hu
  replace HTa : Hid _ := HTa.out.below hu
  replace K10 := cell_below hu K10
  replace K11 := cell_below hu K11
  clear hu
  clear hb
  go_wp2_with fail
  refine (ztotal c1 d1 (HE.out.below HB.out) HTa.out (by omega)).mono ?_
  rintro e w3 ⟨a3', c3', b3', d3', rfl, hT, hb⟩
  have hu := bl_alloc hb (.cells #[.slice a3' 0 c3', .slice b3' 1 d3'] 25)
  replace HB : Hid _ := bl_trans HB.out hu
  replace HTa : Hid _ := HTa.out.below hu
  replace K10 := cell_below hu K10
  replace K11 := cell_below hu K11
  clear hu
  have HTx : Hid _ := hT.below (bl_alloc (Below.refl w3.heap.size w3) (.cells #[.slice a3' 0 c3', .slice b3' 1 d3'] 25))
  have Kx0 : (w3.alloc (.cells #[.slice a3' 0 c3', .slice b3' 1 d3'] 25)).cell? ⟨w3.heap.size, 0, none⟩ = some (.slice a3' 0 c3') := by simp
  have Kx1 : (w3.alloc (.cells #[.slice a3' 0 c3', .slice b3' 1 d3'] 25)).cell? ⟨w3.heap.size, 1, none⟩ = some (.slice b3' 1 d3') := by simp
  clear hb hT
  go_wp2_with fail
  refine (hX _ HB.out).mono ?_
  rintro e w4 ⟨rfl, hb⟩
  have hu := bl_alloc hb (.cells #[.slice none 0 0, .slice none 0 0] 25)
  replace HB : Hid _ := bl_trans HB.out hu
  replace HTa : Hid _ := HTa.out.below hu
  replace HTx : Hid _ := HTx.out.below hu
  replace K10 := cell_below hu K10
  replace K11 := cell_below hu K11
  replace Kx0 := cell_below hu Kx0
  replace Kx1 := cell_below hu Kx1
  clear hu
  have Kt0 : (w4.alloc (.cells #[.slice none 0 0, .slice none 0 0] 25)).cell? ⟨w4.heap.size, 0, none⟩ = some (.slice none 0 0) := by simp
  have Kt1 : (w4.alloc (.cells #[.slice none 0 0, .slice none 0 0] 25)).cell? ⟨w4.heap.size, 1, none⟩ = some (.slice none 0 0) := by simp
  clear hb
  go_wp2_with fail
  refine (hE0 _ HB.out).mono ?_
  rintro e w5 ⟨rfl, hb⟩
  have hu := bl_alloc hb (.cells #[.slice none 0 0, .slice none 0 0] 25)
  replace HB : Hid _ := bl_trans HB.out hu
  replace HTa : Hid _ := HTa.out.below hu
  replace HTx : Hid _ := HTx.out.below hu
  replace K10 := cell_below hu K10
  replace K11 := cell_below hu K11
  replace Kx0 := cell_below hu Kx0
  replace Kx1 := cell_below hu Kx1
  replace Kt0 := cell_below hu Kt0
  replace Kt1 := cell_below hu Kt1
  clear hu
  have Ky0 : (w5.alloc (.cells #[.slice none 0 0, .slice none 0 0] 25)).cell? ⟨w5.heap.size, 0, none⟩ = some (.slice none 0 0) := by simp
  have Ky1 : (w5.alloc (.cells #[.slice none 0 0, .slice none 0 0] 25)).cell? ⟨w5.heap.size, 1, none⟩ = some (.slice none 0 0) := by simp
  clear hb
  go_wp2_with fail
  refine (zre c1 d1 c2 (HE.out.below HB.out) HTa.out (Sp.Sl.below HU.out HB.out) hr hm hn (by omega)).mono ?_
  rintro e w6 ⟨a6', c6', b6', d6', rfl, hT, hb⟩
  have hu := bl_alloc hb (.cells #[.slice a6' m2 c6', .slice b6' n1 d6'] 25)
  replace HB : Hid _ := bl_trans HB.out hu
  replace HTa : Hid _ := HTa.out.below hu
  replace HTx : Hid _ := HTx.out.below hu
  replace K10 := cell_below hu K10
  replace K11 := cell_below hu K11
  replace Kx0 := cell_below hu Kx0
  replace Kx1 := cell_below hu Kx1
  replace Kt0 := cell_below hu Kt0
  replace Kt1 := cell_below hu Kt1
  replace Ky0 := cell_below hu Ky0
  replace Ky1 := cell_below hu Ky1
  clear hu
  have HTr : Hid _ := hT.below (bl_alloc (Below.refl w6.heap.size w6) (.cells #[.slice a6' m2 c6', .slice b6' n1 d6'] 25))
  have Kr0 : (w6.alloc (.cells #[.slice a6' m2 c6', .slice b6' n1 d6'] 25)).cell? ⟨w6.heap.size, 0, none⟩ = some (.slice a6' m2 c6') := by simp
  have Kr1 : (w6.alloc (.cells #[.slice a6' m2 c6', .slice b6' n1 d6'] 25)).cell? ⟨w6.heap.size, 1, none⟩ = some (.slice b6' n1 d6') := by simp
  clear hb hT
  go_wp2_with fail
  refine (ztotal c6' d6' (HE.out.below HB.out) HTr.out (by omega)).mono ?_
  rintro e w7 ⟨a7', c7', b7', d7', rfl, hT, hb⟩
  have hu := bl_alloc hb (.cells #[.slice a7' 0 c7', .slice b7' 1 d7'] 25)
  replace HB : Hid _ := bl_trans HB.out hu
  replace HTa : Hid _ := HTa.out.below hu
  replace HTx : Hid _ := HTx.out.below hu
  replace HTr : Hid _ := HTr.out.below hu
  replace K10 := cell_below hu K10
  replace K11 := cell_below hu K11
  replace Kx0 := cell_below hu Kx0
  replace Kx1 := cell_below hu Kx1
  replace Kt0 := cell_below hu Kt0
  replace Kt1 := cell_below hu Kt1
  replace Ky0 := cell_below hu Ky0
  replace Ky1 := cell_below hu Ky1
  replace Kr0 := cell_below hu Kr0
  replace Kr1 := cell_below hu Kr1
  clear hu
  have HTz : Hid _ := hT.below (bl_alloc (Below.refl w7.heap.size w7) (.cells #[.slice a7' 0 c7', .slice b7' 1 d7'] 25))
  have Kz0 : (w7.alloc (.cells #[.slice a7' 0 c7', .slice b7' 1 d7'] 25)).cell? ⟨w7.heap.size, 0, none⟩ = some (.slice a7' 0 c7') := by simp
  have Kz1 : (w7.alloc (.cells #[.slice a7' 0 c7', .slice b7' 1 d7'] 25)).cell? ⟨w7.heap.size, 1, none⟩ = some (.slice b7' 1 d7') := by simp
  clear hb hT
  go_wp2_with fail
  refine (zeq c3' d3' c7' d7' HTx.out HTz.out rfl).mono ?_
  rintro e w8 ⟨rfl, hb⟩
  have hu := hb
  replace HB : Hid _ := bl_trans HB.out hu
  replace HTa : Hid _ := HTa.out.below hu
  replace HTx : Hid _ := HTx.out.below hu
  replace HTr : Hid _ := HTr.out.below hu
  replace HTz : Hid _ := HTz.out.below hu
  replace K10 := cell_below hu K10
  replace K11 := cell_below hu K11
  replace Kx0 := cell_below hu Kx0
  replace Kx1 := cell_below hu Kx1
  replace Kt0 := cell_below hu Kt0
  replace Kt1 := cell_below hu Kt1
  replace Ky0 := cell_below hu Ky0
  replace Ky1 := cell_below hu Ky1
  replace Kr0 := cell_below hu Kr0
  replace Kr1 := cell_below hu Kr1
  replace Kz0 := cell_below hu Kz0
  replace Kz1 := cell_below hu Kz1
  clear hu
  clear hb
  go_wp2_with fail
  refine (awake_any aF aZ _ (HE.out.below HB.out)).mono ?_
  rintro e w9 ⟨rfl, hb⟩
  have hu := hb
  replace HB : Hid _ := bl_trans HB.out hu
  replace HTa : Hid _ := HTa.out.below hu
  replace HTx : Hid _ := HTx.out.below hu
  replace HTr : Hid _ := HTr.out.below hu
  replace HTz : Hid _ := HTz.out.below hu
  replace K10 := cell_below hu K10
  replace K11 := cell_below hu K11
  replace Kx0 := cell_below hu Kx0
  replace Kx1 := cell_below hu Kx1
  replace Kt0 := cell_below hu Kt0
  replace Kt1 := cell_below hu Kt1
  replace Ky0 := cell_below hu Ky0
  replace Ky1 := cell_below hu Ky1
  replace Kr0 := cell_below hu Kr0
  replace Kr1 := cell_below hu Kr1
  replace Kz0 := cell_below hu Kz0
  replace Kz1 := cell_below hu Kz1
  clear hu
  clear hb
  go_wp2
  go_ret
  exact ⟨rfl, HB.out⟩

set_option maxHeartbeats 4000000 in
theorem totals_nn (a1 b1 : Option Addr) (c1 d1 m1 n1 : Nat) (a2 : Option Addr) (m2 c2 : Nat) (zs : List Int) (us : List Int) (qs : List Rat) (er : Int) (er2 : Int) (aF aZ : Addr) (w : World) (hE : Er w aF aZ)
    (hS1 : ∀ v, Below w.heap.size w v → Calls Tryz.prog 12 #[.agg #[.slice a1 m1 c1, .slice b1 n1 d1]] v fun e w' => e = .returned (.bool true) ∧ Below v.heap.size v w')
    (hR1 : ∀ v, Below w.heap.size w v → Calls Tryz.prog 16 #[.agg #[.slice a1 m1 c1, .slice b1 n1 d1]] v fun e w' => e = .returned (.bool true) ∧ Below v.heap.size v w')
    (hT : Tt w 0 a1 b1 zs m1 n1 qs 40) (hl : ¬ 10 < m2)
    (hX : ∀ v, Below w.heap.size w v → Calls Tryz.prog 15 #[.agg #[.slice a1 m1 c1, .slice b1 n1 d1]] v fun e w' => e = .returned (noTensor er) ∧ Below v.heap.size v w') (hne : (er != 0) = true)
    (hY : ∀ v, Below w.heap.size w v → Calls Tryz.prog 20 #[.agg #[.slice a1 m1 c1, .slice b1 n1 d1], .slice a2 m2 c2] v fun e w' => e = .returned (noTensor er2) ∧ Below v.heap.size v w') (hne2 : (er2 != 0) = true)
    (hE0 : ∀ v, Below w.heap.size w v → Calls Tryz.prog 21 #[.agg #[.slice none 0 0, .slice none 0 0]] v fun e w' => e = .returned (noTensor 1) ∧ Below v.heap.size v w') :
    Calls Tryz.prog 7 #[.agg #[.slice a1 m1 c1, .slice b1 n1 d1], .slice a2 m2 c2] w fun e w' => e = .returned (.bool true) ∧ Below w.heap.size w w' := by
  have HE : Hid _ := hE
  clear hE
  have HB : Hid (Below w.heap.size w w) := Below.refl _ _
  have hle := hT.le
  have HTa : Hid _ := hT
  clear hT
  have hu := bl_alloc (Below.refl w.heap.size w) (.cells #[.slice a1 m1 c1, .slice b1 n1 d1] 25)
  replace HB : Hid _ := bl_trans HB.out hu
  replace HTa : Hid _ := HTa.out.below hu
  clear hu
  have K10 : (w.alloc (.cells #[.slice a1 m1 c1, .slice b1 n1 d1] 25)).cell? ⟨w.heap.size, 0, none⟩ = some (.slice a1 m1 c1) := by first | rw [World.cell?_alloc_at _ _ _ _ (by simp)]; rfl | simp
  have K11 : (w.alloc (.cells #[.slice a1 m1 c1, .slice b1 n1 d1] 25)).cell? ⟨w.heap.size, 1, none⟩ = some (.slice b1 n1 d1) := by first | rw [World.cell?_alloc_at _ _ _ _ (by simp)]; rfl | simp
  go_enter Tryz.func7, Tryz.ntmps7
  go_wp2_with fail
  refine (hS1 _ HB.out).mono ?_
  rintro e w1 ⟨rfl, hb⟩
  have hu := hb
  replace HB : Hid _ := bl_trans HB.out hu
  replace HTa : Hid _ := HTa.out.below hu
  replace K10 := cell_below hu K10
  replace K11 := cell_below hu K11
  clear hu
  clear hb
  go_wp2_with fail
  refine (hR1 _ HB.out).mono ?_
  rintro e w2 ⟨rfl, hb⟩
  have hu := hb
  replace HB : Hid _ := bl_trans HB.out hu
  replace HTa : Hid _ := HTa.out.below hu
  replace K10 := cell_below hu K10
  replace K11 := cell_below hu K11
  clear hu
  clear hb
  go_wp2_with fail
  refine (ztotal c1 d1 (HE.out.below HB.out) HTa.out (by omega)).mono ?_
  rintro e w3 ⟨a3', c3', b3', d3', rfl, hT, hb⟩
  have hu := bl_alloc hb (.cells #[.slice a3' 0 c3', .slice b3' 1 d3'] 25)
  replace HB : Hid _ := bl_trans HB.out hu
  replace HTa : Hid _ := HTa.out.below hu
  replace K10 := cell_below hu K10
  replace K11 := cell_below hu K11
  clear hu
  have HTx : Hid _ := hT.below (bl_alloc (Below.refl w3.heap.size w3) (.cells #[.slice a3' 0 c3', .slice b3' 1 d3'] 25))
  have Kx0 : (w3.alloc (.cells #[.slice a3' 0 c3', .slice b3' 1 d3'] 25)).cell? ⟨w3.heap.size, 0, none⟩ = some (.slice a3' 0 c3') := by simp
  have Kx1 : (w3.alloc (.cells #[.slice a3' 0 c3', .slice b3' 1 d3'] 25)).cell? ⟨w3.heap.size, 1, none⟩ = some (.slice b3' 1 d3') := by simp
  clear hb hT
  go_wp2_with fail
  refine (hX _ HB.out).mono ?_
  rintro e w4 ⟨rfl, hb⟩
  have hu := bl_alloc hb (.cells #[.slice none 0 0, .slice none 0 0] 25)
  replace HB : Hid _ := bl_trans HB.out hu
  replace HTa : Hid _ := HTa.out.below hu
  replace HTx : Hid _ := HTx.out.below hu
  replace K10 := cell_below hu K10
  replace K11 := cell_below hu K11
  replace Kx0 := cell_below hu Kx0
  replace Kx1 := cell_below hu Kx1
  clear hu
  have Kt0 : (w4.alloc (.cells #[.slice none 0 0, .slice none 0 0] 25)).cell? ⟨w4.heap.size, 0, none⟩ = some (.slice none 0 0) := by simp
  have Kt1 : (w4.alloc (.cells #[.slice none 0 0, .slice none 0 0] 25)).cell? ⟨w4.heap.size, 1, none⟩ = some (.slice none 0 0) := by simp
  clear hb
  go_wp2_with fail
  refine (hE0 _ HB.out).mono ?_
  rintro e w5 ⟨rfl, hb⟩
  have hu := bl_alloc hb (.cells #[.slice none 0 0, .slice none 0 0] 25)
  replace HB : Hid _ := bl_trans HB.out hu
  replace HTa : Hid _ := HTa.out.below hu
  replace HTx : Hid _ := HTx.out.below hu
  replace K10 := cell_below hu K10
  replace K11 := cell_below hu K11
  replace Kx0 := cell_below hu Kx0
  replace Kx1 := cell_below hu Kx1
  replace Kt0 := cell_below hu Kt0
  replace Kt1 := cell_below hu Kt1
  clear hu
  have Ky0 : (w5.alloc (.cells #[.slice none 0 0, .slice none 0 0] 25)).cell? ⟨w5.heap.size, 0, none⟩ = some (.slice none 0 0) := by simp
  have Ky1 : (w5.alloc (.cells #[.slice none 0 0, .slice none 0 0] 25)).cell? ⟨w5.heap.size, 1, none⟩ = some (.slice none 0 0) := by simp
  clear hb
  go_wp2_with fail
  refine (hY _ HB.out).mono ?_
  rintro e w6 ⟨rfl, hb⟩
  have hu := bl_alloc hb (.cells #[.slice none 0 0, .slice none 0 0] 25)
  replace HB : Hid _ := bl_trans HB.out hu
  replace HTa : Hid _ := HTa.out.below hu
  replace HTx : Hid _ := HTx.out.below hu
  replace K10 := cell_below hu K10
  replace K11 := cell_below hu K11
  replace Kx0 := cell_below hu Kx0
  replace Kx1 := cell_below hu Kx1
  replace Kt0 := cell_below hu Kt0
  replace Kt1 := cell_below hu Kt1
  replace Ky0 := cell_below hu Ky0
  replace Ky1 := cell_below hu Ky1
  clear hu
  have Kr0 : (w6.alloc (.cells #[.slice none 0 0, .slice none 0 0] 25)).cell? ⟨w6.heap.size, 0, none⟩ = some (.slice none 0 0) := by simp
  have Kr1 : (w6.alloc (.cells #[.slice none 0 0, .slice none 0 0] 25)).cell? ⟨w6.heap.size, 1, none⟩ = some (.slice none 0 0) := by simp
  clear hb
  go_wp2_with fail
  refine (hE0 _ HB.out).mono ?_
  rintro e w7 ⟨rfl, hb⟩
  have hu := bl_alloc hb (.cells #[.slice none 0 0, .slice none 0 0] 25)
  replace HB : Hid _ := bl_trans HB.out hu
  replace HTa : Hid _ := HTa.out.below hu
  replace HTx : Hid _ := HTx.out.below hu
  replace K10 := cell_below hu K10
  replace K11 := cell_below hu K11
  replace Kx0 := cell_below hu Kx0
  replace Kx1 := cell_below hu Kx1
  replace Kt0 := cell_below hu Kt0
  replace Kt1 := cell_below hu Kt1
  replace Ky0 := cell_below hu Ky0
  replace Ky1 := cell_below hu Ky1
  replace Kr0 := cell_below hu Kr0
  replace Kr1 := cell_below hu Kr1
  clear hu
  have Kz0 : (w7.alloc (.cells #[.slice none 0 0, .slice none 0 0] 25)).cell? ⟨w7.heap.size, 0, none⟩ = some (.slice none 0 0) := by simp
  have Kz1 : (w7.alloc (.cells #[.slice none 0 0, .slice none 0 0] 25)).cell? ⟨w7.heap.size, 1, none⟩ = some (.slice none 0 0) := by simp
  clear hb
  go_wp2_with fail
  refine (awake_any aF aZ _ (HE.out.below HB.out)).mono ?_
  rintro e w8 ⟨rfl, hb⟩
  have hu := hb
  replace HB : Hid _ := bl_trans HB.out hu
  replace HTa : Hid _ := HTa.out.below hu
  replace HTx : Hid _ := HTx.out.below hu
  replace K10 := cell_below hu K10
  replace K11 := cell_below hu K11
  replace Kx0 := cell_below hu Kx0
  replace Kx1 := cell_below hu Kx1
  replace Kt0 := cell_below hu Kt0
  replace Kt1 := cell_below hu Kt1
  replace Ky0 := cell_below hu Ky0
  replace Ky1 := cell_below hu Ky1
  replace Kr0 := cell_below hu Kr0
  replace Kr1 := cell_below hu Kr1
  replace Kz0 := cell_below hu Kz0
  replace Kz1 := cell_below hu Kz1
  clear hu
  clear hb
  go_wp2
  go_ret
  exact ⟨rfl, HB.out⟩
end Go.Proofs.YtbfboippaejnmaaGreatDoor.Tn
