/-
  THE WALK OF ArrayScalars. Conditions: what the arguments hold.
-/
import Derived.Test.YtbfboippaejnmaaGreatDoorGz
namespace Go.Proofs.YtbfboippaejnmaaGreatDoor.Tn
set_option maxRecDepth 100000
open Go.RowKit Nm
set_option linter.unusedVariables false

set_option maxHeartbeats 4000000 in
theorem scal_long1 (k : ByteArray) (a2 : Option Addr) (m2 c2 : Nat) (aF aZ : Addr) (w : World) (hE : Er w aF aZ)
    (hk : 20 < k.size) :
    Calls Tryz.prog 10 #[.string k, .slice a2 m2 c2] w fun e w' => e = .returned (.bool true) ∧ Below w.heap.size w w' := by
  have HE : Hid _ := hE
  clear hE
  have HB : Hid (Below w.heap.size w w) := Below.refl _ _
  go_enter Tryz.func10, Tryz.ntmps10
  go_wp2_with fail
  refine (awake_any aF aZ _ (HE.out.below HB.out)).mono ?_
  rintro e w1 ⟨rfl, hb⟩
  have hu := hb
  replace HB : Hid _ := bl_trans HB.out hu
  clear hu
  clear hb
  go_wp2
  go_ret
  exact ⟨rfl, HB.out⟩

set_option maxHeartbeats 4000000 in
theorem scal_long2 (k : ByteArray) (a2 : Option Addr) (m2 c2 : Nat) (aF aZ : Addr) (w : World) (hE : Er w aF aZ)
    (hk : ¬ 20 < k.size) (hl : 10 < m2) :
    Calls Tryz.prog 10 #[.string k, .slice a2 m2 c2] w fun e w' => e = .returned (.bool true) ∧ Below w.heap.size w w' := by
  have HE : Hid _ := hE
  clear hE
  have HB : Hid (Below w.heap.size w w) := Below.refl _ _
  go_enter Tryz.func10, Tryz.ntmps10
  go_wp2_with fail
  refine (awake_any aF aZ _ (HE.out.below HB.out)).mono ?_
  rintro e w1 ⟨rfl, hb⟩
  have hu := hb
  replace HB : Hid _ := bl_trans HB.out hu
  clear hu
  clear hb
  go_wp2
  go_ret
  exact ⟨rfl, HB.out⟩

set_option maxHeartbeats 4000000 in
theorem scal_no (k : ByteArray) (a2 : Option Addr) (m2 c2 : Nat) (aF aZ : Addr) (w : World) (hE : Er w aF aZ)
    (hk : ¬ 20 < k.size) (hl : ¬ 10 < m2)
    (hZ : ∀ v b, Below w.heap.size w v → v.cell? ⟨b, 0, none⟩ = some (.string k) → Calls Tryz.prog 22 #[.agg #[.slice none 0 0, .slice (some ⟨b, 0, none⟩) 1 1], .slice a2 m2 c2] v fun e w' => e = .returned (noTensor 1) ∧ Below v.heap.size v w') :
    Calls Tryz.prog 10 #[.string k, .slice a2 m2 c2] w fun e w' => e = .returned (.bool true) ∧ Below w.heap.size w w' := by
  have HE : Hid _ := hE
  clear hE
  have HB : Hid (Below w.heap.size w w) := Below.refl _ _
  have hu := bl_alloc (Below.refl w.heap.size w) (.cells #[.string k] 9)
  replace HB : Hid _ := bl_trans HB.out hu
  clear hu
  have Kk0 : (w.alloc (.cells #[.string k] 9)).cell? ⟨w.heap.size, 0, none⟩ = some (.string k) := by first | rw [World.cell?_alloc_at _ _ _ _ (by simp)]; rfl | simp
  go_enter Tryz.func10, Tryz.ntmps10
  go_wp2_with fail
  refine (hZ _ _ HB.out Kk0).mono ?_
  rintro e w1 ⟨rfl, hb⟩
  have hu := bl_alloc hb (.cells #[.slice none 0 0, .slice none 0 0] 25)
  replace HB : Hid _ := bl_trans HB.out hu
  replace Kk0 := cell_below hu Kk0
  clear hu
  have Ka0 : (w1.alloc (.cells #[.slice none 0 0, .slice none 0 0] 25)).cell? ⟨w1.heap.size, 0, none⟩ = some (.slice none 0 0) := by simp
  have Ka1 : (w1.alloc (.cells #[.slice none 0 0, .slice none 0 0] 25)).cell? ⟨w1.heap.size, 1, none⟩ = some (.slice none 0 0) := by simp
  clear hb
  go_wp2_with fail
  refine (awake_any aF aZ _ (HE.out.below HB.out)).mono ?_
  rintro e w2 ⟨rfl, hb⟩
  have hu := hb
  replace HB : Hid _ := bl_trans HB.out hu
  replace Kk0 := cell_below hu Kk0
  replace Ka0 := cell_below hu Ka0
  replace Ka1 := cell_below hu Ka1
  clear hu
  clear hb
  go_wp2
  go_ret
  exact ⟨rfl, HB.out⟩

set_option maxHeartbeats 4000000 in
theorem scal_good (y : Rat) (a2 : Option Addr) (m2 c2 N : Nat) (us : List Int) (aF aZ : Addr) (w : World) (hE : Er w aF aZ)
    (hk : ¬ 20 < (R y).size) (hl : ¬ 10 < m2) (h2 : Sp.Sl w a2 us) (hr : Sp.Rgt us) (hm : us.length = m2) (hn : Sp.szI us = N) (hN : N ≤ 64) (hN1 : 1 ≤ N) :
    Calls Tryz.prog 10 #[.string (R y), .slice a2 m2 c2] w fun e w' => e = .returned (.bool true) ∧ Below w.heap.size w w' := by
  have HE : Hid _ := hE
  clear hE
  have HB : Hid (Below w.heap.size w w) := Below.refl _ _
  have HU : Hid (Sp.Sl w a2 us) := h2
  clear h2
  have hy : Bd y 20 := Bd.of_size (by omega)
  have hu := bl_alloc (Below.refl w.heap.size w) (.cells #[.string (R y)] 9)
  replace HB : Hid _ := bl_trans HB.out hu
  clear hu
  have Kk0 : (w.alloc (.cells #[.string (R y)] 9)).cell? ⟨w.heap.size, 0, none⟩ = some (.string (R y)) := by first | rw [World.cell?_alloc_at _ _ _ _ (by simp)]; rfl | simp
  go_enter Tryz.func10, Tryz.ntmps10
  go_wp2_with fail
  refine (zspread 0 1 c2 y (HE.out.below HB.out) (Tt.one (B := 0) Kk0 (Nat.zero_le _) hy) (Sp.Sl.below HU.out HB.out) hr hm hn (by omega)).mono ?_
  rintro e w1 ⟨a1', c1', b1', d1', rfl, hT, hb⟩
  have hu := bl_alloc hb (.cells #[.slice a1' m2 c1', .slice b1' N d1'] 25)
  replace HB : Hid _ := bl_trans HB.out hu
  replace Kk0 := cell_below hu Kk0
  clear hu
  have HTa : Hid _ := hT.below (bl_alloc (Below.refl w1.heap.size w1) (.cells #[.slice a1' m2 c1', .slice b1' N d1'] 25))
  have Ka0 : (w1.alloc (.cells #[.slice a1' m2 c1', .slice b1' N d1'] 25)).cell? ⟨w1.heap.size, 0, none⟩ = some (.slice a1' m2 c1') := by simp
  have Ka1 : (w1.alloc (.cells #[.slice a1' m2 c1', .slice b1' N d1'] 25)).cell? ⟨w1.heap.size, 1, none⟩ = some (.slice b1' N d1') := by simp
  clear hb hT
  go_wp2_with fail
  refine (ztotal c1' d1' (HE.out.below HB.out) HTa.out (by omega)).mono ?_
  rintro e w2 ⟨a2', c2', b2', d2', rfl, hT, hb⟩
  have hu := bl_alloc hb (.cells #[.slice a2' 0 c2', .slice b2' 1 d2'] 25)
  replace HB : Hid _ := bl_trans HB.out hu
  replace HTa : Hid _ := HTa.out.below hu
  replace Kk0 := cell_below hu Kk0
  replace Ka0 := cell_below hu Ka0
  replace Ka1 := cell_below hu Ka1
  clear hu
  have HTt : Hid _ := hT.below (bl_alloc (Below.refl w2.heap.size w2) (.cells #[.slice a2' 0 c2', .slice b2' 1 d2'] 25))
  have Kt0 : (w2.alloc (.cells #[.slice a2' 0 c2', .slice b2' 1 d2'] 25)).cell? ⟨w2.heap.size, 0, none⟩ = some (.slice a2' 0 c2') := by simp
  have Kt1 : (w2.alloc (.cells #[.slice a2' 0 c2', .slice b2' 1 d2'] 25)).cell? ⟨w2.heap.size, 1, none⟩ = some (.slice b2' 1 d2') := by simp
  clear hb hT
  obtain ⟨b8, o8, e8, x8⟩ := row_str HTt.out.tm.r (i := 0) (by simp)
  subst e8
  simp only [List.map_cons, List.map_nil, List.getD, List.getElem?_cons_zero, Option.getD_some, Nat.add_zero] at x8
  replace x8 := cell_below (Below.refl _ _) x8
  clear HTa HTt HU
  go_wp2_with fail
  generalize (w2.alloc (.cells #[.slice a2' 0 c2', .slice (some ⟨b8, o8, none⟩) 1 d2'] 25)) = u at *
  go_loopw [9, 48] (fun s i wr => ∃ j : Nat, j ≤ N ∧ i = .int .i64 j ∧ s = .string (R (tot (List.replicate j y))) ∧ Below u.heap.size u wr) (fun _ i _ => N - (intOf i).toNat)
  case atStart => exact ⟨0, by omega, rfl, by rw [List.replicate_zero, tot_nil, R0], Below.refl _ _⟩
  case round =>
  obtain ⟨j, hj, rfl, rfl, hG⟩ := hrel
  by_cases h : j < N
  · have hb := Bd.tot (l := List.replicate j y) (n := 20) (fun r hr => by rw [(List.mem_replicate.1 hr).2]; exact hy)
    rw [List.length_replicate] at hb
    have hA := Add_R (tot (List.replicate j y)) y wr (Bd.size hb (by omega)) (by omega)
    rw [← tot_snoc, ← List.replicate_succ'] at hA
    have HG : Hid _ := hG
    clear hG hb
    generalize R (tot (List.replicate j y)) = S0 at *
    go_wp2_with fail
    refine hA.mono ?_
    rintro e w4 ⟨rfl, hb⟩
    have HF : Hid _ := bl_trans HG.out hb
    clear hA hb HG
    go_wp2
    go_roundw
    case rel => exact ⟨j + 1, by omega, by go_num, rfl, HF.out⟩
    case measure => simp [intOf]; omega
  obtain rfl : N = j := by omega
  clear h hj
  have k0 := cell_below hG Ka0
  have k1 := cell_below hG Ka1
  have k2 := cell_below hG Kt0
  have k3 := cell_below hG Kt1
  replace x8 := cell_below hG x8
  replace HB : Hid _ := bl_trans HB.out hG
  clear hG Ka0 Ka1 Kt0 Kt1 Kk0
  generalize R (tot (List.replicate N y)) = S0 at *
  go_wp2_with fail
  refine (awake_any aF aZ _ (HE.out.below HB.out)).mono ?_
  rintro e w9 ⟨rfl, hb⟩
  have hu := hb
  replace HB : Hid _ := bl_trans HB.out hu
  clear hu
  clear hb
  go_wp2
  go_ret
  exact ⟨rfl, HB.out⟩
end Go.Proofs.YtbfboippaejnmaaGreatDoor.Tn
