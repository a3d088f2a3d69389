/-
  THE WALK OF KinkFlat. Conditions: what the arguments hold.
-/
import Derived.Test.YtjkobbpebnkimaaGreatDoorKl
namespace Go.Proofs.YtjkobbpebnkimaaGreatDoor.Tn
set_option maxRecDepth 100000
open Go.RowKit Nm
set_option linter.unusedVariables false

set_option maxHeartbeats 4000000 in
theorem lflat_long (a1 b1 : Option Addr) (c1 d1 m1 n1 : Nat) (aF aZ : Addr) (w : World) (hE : Er w aF aZ)
    (hS1 : ∀ v, Below w.heap.size w v → Calls Tryz.prog 11 #[.agg #[.slice a1 m1 c1, .slice b1 n1 d1]] v fun e w' => e = .returned (.bool false) ∧ Below v.heap.size v w') :
    Calls Tryz.prog 9 #[.agg #[.slice a1 m1 c1, .slice b1 n1 d1]] w fun e w' => e = .returned (.bool true) ∧ Below w.heap.size w w' := by
  have HE : Hid _ := hE
  clear hE
  have HB : Hid (Below w.heap.size w w) := Below.refl _ _
  have hu := bl_alloc (Below.refl w.heap.size w) (.cells #[.slice a1 m1 c1, .slice b1 n1 d1] 25)
  replace HB : Hid _ := bl_trans HB.out hu
  clear hu
  have K10 : (w.alloc (.cells #[.slice a1 m1 c1, .slice b1 n1 d1] 25)).cell? ⟨w.heap.size, 0, none⟩ = some (.slice a1 m1 c1) := by first | rw [World.cell?_alloc_at _ _ _ _ (by simp)]; rfl | simp
  have K11 : (w.alloc (.cells #[.slice a1 m1 c1, .slice b1 n1 d1] 25)).cell? ⟨w.heap.size, 1, none⟩ = some (.slice b1 n1 d1) := by first | rw [World.cell?_alloc_at _ _ _ _ (by simp)]; rfl | simp
  go_enter Tryz.func9, Tryz.ntmps9
  go_wp2_with fail
  refine (hS1 _ HB.out).mono ?_
  rintro e w1 ⟨rfl, hb⟩
  have hu := hb
  replace HB : Hid _ := bl_trans HB.out hu
  replace K10 := cell_below hu K10
  replace K11 := cell_below hu K11
  clear hu
  clear hb
  go_wp2_with fail
  refine (awake_any aF aZ _ (HE.out.below HB.out)).mono ?_
  rintro e w2 ⟨rfl, hb⟩
  have hu := hb
  replace HB : Hid _ := bl_trans HB.out hu
  replace K10 := cell_below hu K10
  replace K11 := cell_below hu K11
  clear hu
  clear hb
  go_wp2
  go_ret
  exact ⟨rfl, HB.out⟩

set_option maxHeartbeats 4000000 in
theorem lflat_no (a1 b1 : Option Addr) (c1 d1 m1 n1 : Nat) (er : Int) (aF aZ : Addr) (w : World) (hE : Er w aF aZ)
    (hS1 : ∀ v, Below w.heap.size w v → Calls Tryz.prog 11 #[.agg #[.slice a1 m1 c1, .slice b1 n1 d1]] v fun e w' => e = .returned (.bool true) ∧ Below v.heap.size v w')
    (hZ : ∀ v, Below w.heap.size w v → Calls Tryz.prog 14 #[.agg #[.slice a1 m1 c1, .slice b1 n1 d1]] v fun e w' => e = .returned (noTensor er) ∧ Below v.heap.size v w') (hne : (er != 0) = true) :
    Calls Tryz.prog 9 #[.agg #[.slice a1 m1 c1, .slice b1 n1 d1]] w fun e w' => e = .returned (.bool true) ∧ Below w.heap.size w w' := by
  have HE : Hid _ := hE
  clear hE
  have HB : Hid (Below w.heap.size w w) := Below.refl _ _
  have hu := bl_alloc (Below.refl w.heap.size w) (.cells #[.slice a1 m1 c1, .slice b1 n1 d1] 25)
  replace HB : Hid _ := bl_trans HB.out hu
  clear hu
  have K10 : (w.alloc (.cells #[.slice a1 m1 c1, .slice b1 n1 d1] 25)).cell? ⟨w.heap.size, 0, none⟩ = some (.slice a1 m1 c1) := by first | rw [World.cell?_alloc_at _ _ _ _ (by simp)]; rfl | simp
  have K11 : (w.alloc (.cells #[.slice a1 m1 c1, .slice b1 n1 d1] 25)).cell? ⟨w.heap.size, 1, none⟩ = some (.slice b1 n1 d1) := by first | rw [World.cell?_alloc_at _ _ _ _ (by simp)]; rfl | simp
  go_enter Tryz.func9, Tryz.ntmps9
  go_wp2_with fail
  refine (hS1 _ HB.out).mono ?_
  rintro e w1 ⟨rfl, hb⟩
  have hu := hb
  replace HB : Hid _ := bl_trans HB.out hu
  replace K10 := cell_below hu K10
  replace K11 := cell_below hu K11
  clear hu
  clear hb
  go_wp2_with fail
  refine (hZ _ HB.out).mono ?_
  rintro e w2 ⟨rfl, hb⟩
  have hu := bl_alloc hb (.cells #[.slice none 0 0, .slice none 0 0] 25)
  replace HB : Hid _ := bl_trans HB.out hu
  replace K10 := cell_below hu K10
  replace K11 := cell_below hu K11
  clear hu
  have Km0 : (w2.alloc (.cells #[.slice none 0 0, .slice none 0 0] 25)).cell? ⟨w2.heap.size, 0, none⟩ = some (.slice none 0 0) := by simp
  have Km1 : (w2.alloc (.cells #[.slice none 0 0, .slice none 0 0] 25)).cell? ⟨w2.heap.size, 1, none⟩ = some (.slice none 0 0) := by simp
  clear hb
  go_wp2_with fail
  refine (awake_any aF aZ _ (HE.out.below HB.out)).mono ?_
  rintro e w3 ⟨rfl, hb⟩
  have hu := hb
  replace HB : Hid _ := bl_trans HB.out hu
  replace K10 := cell_below hu K10
  replace K11 := cell_below hu K11
  replace Km0 := cell_below hu Km0
  replace Km1 := cell_below hu Km1
  clear hu
  clear hb
  go_wp2
  go_ret
  exact ⟨rfl, HB.out⟩

set_option maxHeartbeats 4000000 in
theorem lflat_good (a1 b1 : Option Addr) (c1 d1 m n : Nat) (zs : List Int) (qs : List Rat) (aF aZ : Addr) (w : World) (hE : Er w aF aZ)
    (hS1 : ∀ v, Below w.heap.size w v → Calls Tryz.prog 11 #[.agg #[.slice a1 m c1, .slice b1 n d1]] v fun e w' => e = .returned (.bool true) ∧ Below v.heap.size v w')
    (hT1 : Tt w 0 a1 b1 zs m n qs 40) :
    Calls Tryz.prog 9 #[.agg #[.slice a1 m c1, .slice b1 n d1]] w fun e w' => e = .returned (.bool true) ∧ Below w.heap.size w w' := by
  have HE : Hid _ := hE
  clear hE
  have HB : Hid (Below w.heap.size w w) := Below.refl _ _
  have HL : Hid (qs.length = n) := hT1.hn
  have hle := hT1.le
  have HTa : Hid _ := hT1
  clear hT1
  have hu := bl_alloc (Below.refl w.heap.size w) (.cells #[.slice a1 m c1, .slice b1 n d1] 25)
  replace HB : Hid _ := bl_trans HB.out hu
  replace HTa : Hid _ := HTa.out.below hu
  clear hu
  have K10 : (w.alloc (.cells #[.slice a1 m c1, .slice b1 n d1] 25)).cell? ⟨w.heap.size, 0, none⟩ = some (.slice a1 m c1) := by first | rw [World.cell?_alloc_at _ _ _ _ (by simp)]; rfl | simp
  have K11 : (w.alloc (.cells #[.slice a1 m c1, .slice b1 n d1] 25)).cell? ⟨w.heap.size, 1, none⟩ = some (.slice b1 n d1) := by first | rw [World.cell?_alloc_at _ _ _ _ (by simp)]; rfl | simp
  go_enter Tryz.func9, Tryz.ntmps9
  go_wp2_with fail
  refine (hS1 _ HB.out).mono ?_
  rintro e w1 ⟨rfl, hb⟩
  have hu := hb
  replace HB : Hid _ := bl_trans HB.out hu
  replace HTa : Hid _ := HTa.out.below hu
  replace K10 := cell_below hu K10
  replace K11 := cell_below hu K11
  clear hu
  clear hb
  go_wp2_with fail
  refine (zabs c1 d1 (HE.out.below HB.out) HTa.out (by omega)).mono ?_
  rintro e w2 ⟨a2', c2', b2', d2', rfl, hT, hb⟩
  have hu := bl_alloc hb (.cells #[.slice a2' m c2', .slice b2' n d2'] 25)
  replace HB : Hid _ := bl_trans HB.out hu
  replace HTa : Hid _ := HTa.out.below hu
  replace K10 := cell_below hu K10
  replace K11 := cell_below hu K11
  clear hu
  have HTb : Hid _ := hT.below (bl_alloc (Below.refl w2.heap.size w2) (.cells #[.slice a2' m c2', .slice b2' n d2'] 25))
  have Kb0 : (w2.alloc (.cells #[.slice a2' m c2', .slice b2' n d2'] 25)).cell? ⟨w2.heap.size, 0, none⟩ = some (.slice a2' m c2') := by simp
  have Kb1 : (w2.alloc (.cells #[.slice a2' m c2', .slice b2' n d2'] 25)).cell? ⟨w2.heap.size, 1, none⟩ = some (.slice b2' n d2') := by simp
  clear hb hT
  go_wp2_with fail
  refine (zflat c1 d1 (HE.out.below HB.out) HTa.out (by omega)).mono ?_
  rintro e w3 ⟨rfl, hb⟩
  have hu := hb
  replace HB : Hid _ := bl_trans HB.out hu
  replace HTa : Hid _ := HTa.out.below hu
  replace HTb : Hid _ := HTb.out.below hu
  replace K10 := cell_below hu K10
  replace K11 := cell_below hu K11
  replace Kb0 := cell_below hu Kb0
  replace Kb1 := cell_below hu Kb1
  clear hu
  clear hb
  have hk := zflat c2' d2' (HE.out.below HB.out) HTb.out (by omega)
  rw [zero_abs] at hk
  go_wp2_with fail
  refine (hk).mono ?_
  rintro e w4 ⟨rfl, hb⟩
  have hu := hb
  replace HB : Hid _ := bl_trans HB.out hu
  replace HTa : Hid _ := HTa.out.below hu
  replace HTb : Hid _ := HTb.out.below hu
  replace K10 := cell_below hu K10
  replace K11 := cell_below hu K11
  replace Kb0 := cell_below hu Kb0
  replace Kb1 := cell_below hu Kb1
  clear hu
  clear hb
  clear hk
  go_wp2_with fail
  refine (zsum c2' d2' (HE.out.below HB.out) HTb.out (by omega)).mono ?_
  rintro e w5 ⟨rfl, hb⟩
  have hu := hb
  replace HB : Hid _ := bl_trans HB.out hu
  replace HTa : Hid _ := HTa.out.below hu
  replace HTb : Hid _ := HTb.out.below hu
  replace K10 := cell_below hu K10
  replace K11 := cell_below hu K11
  replace Kb0 := cell_below hu Kb0
  replace Kb1 := cell_below hu Kb1
  clear hu
  clear hb
  have HRow : Hid _ := fun i (h : i < n) => row_str HTa.out.tm.r (i := i) (by rw [mapR_len, HL.out]; exact h)
  have HM : Hid _ := fun i (h : i < n) => mapR_at qs (i := i) (by rw [HL.out]; exact h)
  have HSn : Hid _ := fun i (h : i < n) => zeros_snoc qs (k := i) (by rw [HL.out]; exact h)
  have HEnd : Hid _ := fun i (h : ¬ i < n) => take_all qs (k := i) HL.out h
  have HT0 : Hid _ := tot_eq0 qs
  have HZ0 : Hid (zeros qs = true → zero qs = true) := fun h => zeros_zero h (by rw [HL.out]; omega)
  generalize zero qs = zz at *
  generalize R (tot (qs.map kAbs)) = st at *
  go_wp2_with fail
  go_loopw [11, 50] (fun al i wr => ∃ k : Nat, k ≤ n ∧ i = .int .i64 k ∧ al = .bool (zeros (qs.take k)) ∧ wr = w5) (fun _ i _ => n - (intOf i).toNat)
  case atStart => exact ⟨0, by omega, rfl, rfl, rfl⟩
  case round =>
    obtain ⟨k, hk, rfl, rfl, rfl⟩ := hrel
    by_cases h : k < n
    · obtain ⟨b, off, rfl, hc⟩ := HRow.out k h
      rw [HM.out k h] at hc
      have he := eq0 (qs.getD k 0)
      have hs := HSn.out k h
      rw [← he] at hs
      generalize R (qs.getD k 0) = x at *
      have HC : Hid _ := hs
      clear he hs
      cases hz : zeros (qs.take k)
      all_goals cases hx : x.toList == [48]
      all_goals
        rw [hz, hx] at HC
        go_wp2
        go_roundw
        case rel => exact ⟨k + 1, by omega, by go_num, by rw [HC.out]; rfl, by first | rfl | trivial⟩
        case measure => simp [intOf]; omega
    · rw [HEnd.out k h]
      have ht := HT0.out
      have hz := HZ0.out
      cases hq : zeros qs
      all_goals rw [hq] at ht hz
      · cases zz
        all_goals
          go_wp2_with fail
          refine (awake_any aF aZ _ (HE.out.below HB.out)).mono ?_
          rintro e w9 ⟨rfl, hb⟩
          have HB9 : Hid _ := bl_trans HB.out hb
          clear hb
          go_wp2
          go_ret
          exact ⟨rfl, HB9.out⟩
      · have hz := hz rfl
        subst hz
        go_wp2_with fail
        refine (awake_any aF aZ _ (HE.out.below HB.out)).mono ?_
        rintro e w9 ⟨rfl, hb⟩
        have HB9 : Hid _ := bl_trans HB.out hb
        clear hb
        go_wp2
        go_ret
        exact ⟨rfl, HB9.out⟩
end Go.Proofs.YtjkobbpebnkimaaGreatDoor.Tn
