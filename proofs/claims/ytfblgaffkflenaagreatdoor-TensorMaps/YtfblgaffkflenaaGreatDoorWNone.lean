/-
  THE WALK OF TensorNone. Conditions: what the argument holds.
-/
import Derived.Test.YtfblgaffkflenaaGreatDoorWPowers
namespace Go.Proofs.YtfblgaffkflenaaGreatDoor.Tn
set_option maxRecDepth 100000
open Go.RowKit Nm
set_option linter.unusedVariables false

theorem l0' : R 0 = ⟨#[48]⟩ := by decide +kernel
theorem tot_noughts (n : Nat) : tot (List.replicate n 0) = 0 := by
  induction n with
  | zero => rfl
  | succ n ih => rw [List.replicate_succ, tot_cons, ih]; decide +kernel

set_option maxHeartbeats 4000000 in
theorem none_long (a1 b1 : Option Addr) (c1 d1 m1 n1 : Nat) (aF aZ : Addr) (w : World) (hE : Er w aF aZ)
    (hS1 : ∀ v, Below w.heap.size w v → Calls Tryz.prog 12 #[.agg #[.slice a1 m1 c1, .slice b1 n1 d1]] v fun e w' => e = .returned (.bool false) ∧ Below v.heap.size v w') :
    Calls Tryz.prog 11 #[.agg #[.slice a1 m1 c1, .slice b1 n1 d1]] w fun e w' => e = .returned (.bool true) ∧ Below w.heap.size w w' := by
  have HE : Hid _ := hE
  clear hE
  have HB : Hid (Below w.heap.size w w) := Below.refl _ _
  have hu := bl_alloc (Below.refl w.heap.size w) (.cells #[.slice a1 m1 c1, .slice b1 n1 d1] 25)
  replace HB : Hid _ := bl_trans HB.out hu
  clear hu
  have K10 : (w.alloc (.cells #[.slice a1 m1 c1, .slice b1 n1 d1] 25)).cell? ⟨w.heap.size, 0, none⟩ = some (.slice a1 m1 c1) := by simp
  have K11 : (w.alloc (.cells #[.slice a1 m1 c1, .slice b1 n1 d1] 25)).cell? ⟨w.heap.size, 1, none⟩ = some (.slice b1 n1 d1) := by simp
  go_enter Tryz.func11, Tryz.ntmps11
  go_wp2_with fail
  refine (hS1 _ HB.out).mono ?_
  rintro e w1 ⟨rfl, hb⟩
  have hu := hb
  replace HB : Hid _ := bl_trans HB.out hu
  replace K10 := cell_below hu K10
  replace K11 := cell_below hu K11
  clear hu
  clear hb
  go_wp2_with fail
  refine (awake_any aF aZ _ (HE.out.below HB.out)).mono ?_
  rintro e w2 ⟨rfl, hb⟩
  have hu := hb
  replace HB : Hid _ := bl_trans HB.out hu
  replace K10 := cell_below hu K10
  replace K11 := cell_below hu K11
  clear hu
  clear hb
  go_wp2
  go_ret
  exact ⟨rfl, HB.out⟩

set_option maxHeartbeats 4000000 in
theorem none_bad (a1 b1 : Option Addr) (c1 d1 m1 n1 : Nat) (er : Int) (aF aZ : Addr) (w : World) (hE : Er w aF aZ)
    (hS1 : ∀ v, Below w.heap.size w v → Calls Tryz.prog 12 #[.agg #[.slice a1 m1 c1, .slice b1 n1 d1]] v fun e w' => e = .returned (.bool true) ∧ Below v.heap.size v w')
    (hZ : ∀ v, Below w.heap.size w v → Calls Tryz.prog 14 #[.string sSub, .agg #[.slice a1 m1 c1, .slice b1 n1 d1], .agg #[.slice a1 m1 c1, .slice b1 n1 d1]] v fun e w' => e = .returned (noTensor er) ∧ Below v.heap.size v w')
    (hR1 : ∀ v, Below w.heap.size w v → Calls Tryz.prog 15 #[.agg #[.slice a1 m1 c1, .slice b1 n1 d1]] v fun e w' => e = .returned (.bool false) ∧ Below v.heap.size v w') (hne : (er != 0) = true) :
    Calls Tryz.prog 11 #[.agg #[.slice a1 m1 c1, .slice b1 n1 d1]] w fun e w' => e = .returned (.bool true) ∧ Below w.heap.size w w' := by
  have HE : Hid _ := hE
  clear hE
  have HB : Hid (Below w.heap.size w w) := Below.refl _ _
  have hu := bl_alloc (Below.refl w.heap.size w) (.cells #[.slice a1 m1 c1, .slice b1 n1 d1] 25)
  replace HB : Hid _ := bl_trans HB.out hu
  clear hu
  have K10 : (w.alloc (.cells #[.slice a1 m1 c1, .slice b1 n1 d1] 25)).cell? ⟨w.heap.size, 0, none⟩ = some (.slice a1 m1 c1) := by simp
  have K11 : (w.alloc (.cells #[.slice a1 m1 c1, .slice b1 n1 d1] 25)).cell? ⟨w.heap.size, 1, none⟩ = some (.slice b1 n1 d1) := by simp
  go_enter Tryz.func11, Tryz.ntmps11
  go_wp2_with fail
  refine (hS1 _ HB.out).mono ?_
  rintro e w1 ⟨rfl, hb⟩
  have hu := hb
  replace HB : Hid _ := bl_trans HB.out hu
  replace K10 := cell_below hu K10
  replace K11 := cell_below hu K11
  clear hu
  clear hb
  go_wp2_with fail
  refine (hZ _ HB.out).mono ?_
  rintro e w2 ⟨rfl, hb⟩
  have hu := bl_alloc hb (.cells #[.slice none 0 0, .slice none 0 0] 25)
  replace HB : Hid _ := bl_trans HB.out hu
  replace K10 := cell_below hu K10
  replace K11 := cell_below hu K11
  clear hu
  have Kd0 : (w2.alloc (.cells #[.slice none 0 0, .slice none 0 0] 25)).cell? ⟨w2.heap.size, 0, none⟩ = some (.slice none 0 0) := by simp
  have Kd1 : (w2.alloc (.cells #[.slice none 0 0, .slice none 0 0] 25)).cell? ⟨w2.heap.size, 1, none⟩ = some (.slice none 0 0) := by simp
  clear hb
  go_wp2_with fail
  refine (hR1 _ HB.out).mono ?_
  rintro e w3 ⟨rfl, hb⟩
  have hu := hb
  replace HB : Hid _ := bl_trans HB.out hu
  replace K10 := cell_below hu K10
  replace K11 := cell_below hu K11
  replace Kd0 := cell_below hu Kd0
  replace Kd1 := cell_below hu Kd1
  clear hu
  clear hb
  go_wp2_with fail
  refine (awake_any aF aZ _ (HE.out.below HB.out)).mono ?_
  rintro e w4 ⟨rfl, hb⟩
  have hu := hb
  replace HB : Hid _ := bl_trans HB.out hu
  replace K10 := cell_below hu K10
  replace K11 := cell_below hu K11
  replace Kd0 := cell_below hu Kd0
  replace Kd1 := cell_below hu Kd1
  clear hu
  clear hb
  go_wp2
  go_ret
  exact ⟨rfl, HB.out⟩

set_option maxHeartbeats 4000000 in
theorem none_good (a1 b1 : Option Addr) (c1 d1 m1 n1 : Nat) (zs : List Int) (qs : List Rat) (aF aZ : Addr) (w : World) (hE : Er w aF aZ)
    (hS1 : ∀ v, Below w.heap.size w v → Calls Tryz.prog 12 #[.agg #[.slice a1 m1 c1, .slice b1 n1 d1]] v fun e w' => e = .returned (.bool true) ∧ Below v.heap.size v w') (hT : Tt w 0 a1 b1 zs m1 n1 qs 40) :
    Calls Tryz.prog 11 #[.agg #[.slice a1 m1 c1, .slice b1 n1 d1]] w fun e w' => e = .returned (.bool true) ∧ Below w.heap.size w w' := by
  have HE : Hid _ := hE
  clear hE
  have HB : Hid (Below w.heap.size w w) := Below.refl _ _
  have hle := hT.le
  have HTa : Hid _ := hT
  clear hT
  have hu := bl_alloc (Below.refl w.heap.size w) (.cells #[.slice a1 m1 c1, .slice b1 n1 d1] 25)
  replace HB : Hid _ := bl_trans HB.out hu
  replace HTa : Hid _ := HTa.out.below hu
  clear hu
  have K10 : (w.alloc (.cells #[.slice a1 m1 c1, .slice b1 n1 d1] 25)).cell? ⟨w.heap.size, 0, none⟩ = some (.slice a1 m1 c1) := by simp
  have K11 : (w.alloc (.cells #[.slice a1 m1 c1, .slice b1 n1 d1] 25)).cell? ⟨w.heap.size, 1, none⟩ = some (.slice b1 n1 d1) := by simp
  go_enter Tryz.func11, Tryz.ntmps11
  go_wp2_with fail
  refine (hS1 _ HB.out).mono ?_
  rintro e w1 ⟨rfl, hb⟩
  have hu := hb
  replace HB : Hid _ := bl_trans HB.out hu
  replace HTa : Hid _ := HTa.out.below hu
  replace K10 := cell_below hu K10
  replace K11 := cell_below hu K11
  clear hu
  clear hb
  go_wp2_with fail
  refine (zsub c1 d1 c1 d1 (HE.out.below HB.out) HTa.out HTa.out (by omega)).mono ?_
  rintro e w2 ⟨a2', c2', b2', d2', rfl, hT, hb⟩
  have hu := bl_alloc hb (.cells #[.slice a2' m1 c2', .slice b2' n1 d2'] 25)
  replace HB : Hid _ := bl_trans HB.out hu
  replace HTa : Hid _ := HTa.out.below hu
  replace K10 := cell_below hu K10
  replace K11 := cell_below hu K11
  clear hu
  have HTd : Hid _ := hT.below (bl_alloc (Below.refl w2.heap.size w2) (.cells #[.slice a2' m1 c2', .slice b2' n1 d2'] 25))
  have Kd0 : (w2.alloc (.cells #[.slice a2' m1 c2', .slice b2' n1 d2'] 25)).cell? ⟨w2.heap.size, 0, none⟩ = some (.slice a2' m1 c2') := by simp
  have Kd1 : (w2.alloc (.cells #[.slice a2' m1 c2', .slice b2' n1 d2'] 25)).cell? ⟨w2.heap.size, 1, none⟩ = some (.slice b2' n1 d2') := by simp
  clear hb hT
  replace HTd : Hid _ := HTd.out.eqv (zip_self qs)
  have HTd2 : Hid _ := HTd
  have e0 : (HTd2.out.hn.symm : n1 = _) = (HTd2.out.hn.symm : n1 = _) := rfl
  clear e0
  obtain ⟨p, q, eb, _⟩ := row_str HTd.out.tm.r (i := 0) (by rw [mapR_len, HTd.out.hn]; omega)
  have HRow : Hid (∀ i, i < n1 → (w2.alloc (.cells #[.slice a2' m1 c2', .slice b2' n1 d2'] 25)).cell? ⟨p, q + i, none⟩ = some (.string ⟨#[48]⟩)) := fun i hi => by
    obtain ⟨p', q', eb', hc⟩ := row_str HTd.out.tm.r (i := i) (by rw [mapR_len, HTd.out.hn]; exact hi)
    rw [eb] at eb'
    cases eb'
    rw [hc, mapR_at _ (by rw [HTd.out.hn]; exact hi)]
    have hq : i < qs.length := by have := HTa.out.hn; omega
    have e1 : (List.replicate qs.length (0 : Rat)).getD i 0 = 0 := by simp [List.getD, hq]
    rw [e1, l0']
  clear HTd2
  subst eb
  go_wp2_with fail
  go_loop [6, 36] (fun _ i => ∃ k : Nat, k ≤ n1 ∧ i = .int .i64 k) (fun _ i => n1 - (intOf i).toNat)
  case atStart => exact ⟨0, by omega, rfl⟩
  case round =>
    obtain ⟨k, hk, rfl⟩ := hrel
    by_cases h : k < n1
    · have hc := HRow.out k h
      go_wp2
      go_round
      case rel => exact ⟨k + 1, by omega, by go_num⟩
      case measure => simp [intOf]; omega
    ·
      have hk := zsum c2' d2' (HE.out.below HB.out) HTd.out (by omega)
      rw [tot_noughts, l0'] at hk
      go_wp2_with fail
      refine (hk).mono ?_
      rintro e w3 ⟨rfl, hb⟩
      have hu := hb
      replace HB : Hid _ := bl_trans HB.out hu
      replace HTa : Hid _ := HTa.out.below hu
      replace HTd : Hid _ := HTd.out.below hu
      replace K10 := cell_below hu K10
      replace K11 := cell_below hu K11
      replace Kd0 := cell_below hu Kd0
      replace Kd1 := cell_below hu Kd1
      clear hu
      clear hb
      clear hk
      go_wp2_with fail
      refine (awake_any aF aZ _ (HE.out.below HB.out)).mono ?_
      rintro e w4 ⟨rfl, hb⟩
      have hu := hb
      replace HB : Hid _ := bl_trans HB.out hu
      replace HTa : Hid _ := HTa.out.below hu
      replace HTd : Hid _ := HTd.out.below hu
      replace K10 := cell_below hu K10
      replace K11 := cell_below hu K11
      replace Kd0 := cell_below hu Kd0
      replace Kd1 := cell_below hu Kd1
      clear hu
      clear hb
      go_wp2
      go_ret
      exact ⟨rfl, HB.out⟩
end Go.Proofs.YtfblgaffkflenaaGreatDoor.Tn
