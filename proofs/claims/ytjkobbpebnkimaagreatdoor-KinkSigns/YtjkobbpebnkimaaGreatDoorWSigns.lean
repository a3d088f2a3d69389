/-
  THE WALK OF KinkSigns. Conditions: what the arguments hold.
-/
import Derived.Test.YtjkobbpebnkimaaGreatDoorKm
namespace Go.Proofs.YtjkobbpebnkimaaGreatDoor.Tn
set_option maxRecDepth 100000
open Go.RowKit Nm
set_option linter.unusedVariables false

set_option maxHeartbeats 4000000 in
theorem lsigns_long (a1 b1 : Option Addr) (c1 d1 m1 n1 : Nat) (aF aZ : Addr) (w : World) (hE : Er w aF aZ)
    (hS1 : ∀ v, Below w.heap.size w v → Calls Tryz.prog 11 #[.agg #[.slice a1 m1 c1, .slice b1 n1 d1]] v fun e w' => e = .returned (.bool false) ∧ Below v.heap.size v w') :
    Calls Tryz.prog 7 #[.agg #[.slice a1 m1 c1, .slice b1 n1 d1]] w fun e w' => e = .returned (.bool true) ∧ Below w.heap.size w w' := by
  have HE : Hid _ := hE
  clear hE
  have HB : Hid (Below w.heap.size w w) := Below.refl _ _
  have hu := bl_alloc (Below.refl w.heap.size w) (.cells #[.slice a1 m1 c1, .slice b1 n1 d1] 25)
  replace HB : Hid _ := bl_trans HB.out hu
  clear hu
  have K10 : (w.alloc (.cells #[.slice a1 m1 c1, .slice b1 n1 d1] 25)).cell? ⟨w.heap.size, 0, none⟩ = some (.slice a1 m1 c1) := by first | rw [World.cell?_alloc_at _ _ _ _ (by simp)]; rfl | simp
  have K11 : (w.alloc (.cells #[.slice a1 m1 c1, .slice b1 n1 d1] 25)).cell? ⟨w.heap.size, 1, none⟩ = some (.slice b1 n1 d1) := by first | rw [World.cell?_alloc_at _ _ _ _ (by simp)]; rfl | simp
  go_enter Tryz.func7, Tryz.ntmps7
  go_wp2_with fail
  refine (hS1 _ HB.out).mono ?_
  rintro e w1 ⟨rfl, hb⟩
  have hu := hb
  replace HB : Hid _ := bl_trans HB.out hu
  replace K10 := cell_below hu K10
  replace K11 := cell_below hu K11
  clear hu
  clear hb
  go_wp2_with fail
  refine (awake_any aF aZ _ (HE.out.below HB.out)).mono ?_
  rintro e w2 ⟨rfl, hb⟩
  have hu := hb
  replace HB : Hid _ := bl_trans HB.out hu
  replace K10 := cell_below hu K10
  replace K11 := cell_below hu K11
  clear hu
  clear hb
  go_wp2
  go_ret
  exact ⟨rfl, HB.out⟩

set_option maxHeartbeats 4000000 in
theorem lsigns_no (a1 b1 : Option Addr) (c1 d1 m1 n1 : Nat) (er : Int) (aF aZ : Addr) (w : World) (hE : Er w aF aZ)
    (hS1 : ∀ v, Below w.heap.size w v → Calls Tryz.prog 11 #[.agg #[.slice a1 m1 c1, .slice b1 n1 d1]] v fun e w' => e = .returned (.bool true) ∧ Below v.heap.size v w')
    (hZ : ∀ v, Below w.heap.size w v → Calls Tryz.prog 16 #[.agg #[.slice a1 m1 c1, .slice b1 n1 d1]] v fun e w' => e = .returned (noTensor er) ∧ Below v.heap.size v w') (hne : (er != 0) = true) :
    Calls Tryz.prog 7 #[.agg #[.slice a1 m1 c1, .slice b1 n1 d1]] w fun e w' => e = .returned (.bool true) ∧ Below w.heap.size w w' := by
  have HE : Hid _ := hE
  clear hE
  have HB : Hid (Below w.heap.size w w) := Below.refl _ _
  have hu := bl_alloc (Below.refl w.heap.size w) (.cells #[.slice a1 m1 c1, .slice b1 n1 d1] 25)
  replace HB : Hid _ := bl_trans HB.out hu
  clear hu
  have K10 : (w.alloc (.cells #[.slice a1 m1 c1, .slice b1 n1 d1] 25)).cell? ⟨w.heap.size, 0, none⟩ = some (.slice a1 m1 c1) := by first | rw [World.cell?_alloc_at _ _ _ _ (by simp)]; rfl | simp
  have K11 : (w.alloc (.cells #[.slice a1 m1 c1, .slice b1 n1 d1] 25)).cell? ⟨w.heap.size, 1, none⟩ = some (.slice b1 n1 d1) := by first | rw [World.cell?_alloc_at _ _ _ _ (by simp)]; rfl | simp
  go_enter Tryz.func7, Tryz.ntmps7
  go_wp2_with fail
  refine (hS1 _ HB.out).mono ?_
  rintro e w1 ⟨rfl, hb⟩
  have hu := hb
  replace HB : Hid _ := bl_trans HB.out hu
  replace K10 := cell_below hu K10
  replace K11 := cell_below hu K11
  clear hu
  clear hb
  go_wp2_with fail
  refine (hZ _ HB.out).mono ?_
  rintro e w2 ⟨rfl, hb⟩
  have hu := bl_alloc hb (.cells #[.slice none 0 0, .slice none 0 0] 25)
  replace HB : Hid _ := bl_trans HB.out hu
  replace K10 := cell_below hu K10
  replace K11 := cell_below hu K11
  clear hu
  have Km0 : (w2.alloc (.cells #[.slice none 0 0, .slice none 0 0] 25)).cell? ⟨w2.heap.size, 0, none⟩ = some (.slice none 0 0) := by simp
  have Km1 : (w2.alloc (.cells #[.slice none 0 0, .slice none 0 0] 25)).cell? ⟨w2.heap.size, 1, none⟩ = some (.slice none 0 0) := by simp
  clear hb
  go_wp2_with fail
  refine (awake_any aF aZ _ (HE.out.below HB.out)).mono ?_
  rintro e w3 ⟨rfl, hb⟩
  have hu := hb
  replace HB : Hid _ := bl_trans HB.out hu
  replace K10 := cell_below hu K10
  replace K11 := cell_below hu K11
  replace Km0 := cell_below hu Km0
  replace Km1 := cell_below hu Km1
  clear hu
  clear hb
  go_wp2
  go_ret
  exact ⟨rfl, HB.out⟩

set_option maxHeartbeats 4000000 in
theorem lsigns_good (a1 b1 : Option Addr) (c1 d1 m n : Nat) (zs : List Int) (qs : List Rat) (aF aZ : Addr) (w : World) (hE : Er w aF aZ)
    (hS1 : ∀ v, Below w.heap.size w v → Calls Tryz.prog 11 #[.agg #[.slice a1 m c1, .slice b1 n d1]] v fun e w' => e = .returned (.bool true) ∧ Below v.heap.size v w')
    (hT1 : Tt w 0 a1 b1 zs m n qs 40) :
    Calls Tryz.prog 7 #[.agg #[.slice a1 m c1, .slice b1 n d1]] w fun e w' => e = .returned (.bool true) ∧ Below w.heap.size w w' := by
  have HE : Hid _ := hE
  clear hE
  have HB : Hid (Below w.heap.size w w) := Below.refl _ _
  have HL : Hid (qs.length = n) := hT1.hn
  have hle := hT1.le
  have HTa : Hid _ := hT1
  clear hT1
  have hu := bl_alloc (Below.refl w.heap.size w) (.cells #[.slice a1 m c1, .slice b1 n d1] 25)
  replace HB : Hid _ := bl_trans HB.out hu
  replace HTa : Hid _ := HTa.out.below hu
  clear hu
  have K10 : (w.alloc (.cells #[.slice a1 m c1, .slice b1 n d1] 25)).cell? ⟨w.heap.size, 0, none⟩ = some (.slice a1 m c1) := by first | rw [World.cell?_alloc_at _ _ _ _ (by simp)]; rfl | simp
  have K11 : (w.alloc (.cells #[.slice a1 m c1, .slice b1 n d1] 25)).cell? ⟨w.heap.size, 1, none⟩ = some (.slice b1 n d1) := by first | rw [World.cell?_alloc_at _ _ _ _ (by simp)]; rfl | simp
  go_enter Tryz.func7, Tryz.ntmps7
  go_wp2_with fail
  refine (hS1 _ HB.out).mono ?_
  rintro e w1 ⟨rfl, hb⟩
  have hu := hb
  replace HB : Hid _ := bl_trans HB.out hu
  replace HTa : Hid _ := HTa.out.below hu
  replace K10 := cell_below hu K10
  replace K11 := cell_below hu K11
  clear hu
  clear hb
  go_wp2_with fail
  refine (zsign c1 d1 (HE.out.below HB.out) HTa.out (by omega)).mono ?_
  rintro e w2 ⟨a2', c2', b2', d2', rfl, hT, hb⟩
  have hu := bl_alloc hb (.cells #[.slice a2' m c2', .slice b2' n d2'] 25)
  replace HB : Hid _ := bl_trans HB.out hu
  replace HTa : Hid _ := HTa.out.below hu
  replace K10 := cell_below hu K10
  replace K11 := cell_below hu K11
  clear hu
  have HTs : Hid _ := hT.below (bl_alloc (Below.refl w2.heap.size w2) (.cells #[.slice a2' m c2', .slice b2' n d2'] 25))
  have Ks0 : (w2.alloc (.cells #[.slice a2' m c2', .slice b2' n d2'] 25)).cell? ⟨w2.heap.size, 0, none⟩ = some (.slice a2' m c2') := by simp
  have Ks1 : (w2.alloc (.cells #[.slice a2' m c2', .slice b2' n d2'] 25)).cell? ⟨w2.heap.size, 1, none⟩ = some (.slice b2' n d2') := by simp
  clear hb hT
  go_wp2_with fail
  refine (zmul c2' d2' c2' d2' (HE.out.below HB.out) HTs.out HTs.out (by omega)).mono ?_
  rintro e w3 ⟨a3', c3', b3', d3', rfl, hT, hb⟩
  have hu := bl_alloc hb (.cells #[.slice a3' m c3', .slice b3' n d3'] 25)
  replace HB : Hid _ := bl_trans HB.out hu
  replace HTa : Hid _ := HTa.out.below hu
  replace HTs : Hid _ := HTs.out.below hu
  replace K10 := cell_below hu K10
  replace K11 := cell_below hu K11
  replace Ks0 := cell_below hu Ks0
  replace Ks1 := cell_below hu Ks1
  clear hu
  have HTp : Hid _ := hT.below (bl_alloc (Below.refl w3.heap.size w3) (.cells #[.slice a3' m c3', .slice b3' n d3'] 25))
  have Kp0 : (w3.alloc (.cells #[.slice a3' m c3', .slice b3' n d3'] 25)).cell? ⟨w3.heap.size, 0, none⟩ = some (.slice a3' m c3') := by simp
  have Kp1 : (w3.alloc (.cells #[.slice a3' m c3', .slice b3' n d3'] 25)).cell? ⟨w3.heap.size, 1, none⟩ = some (.slice b3' n d3') := by simp
  clear hb hT
  go_wp2_with fail
  refine (zstep c1 d1 (HE.out.below HB.out) HTa.out (by omega)).mono ?_
  rintro e w4 ⟨a4', c4', b4', d4', rfl, hT, hb⟩
  have hu := bl_alloc hb (.cells #[.slice a4' m c4', .slice b4' n d4'] 25)
  replace HB : Hid _ := bl_trans HB.out hu
  replace HTa : Hid _ := HTa.out.below hu
  replace HTs : Hid _ := HTs.out.below hu
  replace HTp : Hid _ := HTp.out.below hu
  replace K10 := cell_below hu K10
  replace K11 := cell_below hu K11
  replace Ks0 := cell_below hu Ks0
  replace Ks1 := cell_below hu Ks1
  replace Kp0 := cell_below hu Kp0
  replace Kp1 := cell_below hu Kp1
  clear hu
  have HTx : Hid _ := hT.below (bl_alloc (Below.refl w4.heap.size w4) (.cells #[.slice a4' m c4', .slice b4' n d4'] 25))
  have Kx0 : (w4.alloc (.cells #[.slice a4' m c4', .slice b4' n d4'] 25)).cell? ⟨w4.heap.size, 0, none⟩ = some (.slice a4' m c4') := by simp
  have Kx1 : (w4.alloc (.cells #[.slice a4' m c4', .slice b4' n d4'] 25)).cell? ⟨w4.heap.size, 1, none⟩ = some (.slice b4' n d4') := by simp
  clear hb hT
  go_wp2_with fail
  refine (zstep c2' d2' (HE.out.below HB.out) HTs.out (by omega)).mono ?_
  rintro e w5 ⟨a5', c5', b5', d5', rfl, hT, hb⟩
  have hu := bl_alloc hb (.cells #[.slice a5' m c5', .slice b5' n d5'] 25)
  replace HB : Hid _ := bl_trans HB.out hu
  replace HTa : Hid _ := HTa.out.below hu
  replace HTs : Hid _ := HTs.out.below hu
  replace HTp : Hid _ := HTp.out.below hu
  replace HTx : Hid _ := HTx.out.below hu
  replace K10 := cell_below hu K10
  replace K11 := cell_below hu K11
  replace Ks0 := cell_below hu Ks0
  replace Ks1 := cell_below hu Ks1
  replace Kp0 := cell_below hu Kp0
  replace Kp1 := cell_below hu Kp1
  replace Kx0 := cell_below hu Kx0
  replace Kx1 := cell_below hu Kx1
  clear hu
  have HTy : Hid _ := hT.below (bl_alloc (Below.refl w5.heap.size w5) (.cells #[.slice a5' m c5', .slice b5' n d5'] 25))
  have Ky0 : (w5.alloc (.cells #[.slice a5' m c5', .slice b5' n d5'] 25)).cell? ⟨w5.heap.size, 0, none⟩ = some (.slice a5' m c5') := by simp
  have Ky1 : (w5.alloc (.cells #[.slice a5' m c5', .slice b5' n d5'] 25)).cell? ⟨w5.heap.size, 1, none⟩ = some (.slice b5' n d5') := by simp
  clear hb hT
  clear Ks0 Ks1
  have hk := zflat c3' d3' (HE.out.below HB.out) HTp.out (by omega)
  rw [lsq, zero_one] at hk
  go_wp2_with fail
  refine (hk).mono ?_
  rintro e w6 ⟨rfl, hb⟩
  have hu := hb
  replace HB : Hid _ := bl_trans HB.out hu
  replace HTa : Hid _ := HTa.out.below hu
  replace HTs : Hid _ := HTs.out.below hu
  replace HTp : Hid _ := HTp.out.below hu
  replace HTx : Hid _ := HTx.out.below hu
  replace HTy : Hid _ := HTy.out.below hu
  replace K10 := cell_below hu K10
  replace K11 := cell_below hu K11
  replace Kp0 := cell_below hu Kp0
  replace Kp1 := cell_below hu Kp1
  replace Kx0 := cell_below hu Kx0
  replace Kx1 := cell_below hu Kx1
  replace Ky0 := cell_below hu Ky0
  replace Ky1 := cell_below hu Ky1
  clear hu
  clear hb
  clear hk
  go_wp2_with fail
  refine (zflat c1 d1 (HE.out.below HB.out) HTa.out (by omega)).mono ?_
  rintro e w7 ⟨rfl, hb⟩
  have hu := hb
  replace HB : Hid _ := bl_trans HB.out hu
  replace HTa : Hid _ := HTa.out.below hu
  replace HTs : Hid _ := HTs.out.below hu
  replace HTp : Hid _ := HTp.out.below hu
  replace HTx : Hid _ := HTx.out.below hu
  replace HTy : Hid _ := HTy.out.below hu
  replace K10 := cell_below hu K10
  replace K11 := cell_below hu K11
  replace Kp0 := cell_below hu Kp0
  replace Kp1 := cell_below hu Kp1
  replace Kx0 := cell_below hu Kx0
  replace Kx1 := cell_below hu Kx1
  replace Ky0 := cell_below hu Ky0
  replace Ky1 := cell_below hu Ky1
  clear hu
  clear hb
  have HM64 : Hid (many qs ≤ 64) := Nat.le_trans (many_le qs) (by rw [HL.out]; omega)
  have hk := zsum c3' d3' (HE.out.below HB.out) HTp.out (by omega)
  rw [lsq, tot_one_many, dd_R HM64.out] at hk
  go_wp2_with fail
  refine (hk).mono ?_
  rintro e w8 ⟨rfl, hb⟩
  have hu := hb
  replace HB : Hid _ := bl_trans HB.out hu
  replace HTa : Hid _ := HTa.out.below hu
  replace HTs : Hid _ := HTs.out.below hu
  replace HTp : Hid _ := HTp.out.below hu
  replace HTx : Hid _ := HTx.out.below hu
  replace HTy : Hid _ := HTy.out.below hu
  replace K10 := cell_below hu K10
  replace K11 := cell_below hu K11
  replace Kp0 := cell_below hu Kp0
  replace Kp1 := cell_below hu Kp1
  replace Kx0 := cell_below hu Kx0
  replace Kx1 := cell_below hu Kx1
  replace Ky0 := cell_below hu Ky0
  replace Ky1 := cell_below hu Ky1
  clear hu
  clear hb
  clear hk
  have HRow : Hid _ := fun i (h : i < n) => row_str HTa.out.tm.r (i := i) (by rw [mapR_len, HL.out]; exact h)
  have HM : Hid _ := fun i (h : i < n) => mapR_at qs (i := i) (by rw [HL.out]; exact h)
  have HSn : Hid _ := fun i (h : i < n) => many_snoc qs (k := i) (by rw [HL.out]; exact h)
  have HEnd : Hid _ := fun i (h : ¬ i < n) => take_all qs (k := i) HL.out h
  have HMk : Hid (∀ i, many (qs.take i) ≤ 64) := fun i => Nat.le_trans (many_le _) (by rw [List.length_take, HL.out]; omega)
  have HXY : Hid (qs.map kStep = (qs.map kSign).map kStep) := lstep qs
  generalize zero qs = zz at *
  go_wp2_with fail
  go_loopw [17, 73] (fun al i wr => ∃ k : Nat, k ≤ n ∧ i = .int .i64 k ∧ al = .int .i64 ((many (qs.take k) : Nat) : Int) ∧ wr = w8) (fun _ i _ => n - (intOf i).toNat)
  case atStart => exact ⟨0, by omega, rfl, rfl, rfl⟩
  case round =>
    obtain ⟨k, hk, rfl, rfl, rfl⟩ := hrel
    by_cases h : k < n
    · obtain ⟨b, off, rfl, hc⟩ := HRow.out k h
      rw [HM.out k h] at hc
      have he := eq0 (qs.getD k 0)
      have hs := HSn.out k h
      rw [← he] at hs
      have h64 := HMk.out k
      generalize R (qs.getD k 0) = x at *
      have HC : Hid _ := hs
      clear he hs
      generalize many (qs.take k) = M0 at *
      cases hx : x.toList == [48]
      all_goals
        rw [hx] at HC
        go_wp2
        go_roundw
        case rel => exact ⟨k + 1, by omega, by go_num, by rw [HC.out]; first | rfl | (congr 1; simp; done) | (simp; go_num) | go_num, by first | rfl | trivial⟩
        case measure => simp [intOf]; omega
    rw [HEnd.out k h]
    clear HRow HM HSn HEnd HMk
    obtain ⟨M, hM⟩ : ∃ M, many qs = M := ⟨_, rfl⟩
    rw [hM] at HM64 ⊢
    clear hM
    have e1 := wrap_dd HM64.out
    have hcv := run_convert_bytes_arg (P := Tryz.prog) (wr.alloc (.cells #[.int .u8 (48 + (M : Int) / 10), .int .u8 (48 + (M : Int) % 10)] 5)) 43 5 Tryz.underlying43 Tryz.underlying5 wr.heap.size 0 2 2 [48 + (M : Int) / 10, 48 + (M : Int) % 10] rfl (fun i hi => by
      rcases (by omega : i = 0 ∨ i = 1) with rfl | rfl <;> simp) 9 Tryz.underlying9
    rw [two2_of] at hcv
    have hT2 := two2_size M
    go_upto_region 20 with fail
    clear hcv e1
    have hu := bl_alloc (Below.refl wr.heap.size wr) (.cells #[.int .u8 (48 + (M : Int) / 10), .int .u8 (48 + (M : Int) % 10)] 5)
    replace HB : Hid _ := bl_trans HB.out hu
    replace HTa : Hid _ := HTa.out.below hu
    replace HTs : Hid _ := HTs.out.below hu
    replace HTp : Hid _ := HTp.out.below hu
    replace HTx : Hid _ := HTx.out.below hu
    replace HTy : Hid _ := HTy.out.below hu
    replace K10 := cell_below hu K10
    replace K11 := cell_below hu K11
    replace Kp0 := cell_below hu Kp0
    replace Kp1 := cell_below hu Kp1
    replace Kx0 := cell_below hu Kx0
    replace Kx1 := cell_below hu Kx1
    replace Ky0 := cell_below hu Ky0
    replace Ky1 := cell_below hu Ky1
    clear hu
    generalize (wr.alloc (.cells #[.int .u8 (48 + (M : Int) / 10), .int .u8 (48 + (M : Int) % 10)] 5)) = wq at *
    by_cases h10 : M < 10
    · have hd := dd_small h10
      rw [hd]
      generalize two2 M = t2 at *
      clear hd
      cases zz
      all_goals
          go_wp2_with fail
          refine (zeq c4' d4' c5' d5' HTx.out HTy.out (lstep qs)).mono ?_
          rintro e w9 ⟨rfl, hb⟩
          have hu := hb
          replace HB : Hid _ := bl_trans HB.out hu
          replace HTa : Hid _ := HTa.out.below hu
          replace HTs : Hid _ := HTs.out.below hu
          replace HTp : Hid _ := HTp.out.below hu
          replace HTx : Hid _ := HTx.out.below hu
          replace HTy : Hid _ := HTy.out.below hu
          replace K10 := cell_below hu K10
          replace K11 := cell_below hu K11
          replace Kp0 := cell_below hu Kp0
          replace Kp1 := cell_below hu Kp1
          replace Kx0 := cell_below hu Kx0
          replace Kx1 := cell_below hu Kx1
          replace Ky0 := cell_below hu Ky0
          replace Ky1 := cell_below hu Ky1
          clear hu
          clear hb
          go_wp2_with fail
          refine (awake_any aF aZ _ (HE.out.below HB.out)).mono ?_
          rintro e w10 ⟨rfl, hb⟩
          have hu := hb
          replace HB : Hid _ := bl_trans HB.out hu
          replace HTa : Hid _ := HTa.out.below hu
          replace HTs : Hid _ := HTs.out.below hu
          replace HTp : Hid _ := HTp.out.below hu
          replace HTx : Hid _ := HTx.out.below hu
          replace HTy : Hid _ := HTy.out.below hu
          replace K10 := cell_below hu K10
          replace K11 := cell_below hu K11
          replace Kp0 := cell_below hu Kp0
          replace Kp1 := cell_below hu Kp1
          replace Kx0 := cell_below hu Kx0
          replace Kx1 := cell_below hu Kx1
          replace Ky0 := cell_below hu Ky0
          replace Ky1 := cell_below hu Ky1
          clear hu
          clear hb
          go_wp2
          go_ret
          exact ⟨rfl, HB.out⟩
    · have hd := dd_big h10
      rw [hd]
      generalize two2 M = t2 at *
      clear hd
      cases zz
      all_goals
          go_wp2_with fail
          refine (zeq c4' d4' c5' d5' HTx.out HTy.out (lstep qs)).mono ?_
          rintro e w9 ⟨rfl, hb⟩
          have hu := hb
          replace HB : Hid _ := bl_trans HB.out hu
          replace HTa : Hid _ := HTa.out.below hu
          replace HTs : Hid _ := HTs.out.below hu
          replace HTp : Hid _ := HTp.out.below hu
          replace HTx : Hid _ := HTx.out.below hu
          replace HTy : Hid _ := HTy.out.below hu
          replace K10 := cell_below hu K10
          replace K11 := cell_below hu K11
          replace Kp0 := cell_below hu Kp0
          replace Kp1 := cell_below hu Kp1
          replace Kx0 := cell_below hu Kx0
          replace Kx1 := cell_below hu Kx1
          replace Ky0 := cell_below hu Ky0
          replace Ky1 := cell_below hu Ky1
          clear hu
          clear hb
          go_wp2_with fail
          refine (awake_any aF aZ _ (HE.out.below HB.out)).mono ?_
          rintro e w10 ⟨rfl, hb⟩
          have hu := hb
          replace HB : Hid _ := bl_trans HB.out hu
          replace HTa : Hid _ := HTa.out.below hu
          replace HTs : Hid _ := HTs.out.below hu
          replace HTp : Hid _ := HTp.out.below hu
          replace HTx : Hid _ := HTx.out.below hu
          replace HTy : Hid _ := HTy.out.below hu
          replace K10 := cell_below hu K10
          replace K11 := cell_below hu K11
          replace Kp0 := cell_below hu Kp0
          replace Kp1 := cell_below hu Kp1
          replace Kx0 := cell_below hu Kx0
          replace Kx1 := cell_below hu Kx1
          replace Ky0 := cell_below hu Ky0
          replace Ky1 := cell_below hu Ky1
          clear hu
          clear hb
          go_wp2
          go_ret
          exact ⟨rfl, HB.out⟩
end Go.Proofs.YtjkobbpebnkimaaGreatDoor.Tn
