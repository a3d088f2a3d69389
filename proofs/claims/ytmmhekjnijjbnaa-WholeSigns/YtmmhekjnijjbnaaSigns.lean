/-
  THE LAW WholeSigns: every call gives true; nothing that was there has turned. No conditions.
-/
import Derived.Test.YtmmhekjnijjbnaaLits
namespace Go.Proofs.Ytmmhekjnijjbnaa
open Go.RowKit Nm
set_option linter.unusedVariables false

set_option maxRecDepth 100000 in
set_option maxHeartbeats 2000000 in
theorem signs_long0 (a0 a1 : ByteArray) (w : World) (h : 100 < a0.size) :
    Calls Try.prog 4 #[.string a0, .string a1] w fun e w' => e = .returned (.bool true) ∧ Below w.heap.size w w' := by
  have HB := Below.refl w.heap.size w
  go_enter Try.func4, Try.ntmps4
  go_wp2_with fail
  refine (awakew_below _ _ HB).mono ?_
  rintro e w1 ⟨rfl, h1⟩
  go_wp2
  go_ret
  exact ⟨rfl, h1⟩

set_option maxRecDepth 100000 in
set_option maxHeartbeats 2000000 in
theorem signs_long1 (a0 a1 : ByteArray) (w : World) (l0 : a0.size ≤ 100) (h : 100 < a1.size) :
    Calls Try.prog 4 #[.string a0, .string a1] w fun e w' => e = .returned (.bool true) ∧ Below w.heap.size w w' := by
  have HB := Below.refl w.heap.size w
  go_enter Try.func4, Try.ntmps4
  go_wp2_with fail
  refine (awakew_below _ _ HB).mono ?_
  rintro e w2 ⟨rfl, h2⟩
  go_wp2
  go_ret
  exact ⟨rfl, h2⟩

theorem signs_yes (a0 a1 : ByteArray) (w : World) (k0 : ok a0 = true) (k1 : ok a1 = true) (cap : Nat) : Calls Try.prog 16 #[.slice (some ⟨w.heap.size, 0, none⟩) 2 cap] (w.alloc (.cells #[.string a0, .string a1] 9)) fun e w' => e = .returned (.bool true) ∧ w' = w.alloc (.cells #[.string a0, .string a1] 9) := by
  refine shortw_yes w.heap.size 2 cap _ _ (by omega) (two_cells w a0 a1) ?_
  intro i hi
  (repeat' split) <;> assumption

set_option maxRecDepth 100000 in
set_option maxHeartbeats 2000000 in
theorem signs_no0 (a0 a1 : ByteArray) (w : World) (l0 : a0.size ≤ 100) (l1 : a1.size ≤ 100) (ho : ok a0 = false) :
    Calls Try.prog 4 #[.string a0, .string a1] w fun e w' => e = .returned (.bool true) ∧ Below w.heap.size w w' := by
  have HB := Below.refl w.heap.size w
  have HW : Hid (wh a0 = false) := by
    unfold Hid; unfold ok at ho; rw [decide_eq_true l0, Bool.true_and] at ho; exact ho
  have HV : Hid ((wh a0 && wh a1) = false) := by unfold Hid; rw [HW.out]; rfl
  have HS : Hid (∀ (v : World) (cap : Nat), Calls Try.prog 16 #[.slice (some ⟨v.heap.size, 0, none⟩) 2 cap] (v.alloc (.cells #[.string a0, .string a1] 9)) fun e w' => e = .returned (.bool false) ∧ w' = v.alloc (.cells #[.string a0, .string a1] 9)) := fun v cap => shortw_no v.heap.size 2 cap 0 _ _ (by omega) (two_cells v a0 a1) (by omega) (by simpa using ho)
  clear ho
  go_enter Try.func4, Try.ntmps4
  go_wp2_with fail
  refine (Negw_no a0 _ (by omega) HW.out).mono ?_
  rintro e w3 ⟨rfl, h3⟩
  replace HB := bl_trans HB h3
  clear h3
  go_wp2_with fail
  refine (Signw_no a0 _ (by omega) HW.out).mono ?_
  rintro e w4 ⟨rfl, h4⟩
  replace HB := bl_trans HB h4
  clear h4
  go_wp2_with fail
  refine (Cmpw_no a0 a1 _ (by omega) (by omega) HV.out).mono ?_
  rintro e w5 ⟨rfl, h5⟩
  replace HB := bl_trans HB h5
  clear h5
  go_wp2_with fail
  refine (Rightw_is a0 _ (by omega)).mono ?_
  rintro e w6 ⟨rfl, h6⟩
  replace HB := bl_trans HB h6
  clear h6
  rw [HW.out]
  go_wp2_with fail
  refine (refRightw_is a0 false _ (by omega) HW.out).mono ?_
  rintro e w7 ⟨rfl, rfl⟩
  go_wp2_with fail
  refine (HS.out _ _).mono ?_
  rintro e w8 ⟨rfl, rfl⟩
  replace HB := bl_alloc HB (.cells #[.string a0, .string a1] 9)
  go_wp2_with fail
  refine (refRightw_is a0 false _ (by omega) HW.out).mono ?_
  rintro e w9 ⟨rfl, rfl⟩
  go_wp2_with fail
  refine (awakew_below _ _ HB).mono ?_
  rintro e w10 ⟨rfl, h10⟩
  go_wp2
  go_ret
  exact ⟨rfl, h10⟩

set_option maxRecDepth 100000 in
set_option maxHeartbeats 2000000 in
theorem signs_no1 (x : Int) (a1 : ByteArray) (w : World) (xs : (W x).size ≤ 100) (l1 : a1.size ≤ 100) (ho : ok a1 = false) :
    Calls Try.prog 4 #[.string (W x), .string a1] w fun e w' => e = .returned (.bool true) ∧ Below w.heap.size w w' := by
  have HB := Below.refl w.heap.size w
  have HV : Hid ((wh (W x) && wh a1) = false) := by
    unfold Hid; unfold ok at ho; rw [decide_eq_true l1, Bool.true_and] at ho; rw [ho]; simp
  have Bx : Hid (tl (x).natAbs ≤ 100) := tw_of xs
  have HS : Hid (∀ (v : World) (cap : Nat), Calls Try.prog 16 #[.slice (some ⟨v.heap.size, 0, none⟩) 2 cap] (v.alloc (.cells #[.string (W x), .string a1] 9)) fun e w' => e = .returned (.bool false) ∧ w' = v.alloc (.cells #[.string (W x), .string a1] 9)) := fun v cap => shortw_no v.heap.size 2 cap 1 _ _ (by omega) (two_cells v (W x) a1) (by omega) (by simpa using ho)
  clear ho
  go_enter Try.func4, Try.ntmps4
  go_wp2_with fail
  refine (Negw_W x _ (Nat.le_trans Bx.out (by omega))).mono ?_
  rintro e w11 ⟨rfl, h11⟩
  replace HB := bl_trans HB h11
  clear h11
  go_wp2_with fail
  refine (Signw_W x _ (Nat.le_trans Bx.out (by omega))).mono ?_
  rintro e w12 ⟨rfl, h12⟩
  replace HB := bl_trans HB h12
  clear h12
  go_wp2_with fail
  refine (Cmpw_no (W x) a1 _ (by omega) (by omega) HV.out).mono ?_
  rintro e w13 ⟨rfl, h13⟩
  replace HB := bl_trans HB h13
  clear h13
  go_wp2_with fail
  refine (right_W x _ (Nat.le_trans Bx.out (by omega))).mono ?_
  rintro e w14 ⟨rfl, h14⟩
  replace HB := bl_trans HB h14
  clear h14
  go_wp2_with fail
  refine (refRightw_is (W x) true _ (by omega) (wh_W x)).mono ?_
  rintro e w15 ⟨rfl, rfl⟩
  go_wp2_with fail
  refine (HS.out _ _).mono ?_
  rintro e w16 ⟨rfl, rfl⟩
  replace HB := bl_alloc HB (.cells #[.string (W x), .string a1] 9)
  go_wp2_with fail
  refine (refRightw_is (W x) true _ (by omega) (wh_W x)).mono ?_
  rintro e w17 ⟨rfl, rfl⟩
  go_wp2_with fail
  refine (awakew_below _ _ HB).mono ?_
  rintro e w18 ⟨rfl, h18⟩
  go_wp2
  go_ret
  exact ⟨rfl, h18⟩

set_option maxRecDepth 100000 in
set_option maxHeartbeats 2000000 in
theorem signs_good (x y : Int) (w : World) (xs : (W x).size ≤ 100) (ys : (W y).size ≤ 100) :
    Calls Try.prog 4 #[.string (W x), .string (W y)] w fun e w' => e = .returned (.bool true) ∧ Below w.heap.size w w' := by
  have HB := Below.refl w.heap.size w
  have Kx : Hid (ok (W x) = true) := ok_W xs
  have Ky : Hid (ok (W y) = true) := ok_W ys
  have Bx : Hid (tl (x).natAbs ≤ 100) := tw_of xs
  have By : Hid (tl (y).natAbs ≤ 100) := tw_of ys
  have B1 : Hid (tl (-y).natAbs ≤ 100) := by unfold Hid; rw [tw_neg]; exact By.out
  have B2 : Hid (tl (x - y).natAbs ≤ 200) := Nat.le_trans (tw_sub (x) (y)) (Nat.add_le_add Bx.out By.out)
  have H1 : Hid (x + -y = x - y) := by unfold Hid; omega
  have H2 : Hid ((x - y).sign = sg x y) := by unfold Hid; rw [← sgw_sign, Int.sub_eq_add_neg]
  go_enter Try.func4, Try.ntmps4
  go_wp2_with fail
  refine (Negw_W x _ (Nat.le_trans Bx.out (by omega))).mono ?_
  rintro e w19 ⟨rfl, h19⟩
  replace HB := bl_trans HB h19
  clear h19
  go_wp2_with fail
  refine (Signw_W x _ (Nat.le_trans Bx.out (by omega))).mono ?_
  rintro e w20 ⟨rfl, h20⟩
  replace HB := bl_trans HB h20
  clear h20
  go_wp2_with fail
  refine (Cmpw_W x y _ (Nat.le_trans Bx.out (by omega)) (Nat.le_trans By.out (by omega))).mono ?_
  rintro e w21 ⟨rfl, h21⟩
  replace HB := bl_trans HB h21
  clear h21
  go_wp2_with fail
  refine (right_W x _ (Nat.le_trans Bx.out (by omega))).mono ?_
  rintro e w22 ⟨rfl, h22⟩
  replace HB := bl_trans HB h22
  clear h22
  go_wp2_with fail
  refine (refRightw_is (W x) true _ (by omega) (wh_W x)).mono ?_
  rintro e w23 ⟨rfl, rfl⟩
  go_wp2_with fail
  refine (signs_yes (W x) (W y) _ Kx.out Ky.out _).mono ?_
  rintro e w24 ⟨rfl, rfl⟩
  replace HB := bl_alloc HB (.cells #[.string (W x), .string (W y)] 9)
  go_wp2_with fail
  refine (refNeg_W x _ (Nat.le_trans Bx.out (by omega))).mono ?_
  rintro e w25 ⟨rfl, rfl⟩
  go_wp2_with fail
  refine (refSign_W x _ (Nat.le_trans Bx.out (by omega))).mono ?_
  rintro e w26 ⟨rfl, rfl⟩
  go_wp2_with fail
  refine (refNeg_W y _ (Nat.le_trans By.out (by omega))).mono ?_
  rintro e w27 ⟨rfl, rfl⟩
  go_wp2_with fail
  refine (refAddw_W x (-y) _ (Nat.le_trans Bx.out (by omega)) (Nat.le_trans B1.out (by omega))).mono ?_
  rintro e w28 ⟨rfl, h28⟩
  replace HB := bl_trans HB h28
  clear h28
  rw [H1.out]
  go_wp2_with fail
  refine (refSign_W (x - y) _ (Nat.le_trans B2.out (by omega))).mono ?_
  rintro e w29 ⟨rfl, rfl⟩
  rw [H2.out]
  go_wp2_with fail
  refine (awakew_below _ _ HB).mono ?_
  rintro e w30 ⟨rfl, h30⟩
  go_wp2
  go_ret
  exact ⟨rfl, h30⟩

theorem signs_any (a0 a1 : ByteArray) (w : World) :
    Calls Try.prog 4 #[.string a0, .string a1] w fun e w' => e = .returned (.bool true) ∧ Below w.heap.size w w' := by
  by_cases l0 : 100 < a0.size
  · exact signs_long0 a0 a1 w l0
  by_cases l1 : 100 < a1.size
  · exact signs_long1 a0 a1 w (by omega) l1
  by_cases r0 : ok a0 = true
  rotate_left
  · exact signs_no0 a0 a1 w (by omega) (by omega) (by simpa using r0)
  obtain ⟨x, rfl, xs⟩ := ok_of r0
  by_cases r1 : ok a1 = true
  rotate_left
  · exact signs_no1 x a1 w xs (by omega) (by simpa using r1)
  obtain ⟨y, rfl, ys⟩ := ok_of r1
  exact signs_good x y w xs ys

end Go.Proofs.Ytmmhekjnijjbnaa
