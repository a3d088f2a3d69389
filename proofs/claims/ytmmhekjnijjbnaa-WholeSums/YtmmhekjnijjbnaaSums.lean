/-
  THE LAW WholeSums: every call gives true; nothing that was there has turned. No conditions.
-/
import Derived.Test.YtmmhekjnijjbnaaLits
namespace Go.Proofs.Ytmmhekjnijjbnaa
open Go.RowKit Nm
set_option linter.unusedVariables false

set_option maxRecDepth 100000 in
set_option maxHeartbeats 2000000 in
theorem sums_long0 (a0 a1 : ByteArray) (w : World) (h : 100 < a0.size) :
    Calls Try.prog 3 #[.string a0, .string a1] w fun e w' => e = .returned (.bool true) ∧ Below w.heap.size w w' := by
  have HB := Below.refl w.heap.size w
  go_enter Try.func3, Try.ntmps3
  go_wp2_with fail
  refine (awakew_below _ _ HB).mono ?_
  rintro e w1 ⟨rfl, h1⟩
  go_wp2
  go_ret
  exact ⟨rfl, h1⟩

set_option maxRecDepth 100000 in
set_option maxHeartbeats 2000000 in
theorem sums_long1 (a0 a1 : ByteArray) (w : World) (l0 : a0.size ≤ 100) (h : 100 < a1.size) :
    Calls Try.prog 3 #[.string a0, .string a1] w fun e w' => e = .returned (.bool true) ∧ Below w.heap.size w w' := by
  have HB := Below.refl w.heap.size w
  go_enter Try.func3, Try.ntmps3
  go_wp2_with fail
  refine (awakew_below _ _ HB).mono ?_
  rintro e w2 ⟨rfl, h2⟩
  go_wp2
  go_ret
  exact ⟨rfl, h2⟩

theorem sums_yes (a0 a1 : ByteArray) (w : World) (k0 : ok a0 = true) (k1 : ok a1 = true) (cap : Nat) : Calls Try.prog 16 #[.slice (some ⟨w.heap.size, 0, none⟩) 2 cap] (w.alloc (.cells #[.string a0, .string a1] 9)) fun e w' => e = .returned (.bool true) ∧ w' = w.alloc (.cells #[.string a0, .string a1] 9) := by
  refine shortw_yes w.heap.size 2 cap _ _ (by omega) (two_cells w a0 a1) ?_
  intro i hi
  (repeat' split) <;> assumption

set_option maxRecDepth 100000 in
set_option maxHeartbeats 2000000 in
theorem sums_no0 (a0 a1 : ByteArray) (w : World) (l0 : a0.size ≤ 100) (l1 : a1.size ≤ 100) (ho : ok a0 = false) :
    Calls Try.prog 3 #[.string a0, .string a1] w fun e w' => e = .returned (.bool true) ∧ Below w.heap.size w w' := by
  have HB := Below.refl w.heap.size w
  have HW : Hid ((wh a0 && wh a1) = false) := by
    unfold Hid; unfold ok at ho; rw [decide_eq_true l0, Bool.true_and] at ho; rw [ho]; simp
  have HS : Hid (∀ (v : World) (cap : Nat), Calls Try.prog 16 #[.slice (some ⟨v.heap.size, 0, none⟩) 2 cap] (v.alloc (.cells #[.string a0, .string a1] 9)) fun e w' => e = .returned (.bool false) ∧ w' = v.alloc (.cells #[.string a0, .string a1] 9)) := fun v cap => shortw_no v.heap.size 2 cap 0 _ _ (by omega) (two_cells v a0 a1) (by omega) (by simpa using ho)
  clear ho
  go_enter Try.func3, Try.ntmps3
  go_wp2_with fail
  refine (Addw_no a0 a1 _ (by omega) (by omega) HW.out).mono ?_
  rintro e w3 ⟨rfl, h3⟩
  replace HB := bl_trans HB h3
  clear h3
  go_wp2_with fail
  refine (Subw_no a0 a1 _ (by omega) (by omega) HW.out).mono ?_
  rintro e w4 ⟨rfl, h4⟩
  replace HB := bl_trans HB h4
  clear h4
  go_wp2_with fail
  refine (Mulw_no a0 a1 _ (by omega) (by omega) HW.out).mono ?_
  rintro e w5 ⟨rfl, h5⟩
  replace HB := bl_trans HB h5
  clear h5
  go_wp2_with fail
  refine (HS.out _ _).mono ?_
  rintro e w6 ⟨rfl, rfl⟩
  replace HB := bl_alloc HB (.cells #[.string a0, .string a1] 9)
  go_wp2_with fail
  refine (awakew_below _ _ HB).mono ?_
  rintro e w7 ⟨rfl, h7⟩
  go_wp2
  go_ret
  exact ⟨rfl, h7⟩

set_option maxRecDepth 100000 in
set_option maxHeartbeats 2000000 in
theorem sums_no1 (a0 a1 : ByteArray) (w : World) (l0 : a0.size ≤ 100) (l1 : a1.size ≤ 100) (ho : ok a1 = false) :
    Calls Try.prog 3 #[.string a0, .string a1] w fun e w' => e = .returned (.bool true) ∧ Below w.heap.size w w' := by
  have HB := Below.refl w.heap.size w
  have HW : Hid ((wh a0 && wh a1) = false) := by
    unfold Hid; unfold ok at ho; rw [decide_eq_true l1, Bool.true_and] at ho; rw [ho]; simp
  have HS : Hid (∀ (v : World) (cap : Nat), Calls Try.prog 16 #[.slice (some ⟨v.heap.size, 0, none⟩) 2 cap] (v.alloc (.cells #[.string a0, .string a1] 9)) fun e w' => e = .returned (.bool false) ∧ w' = v.alloc (.cells #[.string a0, .string a1] 9)) := fun v cap => shortw_no v.heap.size 2 cap 1 _ _ (by omega) (two_cells v a0 a1) (by omega) (by simpa using ho)
  clear ho
  go_enter Try.func3, Try.ntmps3
  go_wp2_with fail
  refine (Addw_no a0 a1 _ (by omega) (by omega) HW.out).mono ?_
  rintro e w8 ⟨rfl, h8⟩
  replace HB := bl_trans HB h8
  clear h8
  go_wp2_with fail
  refine (Subw_no a0 a1 _ (by omega) (by omega) HW.out).mono ?_
  rintro e w9 ⟨rfl, h9⟩
  replace HB := bl_trans HB h9
  clear h9
  go_wp2_with fail
  refine (Mulw_no a0 a1 _ (by omega) (by omega) HW.out).mono ?_
  rintro e w10 ⟨rfl, h10⟩
  replace HB := bl_trans HB h10
  clear h10
  go_wp2_with fail
  refine (HS.out _ _).mono ?_
  rintro e w11 ⟨rfl, rfl⟩
  replace HB := bl_alloc HB (.cells #[.string a0, .string a1] 9)
  go_wp2_with fail
  refine (awakew_below _ _ HB).mono ?_
  rintro e w12 ⟨rfl, h12⟩
  go_wp2
  go_ret
  exact ⟨rfl, h12⟩

set_option maxRecDepth 100000 in
set_option maxHeartbeats 2000000 in
theorem sums_good (x y : Int) (w : World) (xs : (W x).size ≤ 100) (ys : (W y).size ≤ 100) :
    Calls Try.prog 3 #[.string (W x), .string (W y)] w fun e w' => e = .returned (.bool true) ∧ Below w.heap.size w w' := by
  have HB := Below.refl w.heap.size w
  have Kx : Hid (ok (W x) = true) := ok_W xs
  have Ky : Hid (ok (W y) = true) := ok_W ys
  have Bx : Hid (tl (x).natAbs ≤ 100) := tw_of xs
  have By : Hid (tl (y).natAbs ≤ 100) := tw_of ys
  have B1 : Hid (tl (-y).natAbs ≤ 100) := by unfold Hid; rw [tw_neg]; exact By.out
  have H1 : Hid (x + -y = x - y) := by unfold Hid; omega
  go_enter Try.func3, Try.ntmps3
  go_wp2_with fail
  refine (Addw_W x y _ (Nat.le_trans Bx.out (by omega)) (Nat.le_trans By.out (by omega))).mono ?_
  rintro e w13 ⟨rfl, h13⟩
  replace HB := bl_trans HB h13
  clear h13
  go_wp2_with fail
  refine (Subw_W x y _ (Nat.le_trans Bx.out (by omega)) (Nat.le_trans By.out (by omega))).mono ?_
  rintro e w14 ⟨rfl, h14⟩
  replace HB := bl_trans HB h14
  clear h14
  go_wp2_with fail
  refine (Mulw_W x y _ (Nat.le_trans Bx.out (by omega)) (Nat.le_trans By.out (by omega))).mono ?_
  rintro e w15 ⟨rfl, h15⟩
  replace HB := bl_trans HB h15
  clear h15
  go_wp2_with fail
  refine (sums_yes (W x) (W y) _ Kx.out Ky.out _).mono ?_
  rintro e w16 ⟨rfl, rfl⟩
  replace HB := bl_alloc HB (.cells #[.string (W x), .string (W y)] 9)
  go_wp2_with fail
  refine (refAddw_W x y _ (Nat.le_trans Bx.out (by omega)) (Nat.le_trans By.out (by omega))).mono ?_
  rintro e w17 ⟨rfl, h17⟩
  replace HB := bl_trans HB h17
  clear h17
  go_wp2_with fail
  refine (refNeg_W y _ (Nat.le_trans By.out (by omega))).mono ?_
  rintro e w18 ⟨rfl, rfl⟩
  go_wp2_with fail
  refine (refAddw_W x (-y) _ (Nat.le_trans Bx.out (by omega)) (Nat.le_trans B1.out (by omega))).mono ?_
  rintro e w19 ⟨rfl, h19⟩
  replace HB := bl_trans HB h19
  clear h19
  rw [H1.out]
  go_wp2_with fail
  refine (refMulw_W x y _ (Nat.le_trans Bx.out (by omega)) (Nat.le_trans By.out (by omega))).mono ?_
  rintro e w20 ⟨rfl, h20⟩
  replace HB := bl_trans HB h20
  clear h20
  go_wp2_with fail
  refine (awakew_below _ _ HB).mono ?_
  rintro e w21 ⟨rfl, h21⟩
  go_wp2
  go_ret
  exact ⟨rfl, h21⟩

theorem sums_any (a0 a1 : ByteArray) (w : World) :
    Calls Try.prog 3 #[.string a0, .string a1] w fun e w' => e = .returned (.bool true) ∧ Below w.heap.size w w' := by
  by_cases l0 : 100 < a0.size
  · exact sums_long0 a0 a1 w l0
  by_cases l1 : 100 < a1.size
  · exact sums_long1 a0 a1 w (by omega) l1
  by_cases r0 : ok a0 = true
  rotate_left
  · exact sums_no0 a0 a1 w (by omega) (by omega) (by simpa using r0)
  by_cases r1 : ok a1 = true
  rotate_left
  · exact sums_no1 a0 a1 w (by omega) (by omega) (by simpa using r1)
  obtain ⟨x, rfl, xs⟩ := ok_of r0
  obtain ⟨y, rfl, ys⟩ := ok_of r1
  exact sums_good x y w xs ys

end Go.Proofs.Ytmmhekjnijjbnaa
