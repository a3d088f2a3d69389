/-
  THE LAW WholeBack: every call gives true; nothing that was there has turned. No conditions.
-/
import Derived.Test.YtmmhekjnijjbnaaLits
namespace Go.Proofs.Ytmmhekjnijjbnaa
open Go.RowKit Nm
set_option linter.unusedVariables false

set_option maxRecDepth 100000 in
set_option maxHeartbeats 2000000 in
theorem back_no0 (a0 a1 : ByteArray) (w : World) (h : ok a0 = false) :
    Calls Try.prog 6 #[.string a0, .string a1] w fun e w' => e = .returned (.bool true) ∧ Below w.heap.size w w' := by
  have HB := (Below.refl w.heap.size w).alloc (Nat.le_refl _) (.cells #[.string a0, .string a1] 9)
  have HS : Hid (∀ cap, Calls Try.prog 16 #[.slice (some ⟨w.heap.size, 0, none⟩) 2 cap] (w.alloc (.cells #[.string a0, .string a1] 9)) fun e w' => e = .returned (.bool false) ∧ w' = w.alloc (.cells #[.string a0, .string a1] 9)) := fun cap => shortw_no w.heap.size 2 cap 0 _ _ (by omega) (two_cells w a0 a1) (by omega) (by simpa using h)
  clear h
  go_enter Try.func6, Try.ntmps6
  go_wp2_with fail
  refine (HS.out _).mono ?_
  rintro e w1 ⟨rfl, rfl⟩
  go_wp2_with fail
  refine (awakew_below _ _ HB).mono ?_
  rintro e w2 ⟨rfl, h2⟩
  go_wp2
  go_ret
  exact ⟨rfl, h2⟩

set_option maxRecDepth 100000 in
set_option maxHeartbeats 2000000 in
theorem back_no1 (a0 a1 : ByteArray) (w : World) (h : ok a1 = false) :
    Calls Try.prog 6 #[.string a0, .string a1] w fun e w' => e = .returned (.bool true) ∧ Below w.heap.size w w' := by
  have HB := (Below.refl w.heap.size w).alloc (Nat.le_refl _) (.cells #[.string a0, .string a1] 9)
  have HS : Hid (∀ cap, Calls Try.prog 16 #[.slice (some ⟨w.heap.size, 0, none⟩) 2 cap] (w.alloc (.cells #[.string a0, .string a1] 9)) fun e w' => e = .returned (.bool false) ∧ w' = w.alloc (.cells #[.string a0, .string a1] 9)) := fun cap => shortw_no w.heap.size 2 cap 1 _ _ (by omega) (two_cells w a0 a1) (by omega) (by simpa using h)
  clear h
  go_enter Try.func6, Try.ntmps6
  go_wp2_with fail
  refine (HS.out _).mono ?_
  rintro e w3 ⟨rfl, rfl⟩
  go_wp2_with fail
  refine (awakew_below _ _ HB).mono ?_
  rintro e w4 ⟨rfl, h4⟩
  go_wp2
  go_ret
  exact ⟨rfl, h4⟩

theorem back_yes (a0 a1 : ByteArray) (w : World) (k0 : ok a0 = true) (k1 : ok a1 = true) (cap : Nat) : Calls Try.prog 16 #[.slice (some ⟨w.heap.size, 0, none⟩) 2 cap] (w.alloc (.cells #[.string a0, .string a1] 9)) fun e w' => e = .returned (.bool true) ∧ w' = w.alloc (.cells #[.string a0, .string a1] 9) := by
  refine shortw_yes w.heap.size 2 cap _ _ (by omega) (two_cells w a0 a1) ?_
  intro i hi
  (repeat' split) <;> assumption

set_option maxRecDepth 100000 in
set_option maxHeartbeats 2000000 in
theorem back_same (x : Int) (w : World) (xs : (W x).size ≤ 100) :
    Calls Try.prog 6 #[.string (W x), .string (W x)] w fun e w' => e = .returned (.bool true) ∧ Below w.heap.size w w' := by
  have HB := (Below.refl w.heap.size w).alloc (Nat.le_refl _) (.cells #[.string (W x), .string (W x)] 9)
  have Kx : Hid (ok (W x) = true) := ok_W xs
  have Bx : Hid (tl (x).natAbs ≤ 100) := tw_of xs
  have HC : Hid (sg x x = 0) := sg_eq rfl
  have HD : Hid (sg x x = 0) := sg_eq rfl
  have B1 : Hid (tl (-x).natAbs ≤ 100) := by unfold Hid; rw [tw_neg]; exact Bx.out
  have B2 : Hid (tl (x + x).natAbs ≤ 200) := Nat.le_trans (tw_add (x) (x)) (Nat.add_le_add Bx.out Bx.out)
  have z0 := is0W
  have H1 : Hid (x + -x = 0) := by unfold Hid; omega
  have H2 : Hid (x + x - x = x) := by unfold Hid; omega
  go_enter Try.func6, Try.ntmps6
  go_wp2_with fail
  refine (back_yes (W x) (W x) w Kx.out Kx.out _).mono ?_
  rintro e w5 ⟨rfl, rfl⟩
  go_wp2_with fail
  refine (Negw_W x _ (Nat.le_trans Bx.out (by omega))).mono ?_
  rintro e w6 ⟨rfl, h6⟩
  replace HB := bl_trans HB h6
  clear h6
  go_wp2_with fail
  refine (Negw_W (-x) _ (Nat.le_trans B1.out (by omega))).mono ?_
  rintro e w7 ⟨rfl, h7⟩
  replace HB := bl_trans HB h7
  clear h7
  rw [Int.neg_neg]
  go_wp2_with fail
  refine (Addw_W x (-x) _ (Nat.le_trans Bx.out (by omega)) (Nat.le_trans B1.out (by omega))).mono ?_
  rintro e w8 ⟨rfl, h8⟩
  replace HB := bl_trans HB h8
  clear h8
  rw [H1.out]
  go_wp2_with fail
  refine (Addw_W x x _ (Nat.le_trans Bx.out (by omega)) (Nat.le_trans Bx.out (by omega))).mono ?_
  rintro e w9 ⟨rfl, h9⟩
  replace HB := bl_trans HB h9
  clear h9
  go_wp2_with fail
  refine (Subw_W (x + x) x _ (Nat.le_trans B2.out (by omega)) (Nat.le_trans Bx.out (by omega))).mono ?_
  rintro e w10 ⟨rfl, h10⟩
  replace HB := bl_trans HB h10
  clear h10
  rw [H2.out]
  go_wp2_with fail
  refine (Cmpw_W x x _ (Nat.le_trans Bx.out (by omega)) (Nat.le_trans Bx.out (by omega))).mono ?_
  rintro e w11 ⟨rfl, h11⟩
  replace HB := bl_trans HB h11
  clear h11
  rw [HC.out]
  go_wp2_with fail
  refine (Cmpw_W x x _ (Nat.le_trans Bx.out (by omega)) (Nat.le_trans Bx.out (by omega))).mono ?_
  rintro e w12 ⟨rfl, h12⟩
  replace HB := bl_trans HB h12
  clear h12
  rw [HD.out]
  go_wp2_with fail
  refine (awakew_below _ _ HB).mono ?_
  rintro e w13 ⟨rfl, h13⟩
  go_wp2
  go_ret
  exact ⟨rfl, h13⟩

set_option maxRecDepth 100000 in
set_option maxHeartbeats 2000000 in
theorem back_less (x y : Int) (w : World) (xs : (W x).size ≤ 100) (ys : (W y).size ≤ 100) (h : x < y) :
    Calls Try.prog 6 #[.string (W x), .string (W y)] w fun e w' => e = .returned (.bool true) ∧ Below w.heap.size w w' := by
  have HB := (Below.refl w.heap.size w).alloc (Nat.le_refl _) (.cells #[.string (W x), .string (W y)] 9)
  have Kx : Hid (ok (W x) = true) := ok_W xs
  have Ky : Hid (ok (W y) = true) := ok_W ys
  have Bx : Hid (tl (x).natAbs ≤ 100) := tw_of xs
  have By : Hid (tl (y).natAbs ≤ 100) := tw_of ys
  have he := eqW (x := x) (y := y) (by omega)
  have HC : Hid _ := sg_lt h
  have HD : Hid _ := sg_gt (a := y) h
  clear h
  have B1 : Hid (tl (-x).natAbs ≤ 100) := by unfold Hid; rw [tw_neg]; exact Bx.out
  have B2 : Hid (tl (x + y).natAbs ≤ 200) := Nat.le_trans (tw_add (x) (y)) (Nat.add_le_add Bx.out By.out)
  have z0 := is0W
  have H1 : Hid (x + -x = 0) := by unfold Hid; omega
  have H2 : Hid (x + y - y = x) := by unfold Hid; omega
  go_enter Try.func6, Try.ntmps6
  go_wp2_with fail
  refine (back_yes (W x) (W y) w Kx.out Ky.out _).mono ?_
  rintro e w14 ⟨rfl, rfl⟩
  go_wp2_with fail
  refine (Negw_W x _ (Nat.le_trans Bx.out (by omega))).mono ?_
  rintro e w15 ⟨rfl, h15⟩
  replace HB := bl_trans HB h15
  clear h15
  go_wp2_with fail
  refine (Negw_W (-x) _ (Nat.le_trans B1.out (by omega))).mono ?_
  rintro e w16 ⟨rfl, h16⟩
  replace HB := bl_trans HB h16
  clear h16
  rw [Int.neg_neg]
  go_wp2_with fail
  refine (Addw_W x (-x) _ (Nat.le_trans Bx.out (by omega)) (Nat.le_trans B1.out (by omega))).mono ?_
  rintro e w17 ⟨rfl, h17⟩
  replace HB := bl_trans HB h17
  clear h17
  rw [H1.out]
  go_wp2_with fail
  refine (Addw_W x y _ (Nat.le_trans Bx.out (by omega)) (Nat.le_trans By.out (by omega))).mono ?_
  rintro e w18 ⟨rfl, h18⟩
  replace HB := bl_trans HB h18
  clear h18
  go_wp2_with fail
  refine (Subw_W (x + y) y _ (Nat.le_trans B2.out (by omega)) (Nat.le_trans By.out (by omega))).mono ?_
  rintro e w19 ⟨rfl, h19⟩
  replace HB := bl_trans HB h19
  clear h19
  rw [H2.out]
  go_wp2_with fail
  refine (Cmpw_W x y _ (Nat.le_trans Bx.out (by omega)) (Nat.le_trans By.out (by omega))).mono ?_
  rintro e w20 ⟨rfl, h20⟩
  replace HB := bl_trans HB h20
  clear h20
  rw [HC.out]
  go_wp2_with fail
  refine (Cmpw_W y x _ (Nat.le_trans By.out (by omega)) (Nat.le_trans Bx.out (by omega))).mono ?_
  rintro e w21 ⟨rfl, h21⟩
  replace HB := bl_trans HB h21
  clear h21
  rw [HD.out]
  go_wp2_with fail
  refine (awakew_below _ _ HB).mono ?_
  rintro e w22 ⟨rfl, h22⟩
  go_wp2
  go_ret
  exact ⟨rfl, h22⟩

set_option maxRecDepth 100000 in
set_option maxHeartbeats 2000000 in
theorem back_more (x y : Int) (w : World) (xs : (W x).size ≤ 100) (ys : (W y).size ≤ 100) (h : y < x) :
    Calls Try.prog 6 #[.string (W x), .string (W y)] w fun e w' => e = .returned (.bool true) ∧ Below w.heap.size w w' := by
  have HB := (Below.refl w.heap.size w).alloc (Nat.le_refl _) (.cells #[.string (W x), .string (W y)] 9)
  have Kx : Hid (ok (W x) = true) := ok_W xs
  have Ky : Hid (ok (W y) = true) := ok_W ys
  have Bx : Hid (tl (x).natAbs ≤ 100) := tw_of xs
  have By : Hid (tl (y).natAbs ≤ 100) := tw_of ys
  have he := eqW (x := x) (y := y) (by omega)
  have HC : Hid _ := sg_gt (a := x) h
  have HD : Hid _ := sg_lt h
  clear h
  have B1 : Hid (tl (-x).natAbs ≤ 100) := by unfold Hid; rw [tw_neg]; exact Bx.out
  have B2 : Hid (tl (x + y).natAbs ≤ 200) := Nat.le_trans (tw_add (x) (y)) (Nat.add_le_add Bx.out By.out)
  have z0 := is0W
  have H1 : Hid (x + -x = 0) := by unfold Hid; omega
  have H2 : Hid (x + y - y = x) := by unfold Hid; omega
  go_enter Try.func6, Try.ntmps6
  go_wp2_with fail
  refine (back_yes (W x) (W y) w Kx.out Ky.out _).mono ?_
  rintro e w23 ⟨rfl, rfl⟩
  go_wp2_with fail
  refine (Negw_W x _ (Nat.le_trans Bx.out (by omega))).mono ?_
  rintro e w24 ⟨rfl, h24⟩
  replace HB := bl_trans HB h24
  clear h24
  go_wp2_with fail
  refine (Negw_W (-x) _ (Nat.le_trans B1.out (by omega))).mono ?_
  rintro e w25 ⟨rfl, h25⟩
  replace HB := bl_trans HB h25
  clear h25
  rw [Int.neg_neg]
  go_wp2_with fail
  refine (Addw_W x (-x) _ (Nat.le_trans Bx.out (by omega)) (Nat.le_trans B1.out (by omega))).mono ?_
  rintro e w26 ⟨rfl, h26⟩
  replace HB := bl_trans HB h26
  clear h26
  rw [H1.out]
  go_wp2_with fail
  refine (Addw_W x y _ (Nat.le_trans Bx.out (by omega)) (Nat.le_trans By.out (by omega))).mono ?_
  rintro e w27 ⟨rfl, h27⟩
  replace HB := bl_trans HB h27
  clear h27
  go_wp2_with fail
  refine (Subw_W (x + y) y _ (Nat.le_trans B2.out (by omega)) (Nat.le_trans By.out (by omega))).mono ?_
  rintro e w28 ⟨rfl, h28⟩
  replace HB := bl_trans HB h28
  clear h28
  rw [H2.out]
  go_wp2_with fail
  refine (Cmpw_W x y _ (Nat.le_trans Bx.out (by omega)) (Nat.le_trans By.out (by omega))).mono ?_
  rintro e w29 ⟨rfl, h29⟩
  replace HB := bl_trans HB h29
  clear h29
  rw [HC.out]
  go_wp2_with fail
  refine (Cmpw_W y x _ (Nat.le_trans By.out (by omega)) (Nat.le_trans Bx.out (by omega))).mono ?_
  rintro e w30 ⟨rfl, h30⟩
  replace HB := bl_trans HB h30
  clear h30
  rw [HD.out]
  go_wp2_with fail
  refine (awakew_below _ _ HB).mono ?_
  rintro e w31 ⟨rfl, h31⟩
  go_wp2
  go_ret
  exact ⟨rfl, h31⟩

theorem back_any (a0 a1 : ByteArray) (w : World) :
    Calls Try.prog 6 #[.string a0, .string a1] w fun e w' => e = .returned (.bool true) ∧ Below w.heap.size w w' := by
  by_cases r0 : ok a0 = true
  rotate_left
  · exact back_no0 a0 a1 w (by simpa using r0)
  by_cases r1 : ok a1 = true
  rotate_left
  · exact back_no1 a0 a1 w (by simpa using r1)
  obtain ⟨x, rfl, xs⟩ := ok_of r0
  obtain ⟨y, rfl, ys⟩ := ok_of r1
  rcases Int.lt_trichotomy x y with h | h | h
  · exact back_less x y w xs ys h
  · subst h; exact back_same x w xs
  · exact back_more x y w xs ys h

end Go.Proofs.Ytmmhekjnijjbnaa
