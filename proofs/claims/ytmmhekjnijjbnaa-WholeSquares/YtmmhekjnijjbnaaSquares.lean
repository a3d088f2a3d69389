/-
  THE LAW WholeSquares: every call gives true; nothing that was there has turned. No conditions.
-/
import Derived.Test.YtmmhekjnijjbnaaLits
namespace Go.Proofs.Ytmmhekjnijjbnaa
open Go.RowKit Nm
set_option linter.unusedVariables false

set_option maxRecDepth 100000 in
set_option maxHeartbeats 2000000 in
theorem squares_no0 (a0 a1 : ByteArray) (w : World) (h : ok a0 = false) :
    Calls Try.prog 10 #[.string a0, .string a1] w fun e w' => e = .returned (.bool true) ∧ Below w.heap.size w w' := by
  have HB := (Below.refl w.heap.size w).alloc (Nat.le_refl _) (.cells #[.string a0, .string a1] 9)
  have HS : Hid (∀ cap, Calls Try.prog 16 #[.slice (some ⟨w.heap.size, 0, none⟩) 2 cap] (w.alloc (.cells #[.string a0, .string a1] 9)) fun e w' => e = .returned (.bool false) ∧ w' = w.alloc (.cells #[.string a0, .string a1] 9)) := fun cap => shortw_no w.heap.size 2 cap 0 _ _ (by omega) (two_cells w a0 a1) (by omega) (by simpa using h)
  clear h
  go_enter Try.func10, Try.ntmps10
  go_wp2_with fail
  refine (HS.out _).mono ?_
  rintro e w1 ⟨rfl, rfl⟩
  go_wp2_with fail
  refine (awakew_below _ _ HB).mono ?_
  rintro e w2 ⟨rfl, h2⟩
  go_wp2
  go_ret
  exact ⟨rfl, h2⟩

set_option maxRecDepth 100000 in
set_option maxHeartbeats 2000000 in
theorem squares_no1 (a0 a1 : ByteArray) (w : World) (h : ok a1 = false) :
    Calls Try.prog 10 #[.string a0, .string a1] w fun e w' => e = .returned (.bool true) ∧ Below w.heap.size w w' := by
  have HB := (Below.refl w.heap.size w).alloc (Nat.le_refl _) (.cells #[.string a0, .string a1] 9)
  have HS : Hid (∀ cap, Calls Try.prog 16 #[.slice (some ⟨w.heap.size, 0, none⟩) 2 cap] (w.alloc (.cells #[.string a0, .string a1] 9)) fun e w' => e = .returned (.bool false) ∧ w' = w.alloc (.cells #[.string a0, .string a1] 9)) := fun cap => shortw_no w.heap.size 2 cap 1 _ _ (by omega) (two_cells w a0 a1) (by omega) (by simpa using h)
  clear h
  go_enter Try.func10, Try.ntmps10
  go_wp2_with fail
  refine (HS.out _).mono ?_
  rintro e w3 ⟨rfl, rfl⟩
  go_wp2_with fail
  refine (awakew_below _ _ HB).mono ?_
  rintro e w4 ⟨rfl, h4⟩
  go_wp2
  go_ret
  exact ⟨rfl, h4⟩

theorem squares_yes (a0 a1 : ByteArray) (w : World) (k0 : ok a0 = true) (k1 : ok a1 = true) (cap : Nat) : Calls Try.prog 16 #[.slice (some ⟨w.heap.size, 0, none⟩) 2 cap] (w.alloc (.cells #[.string a0, .string a1] 9)) fun e w' => e = .returned (.bool true) ∧ w' = w.alloc (.cells #[.string a0, .string a1] 9) := by
  refine shortw_yes w.heap.size 2 cap _ _ (by omega) (two_cells w a0 a1) ?_
  intro i hi
  (repeat' split) <;> assumption

set_option maxRecDepth 100000 in
set_option maxHeartbeats 2000000 in
theorem squares_extra (x y : Int) (w : World) (xs : (W x).size ≤ 100) (ys : (W y).size ≤ 100) (h : 120 < (W x).size + (W y).size) :
    Calls Try.prog 10 #[.string (W x), .string (W y)] w fun e w' => e = .returned (.bool true) ∧ Below w.heap.size w w' := by
  have HB := (Below.refl w.heap.size w).alloc (Nat.le_refl _) (.cells #[.string (W x), .string (W y)] 9)
  have Kx : Hid (ok (W x) = true) := ok_W xs
  have Ky : Hid (ok (W y) = true) := ok_W ys
  have Bx : Hid (tl (x).natAbs ≤ 100) := tw_of xs
  have By : Hid (tl (y).natAbs ≤ 100) := tw_of ys
  go_enter Try.func10, Try.ntmps10
  go_wp2_with fail
  refine (squares_yes (W x) (W y) w Kx.out Ky.out _).mono ?_
  rintro e w5 ⟨rfl, rfl⟩
  go_wp2_with fail
  refine (awakew_below _ _ HB).mono ?_
  rintro e w6 ⟨rfl, h6⟩
  go_wp2
  go_ret
  exact ⟨rfl, h6⟩

set_option maxRecDepth 100000 in
set_option maxHeartbeats 2000000 in
theorem squares_same (x : Int) (w : World) (xs : (W x).size ≤ 100) (hl : ¬ 120 < (W x).size + (W x).size) :
    Calls Try.prog 10 #[.string (W x), .string (W x)] w fun e w' => e = .returned (.bool true) ∧ Below w.heap.size w w' := by
  have HB := (Below.refl w.heap.size w).alloc (Nat.le_refl _) (.cells #[.string (W x), .string (W x)] 9)
  have Kx : Hid (ok (W x) = true) := ok_W xs
  have Bx : Hid (tl (x).natAbs ≤ 100) := tw_of xs
  have B1 : Hid (tl (x * x).natAbs ≤ 200) := Nat.le_trans (tw_mul (x) (x)) (Nat.add_le_add Bx.out Bx.out)
  have B2 : Hid (tl (x * x + x * x).natAbs ≤ 400) := Nat.le_trans (tw_add (x * x) (x * x)) (Nat.add_le_add B1.out B1.out)
  have H0 : Hid (x - x = 0) := by unfold Hid; omega
  have H1 : Hid (x * x + x * x - x * x = x * x) := by unfold Hid; omega
  have H2 : Hid (x * x - x * x = 0) := by unfold Hid; omega
  have B0 : Hid (tl (0 : Int).natAbs ≤ 5000) := tl0
  clear xs
  go_enter Try.func10, Try.ntmps10
  go_wp2_with fail
  refine (squares_yes (W x) (W x) w Kx.out Kx.out _).mono ?_
  rintro e w7 ⟨rfl, rfl⟩
  go_wp2_with fail
  refine (Subw_W x x _ (Nat.le_trans Bx.out (by omega)) (Nat.le_trans Bx.out (by omega))).mono ?_
  rintro e w8 ⟨rfl, h8⟩
  replace HB := bl_trans HB h8
  clear h8
  rw [H0.out]
  go_wp2_with fail
  refine (Mulw_W 0 0 _ B0.out B0.out).mono ?_
  rintro e w9 ⟨rfl, h9⟩
  replace HB := bl_trans HB h9
  clear h9
  rw [Int.mul_zero]
  go_wp2_with fail
  refine (Signw_W 0 _ B0.out).mono ?_
  rintro e w10 ⟨rfl, h10⟩
  replace HB := bl_trans HB h10
  clear h10
  rw [Int.sign_zero]
  go_wp2_with fail
  refine (Mulw_W x x _ (Nat.le_trans Bx.out (by omega)) (Nat.le_trans Bx.out (by omega))).mono ?_
  rintro e w11 ⟨rfl, h11⟩
  replace HB := bl_trans HB h11
  clear h11
  go_wp2_with fail
  refine (Mulw_W x x _ (Nat.le_trans Bx.out (by omega)) (Nat.le_trans Bx.out (by omega))).mono ?_
  rintro e w12 ⟨rfl, h12⟩
  replace HB := bl_trans HB h12
  clear h12
  go_wp2_with fail
  refine (Mulw_W x x _ (Nat.le_trans Bx.out (by omega)) (Nat.le_trans Bx.out (by omega))).mono ?_
  rintro e w13 ⟨rfl, h13⟩
  replace HB := bl_trans HB h13
  clear h13
  go_wp2_with fail
  refine (Addw_W (x * x) (x * x) _ (Nat.le_trans B1.out (by omega)) (Nat.le_trans B1.out (by omega))).mono ?_
  rintro e w14 ⟨rfl, h14⟩
  replace HB := bl_trans HB h14
  clear h14
  go_wp2_with fail
  refine (Subw_W (x * x + x * x) (x * x) _ (Nat.le_trans B2.out (by omega)) (Nat.le_trans B1.out (by omega))).mono ?_
  rintro e w15 ⟨rfl, h15⟩
  replace HB := bl_trans HB h15
  clear h15
  rw [H1.out]
  go_wp2_with fail
  refine (Subw_W (x * x) (x * x) _ (Nat.le_trans B1.out (by omega)) (Nat.le_trans B1.out (by omega))).mono ?_
  rintro e w16 ⟨rfl, h16⟩
  replace HB := bl_trans HB h16
  clear h16
  rw [H2.out]
  go_wp2_with fail
  refine (awakew_below _ _ HB).mono ?_
  rintro e w17 ⟨rfl, h17⟩
  go_wp2
  go_ret
  exact ⟨rfl, h17⟩

set_option maxRecDepth 100000 in
set_option maxHeartbeats 2000000 in
theorem squares_other (x y : Int) (w : World) (xs : (W x).size ≤ 100) (ys : (W y).size ≤ 100) (hl : ¬ 120 < (W x).size + (W y).size) (h : x ≠ y) :
    Calls Try.prog 10 #[.string (W x), .string (W y)] w fun e w' => e = .returned (.bool true) ∧ Below w.heap.size w w' := by
  have HB := (Below.refl w.heap.size w).alloc (Nat.le_refl _) (.cells #[.string (W x), .string (W y)] 9)
  have Kx : Hid (ok (W x) = true) := ok_W xs
  have Ky : Hid (ok (W y) = true) := ok_W ys
  have Bx : Hid (tl (x).natAbs ≤ 100) := tw_of xs
  have By : Hid (tl (y).natAbs ≤ 100) := tw_of ys
  have he := eqW h
  have HP : Hid _ := sqw_pos h
  clear h
  have B1 : Hid (tl (x - y).natAbs ≤ 200) := Nat.le_trans (tw_sub (x) (y)) (Nat.add_le_add Bx.out By.out)
  have B2 : Hid (tl ((x - y) * (x - y)).natAbs ≤ 400) := Nat.le_trans (tw_mul (x - y) (x - y)) (Nat.add_le_add B1.out B1.out)
  have B3 : Hid (tl (x * x).natAbs ≤ 200) := Nat.le_trans (tw_mul (x) (x)) (Nat.add_le_add Bx.out Bx.out)
  have B4 : Hid (tl (y * y).natAbs ≤ 200) := Nat.le_trans (tw_mul (y) (y)) (Nat.add_le_add By.out By.out)
  have B5 : Hid (tl (x * y).natAbs ≤ 200) := Nat.le_trans (tw_mul (x) (y)) (Nat.add_le_add Bx.out By.out)
  have B6 : Hid (tl (x * x + y * y).natAbs ≤ 400) := Nat.le_trans (tw_add (x * x) (y * y)) (Nat.add_le_add B3.out B4.out)
  have B7 : Hid (tl (x * x + y * y - x * y).natAbs ≤ 600) := Nat.le_trans (tw_sub (x * x + y * y) (x * y)) (Nat.add_le_add B6.out B5.out)
  have HQ : Hid _ := sqw x y
  go_enter Try.func10, Try.ntmps10
  go_wp2_with fail
  refine (squares_yes (W x) (W y) w Kx.out Ky.out _).mono ?_
  rintro e w18 ⟨rfl, rfl⟩
  go_wp2_with fail
  refine (Subw_W x y _ (Nat.le_trans Bx.out (by omega)) (Nat.le_trans By.out (by omega))).mono ?_
  rintro e w19 ⟨rfl, h19⟩
  replace HB := bl_trans HB h19
  clear h19
  go_wp2_with fail
  refine (Mulw_W (x - y) (x - y) _ (Nat.le_trans B1.out (by omega)) (Nat.le_trans B1.out (by omega))).mono ?_
  rintro e w20 ⟨rfl, h20⟩
  replace HB := bl_trans HB h20
  clear h20
  go_wp2_with fail
  refine (Signw_W ((x - y) * (x - y)) _ (Nat.le_trans B2.out (by omega))).mono ?_
  rintro e w21 ⟨rfl, h21⟩
  replace HB := bl_trans HB h21
  clear h21
  rw [HP.out]
  go_wp2_with fail
  refine (Mulw_W x x _ (Nat.le_trans Bx.out (by omega)) (Nat.le_trans Bx.out (by omega))).mono ?_
  rintro e w22 ⟨rfl, h22⟩
  replace HB := bl_trans HB h22
  clear h22
  go_wp2_with fail
  refine (Mulw_W y y _ (Nat.le_trans By.out (by omega)) (Nat.le_trans By.out (by omega))).mono ?_
  rintro e w23 ⟨rfl, h23⟩
  replace HB := bl_trans HB h23
  clear h23
  go_wp2_with fail
  refine (Mulw_W x y _ (Nat.le_trans Bx.out (by omega)) (Nat.le_trans By.out (by omega))).mono ?_
  rintro e w24 ⟨rfl, h24⟩
  replace HB := bl_trans HB h24
  clear h24
  go_wp2_with fail
  refine (Addw_W (x * x) (y * y) _ (Nat.le_trans B3.out (by omega)) (Nat.le_trans B4.out (by omega))).mono ?_
  rintro e w25 ⟨rfl, h25⟩
  replace HB := bl_trans HB h25
  clear h25
  go_wp2_with fail
  refine (Subw_W (x * x + y * y) (x * y) _ (Nat.le_trans B6.out (by omega)) (Nat.le_trans B5.out (by omega))).mono ?_
  rintro e w26 ⟨rfl, h26⟩
  replace HB := bl_trans HB h26
  clear h26
  go_wp2_with fail
  refine (Subw_W (x * x + y * y - x * y) (x * y) _ (Nat.le_trans B7.out (by omega)) (Nat.le_trans B5.out (by omega))).mono ?_
  rintro e w27 ⟨rfl, h27⟩
  replace HB := bl_trans HB h27
  clear h27
  rw [HQ.out]
  go_wp2_with fail
  refine (awakew_below _ _ HB).mono ?_
  rintro e w28 ⟨rfl, h28⟩
  go_wp2
  go_ret
  exact ⟨rfl, h28⟩

theorem squares_any (a0 a1 : ByteArray) (w : World) :
    Calls Try.prog 10 #[.string a0, .string a1] w fun e w' => e = .returned (.bool true) ∧ Below w.heap.size w w' := by
  by_cases r0 : ok a0 = true
  rotate_left
  · exact squares_no0 a0 a1 w (by simpa using r0)
  by_cases r1 : ok a1 = true
  rotate_left
  · exact squares_no1 a0 a1 w (by simpa using r1)
  obtain ⟨x, rfl, xs⟩ := ok_of r0
  obtain ⟨y, rfl, ys⟩ := ok_of r1
  by_cases hl : 120 < (W x).size + (W y).size
  · exact squares_extra x y w xs ys hl
  by_cases h : x = y
  · subst h; exact squares_same x w xs hl
  · exact squares_other x y w xs ys hl h

end Go.Proofs.Ytmmhekjnijjbnaa
