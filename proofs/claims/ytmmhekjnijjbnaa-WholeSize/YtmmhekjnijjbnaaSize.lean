/-
  THE LAW WholeSize: every call gives true; nothing that was there has turned. No conditions.
-/
import Derived.Test.YtmmhekjnijjbnaaLits
namespace Go.Proofs.Ytmmhekjnijjbnaa
open Go.RowKit Nm
set_option linter.unusedVariables false

set_option maxRecDepth 100000 in
set_option maxHeartbeats 2000000 in
theorem size_no0 (a0 a1 : ByteArray) (w : World) (h : ok a0 = false) :
    Calls Try.prog 7 #[.string a0, .string a1] w fun e w' => e = .returned (.bool true) ∧ Below w.heap.size w w' := by
  have HB := (Below.refl w.heap.size w).alloc (Nat.le_refl _) (.cells #[.string a0, .string a1] 9)
  have HS : Hid (∀ cap, Calls Try.prog 16 #[.slice (some ⟨w.heap.size, 0, none⟩) 2 cap] (w.alloc (.cells #[.string a0, .string a1] 9)) fun e w' => e = .returned (.bool false) ∧ w' = w.alloc (.cells #[.string a0, .string a1] 9)) := fun cap => shortw_no w.heap.size 2 cap 0 _ _ (by omega) (two_cells w a0 a1) (by omega) (by simpa using h)
  clear h
  go_enter Try.func7, Try.ntmps7
  go_wp2_with fail
  refine (HS.out _).mono ?_
  rintro e w1 ⟨rfl, rfl⟩
  go_wp2_with fail
  refine (awakew_below _ _ HB).mono ?_
  rintro e w2 ⟨rfl, h2⟩
  go_wp2
  go_ret
  exact ⟨rfl, h2⟩

set_option maxRecDepth 100000 in
set_option maxHeartbeats 2000000 in
theorem size_no1 (a0 a1 : ByteArray) (w : World) (h : ok a1 = false) :
    Calls Try.prog 7 #[.string a0, .string a1] w fun e w' => e = .returned (.bool true) ∧ Below w.heap.size w w' := by
  have HB := (Below.refl w.heap.size w).alloc (Nat.le_refl _) (.cells #[.string a0, .string a1] 9)
  have HS : Hid (∀ cap, Calls Try.prog 16 #[.slice (some ⟨w.heap.size, 0, none⟩) 2 cap] (w.alloc (.cells #[.string a0, .string a1] 9)) fun e w' => e = .returned (.bool false) ∧ w' = w.alloc (.cells #[.string a0, .string a1] 9)) := fun cap => shortw_no w.heap.size 2 cap 1 _ _ (by omega) (two_cells w a0 a1) (by omega) (by simpa using h)
  clear h
  go_enter Try.func7, Try.ntmps7
  go_wp2_with fail
  refine (HS.out _).mono ?_
  rintro e w3 ⟨rfl, rfl⟩
  go_wp2_with fail
  refine (awakew_below _ _ HB).mono ?_
  rintro e w4 ⟨rfl, h4⟩
  go_wp2
  go_ret
  exact ⟨rfl, h4⟩

theorem size_yes (a0 a1 : ByteArray) (w : World) (k0 : ok a0 = true) (k1 : ok a1 = true) (cap : Nat) : Calls Try.prog 16 #[.slice (some ⟨w.heap.size, 0, none⟩) 2 cap] (w.alloc (.cells #[.string a0, .string a1] 9)) fun e w' => e = .returned (.bool true) ∧ w' = w.alloc (.cells #[.string a0, .string a1] 9) := by
  refine shortw_yes w.heap.size 2 cap _ _ (by omega) (two_cells w a0 a1) ?_
  intro i hi
  (repeat' split) <;> assumption

set_option maxRecDepth 100000 in
set_option maxHeartbeats 2000000 in
theorem size_one (x y : Int) (w : World) (xs : (W x).size ≤ 100) (ys : (W y).size ≤ 100) (h : x.sign = y.sign) :
    Calls Try.prog 7 #[.string (W x), .string (W y)] w fun e w' => e = .returned (.bool true) ∧ Below w.heap.size w w' := by
  have HB := (Below.refl w.heap.size w).alloc (Nat.le_refl _) (.cells #[.string (W x), .string (W y)] 9)
  have Kx : Hid (ok (W x) = true) := ok_W xs
  have Ky : Hid (ok (W y) = true) := ok_W ys
  have Bx : Hid (tl (x).natAbs ≤ 100) := tw_of xs
  have By : Hid (tl (y).natAbs ≤ 100) := tw_of ys
  have B1 : Hid (tl (x + y).natAbs ≤ 200) := Nat.le_trans (tw_add (x) (y)) (Nat.add_le_add Bx.out By.out)
  have B2 : Hid (tl (x * y).natAbs ≤ 200) := Nat.le_trans (tw_mul (x) (y)) (Nat.add_le_add Bx.out By.out)
  have z0 := is0W
  have H0 : Hid (x - x = 0) := by unfold Hid; omega
  have HM : Hid ((x * y).sign = x.sign * x.sign) := by unfold Hid; rw [Int.sign_mul, h]
  have HA : Hid _ := sn_add h
  have HE : Hid (y.sign = x.sign) := h.symm
  have hw : IntKind.i64.wrap (x.sign * x.sign) = x.sign * x.sign := wrap_sn x x
  clear h
  clear xs ys
  go_enter Try.func7, Try.ntmps7
  go_wp2_with fail
  refine (size_yes (W x) (W y) w Kx.out Ky.out _).mono ?_
  rintro e w5 ⟨rfl, rfl⟩
  go_wp2_with fail
  refine (Signw_W x _ (Nat.le_trans Bx.out (by omega))).mono ?_
  rintro e w6 ⟨rfl, h6⟩
  replace HB := bl_trans HB h6
  clear h6
  go_wp2_with fail
  refine (Signw_W y _ (Nat.le_trans By.out (by omega))).mono ?_
  rintro e w7 ⟨rfl, h7⟩
  replace HB := bl_trans HB h7
  clear h7
  rw [HE.out]
  go_wp2_with fail
  refine (Addw_W x y _ (Nat.le_trans Bx.out (by omega)) (Nat.le_trans By.out (by omega))).mono ?_
  rintro e w8 ⟨rfl, h8⟩
  replace HB := bl_trans HB h8
  clear h8
  go_wp2_with fail
  refine (Mulw_W x y _ (Nat.le_trans Bx.out (by omega)) (Nat.le_trans By.out (by omega))).mono ?_
  rintro e w9 ⟨rfl, h9⟩
  replace HB := bl_trans HB h9
  clear h9
  go_wp2_with fail
  refine (Subw_W x x _ (Nat.le_trans Bx.out (by omega)) (Nat.le_trans Bx.out (by omega))).mono ?_
  rintro e w10 ⟨rfl, h10⟩
  replace HB := bl_trans HB h10
  clear h10
  rw [H0.out]
  go_wp2_with fail
  refine (Signw_W (x + y) _ (Nat.le_trans B1.out (by omega))).mono ?_
  rintro e w11 ⟨rfl, h11⟩
  replace HB := bl_trans HB h11
  clear h11
  rw [HA.out]
  go_wp2_with fail
  refine (Signw_W (x * y) _ (Nat.le_trans B2.out (by omega))).mono ?_
  rintro e w12 ⟨rfl, h12⟩
  replace HB := bl_trans HB h12
  clear h12
  rw [HM.out]
  go_wp2_with fail
  refine (awakew_below _ _ HB).mono ?_
  rintro e w13 ⟨rfl, h13⟩
  go_wp2
  go_ret
  exact ⟨rfl, h13⟩

set_option maxRecDepth 100000 in
set_option maxHeartbeats 2000000 in
theorem size_mz (x y : Int) (w : World) (xs : (W x).size ≤ 100) (ys : (W y).size ≤ 100) (hp : x.sign = -1) (hq : y.sign = 0) :
    Calls Try.prog 7 #[.string (W x), .string (W y)] w fun e w' => e = .returned (.bool true) ∧ Below w.heap.size w w' := by
  have HB := (Below.refl w.heap.size w).alloc (Nat.le_refl _) (.cells #[.string (W x), .string (W y)] 9)
  have Kx : Hid (ok (W x) = true) := ok_W xs
  have Ky : Hid (ok (W y) = true) := ok_W ys
  have Bx : Hid (tl (x).natAbs ≤ 100) := tw_of xs
  have By : Hid (tl (y).natAbs ≤ 100) := tw_of ys
  have B1 : Hid (tl (x + y).natAbs ≤ 200) := Nat.le_trans (tw_add (x) (y)) (Nat.add_le_add Bx.out By.out)
  have B2 : Hid (tl (x * y).natAbs ≤ 200) := Nat.le_trans (tw_mul (x) (y)) (Nat.add_le_add Bx.out By.out)
  have z0 := is0W
  have H0 : Hid (x - x = 0) := by unfold Hid; omega
  have HM : Hid ((x * y).sign = 0) := by unfold Hid; rw [Int.sign_mul, hp, hq]; rfl
  have HP : Hid _ := hp
  have HQ : Hid _ := hq
  clear hp hq
  clear xs ys
  go_enter Try.func7, Try.ntmps7
  go_wp2_with fail
  refine (size_yes (W x) (W y) w Kx.out Ky.out _).mono ?_
  rintro e w14 ⟨rfl, rfl⟩
  go_wp2_with fail
  refine (Signw_W x _ (Nat.le_trans Bx.out (by omega))).mono ?_
  rintro e w15 ⟨rfl, h15⟩
  replace HB := bl_trans HB h15
  clear h15
  rw [HP.out]
  go_wp2_with fail
  refine (Signw_W y _ (Nat.le_trans By.out (by omega))).mono ?_
  rintro e w16 ⟨rfl, h16⟩
  replace HB := bl_trans HB h16
  clear h16
  rw [HQ.out]
  go_wp2_with fail
  refine (Addw_W x y _ (Nat.le_trans Bx.out (by omega)) (Nat.le_trans By.out (by omega))).mono ?_
  rintro e w17 ⟨rfl, h17⟩
  replace HB := bl_trans HB h17
  clear h17
  go_wp2_with fail
  refine (Mulw_W x y _ (Nat.le_trans Bx.out (by omega)) (Nat.le_trans By.out (by omega))).mono ?_
  rintro e w18 ⟨rfl, h18⟩
  replace HB := bl_trans HB h18
  clear h18
  go_wp2_with fail
  refine (Subw_W x x _ (Nat.le_trans Bx.out (by omega)) (Nat.le_trans Bx.out (by omega))).mono ?_
  rintro e w19 ⟨rfl, h19⟩
  replace HB := bl_trans HB h19
  clear h19
  rw [H0.out]
  go_wp2_with fail
  refine (Signw_W (x + y) _ (Nat.le_trans B1.out (by omega))).mono ?_
  rintro e w20 ⟨rfl, h20⟩
  replace HB := bl_trans HB h20
  clear h20
  go_wp2_with fail
  refine (Signw_W (x * y) _ (Nat.le_trans B2.out (by omega))).mono ?_
  rintro e w21 ⟨rfl, h21⟩
  replace HB := bl_trans HB h21
  clear h21
  rw [HM.out]
  go_wp2_with fail
  refine (awakew_below _ _ HB).mono ?_
  rintro e w22 ⟨rfl, h22⟩
  go_wp2
  go_ret
  exact ⟨rfl, h22⟩

set_option maxRecDepth 100000 in
set_option maxHeartbeats 2000000 in
theorem size_mp (x y : Int) (w : World) (xs : (W x).size ≤ 100) (ys : (W y).size ≤ 100) (hp : x.sign = -1) (hq : y.sign = 1) :
    Calls Try.prog 7 #[.string (W x), .string (W y)] w fun e w' => e = .returned (.bool true) ∧ Below w.heap.size w w' := by
  have HB := (Below.refl w.heap.size w).alloc (Nat.le_refl _) (.cells #[.string (W x), .string (W y)] 9)
  have Kx : Hid (ok (W x) = true) := ok_W xs
  have Ky : Hid (ok (W y) = true) := ok_W ys
  have Bx : Hid (tl (x).natAbs ≤ 100) := tw_of xs
  have By : Hid (tl (y).natAbs ≤ 100) := tw_of ys
  have B1 : Hid (tl (x + y).natAbs ≤ 200) := Nat.le_trans (tw_add (x) (y)) (Nat.add_le_add Bx.out By.out)
  have B2 : Hid (tl (x * y).natAbs ≤ 200) := Nat.le_trans (tw_mul (x) (y)) (Nat.add_le_add Bx.out By.out)
  have z0 := is0W
  have H0 : Hid (x - x = 0) := by unfold Hid; omega
  have HM : Hid ((x * y).sign = -1) := by unfold Hid; rw [Int.sign_mul, hp, hq]; rfl
  have HP : Hid _ := hp
  have HQ : Hid _ := hq
  clear hp hq
  clear xs ys
  go_enter Try.func7, Try.ntmps7
  go_wp2_with fail
  refine (size_yes (W x) (W y) w Kx.out Ky.out _).mono ?_
  rintro e w23 ⟨rfl, rfl⟩
  go_wp2_with fail
  refine (Signw_W x _ (Nat.le_trans Bx.out (by omega))).mono ?_
  rintro e w24 ⟨rfl, h24⟩
  replace HB := bl_trans HB h24
  clear h24
  rw [HP.out]
  go_wp2_with fail
  refine (Signw_W y _ (Nat.le_trans By.out (by omega))).mono ?_
  rintro e w25 ⟨rfl, h25⟩
  replace HB := bl_trans HB h25
  clear h25
  rw [HQ.out]
  go_wp2_with fail
  refine (Addw_W x y _ (Nat.le_trans Bx.out (by omega)) (Nat.le_trans By.out (by omega))).mono ?_
  rintro e w26 ⟨rfl, h26⟩
  replace HB := bl_trans HB h26
  clear h26
  go_wp2_with fail
  refine (Mulw_W x y _ (Nat.le_trans Bx.out (by omega)) (Nat.le_trans By.out (by omega))).mono ?_
  rintro e w27 ⟨rfl, h27⟩
  replace HB := bl_trans HB h27
  clear h27
  go_wp2_with fail
  refine (Subw_W x x _ (Nat.le_trans Bx.out (by omega)) (Nat.le_trans Bx.out (by omega))).mono ?_
  rintro e w28 ⟨rfl, h28⟩
  replace HB := bl_trans HB h28
  clear h28
  rw [H0.out]
  go_wp2_with fail
  refine (Signw_W (x + y) _ (Nat.le_trans B1.out (by omega))).mono ?_
  rintro e w29 ⟨rfl, h29⟩
  replace HB := bl_trans HB h29
  clear h29
  go_wp2_with fail
  refine (Signw_W (x * y) _ (Nat.le_trans B2.out (by omega))).mono ?_
  rintro e w30 ⟨rfl, h30⟩
  replace HB := bl_trans HB h30
  clear h30
  rw [HM.out]
  go_wp2_with fail
  refine (awakew_below _ _ HB).mono ?_
  rintro e w31 ⟨rfl, h31⟩
  go_wp2
  go_ret
  exact ⟨rfl, h31⟩

set_option maxRecDepth 100000 in
set_option maxHeartbeats 2000000 in
theorem size_zm (x y : Int) (w : World) (xs : (W x).size ≤ 100) (ys : (W y).size ≤ 100) (hp : x.sign = 0) (hq : y.sign = -1) :
    Calls Try.prog 7 #[.string (W x), .string (W y)] w fun e w' => e = .returned (.bool true) ∧ Below w.heap.size w w' := by
  have HB := (Below.refl w.heap.size w).alloc (Nat.le_refl _) (.cells #[.string (W x), .string (W y)] 9)
  have Kx : Hid (ok (W x) = true) := ok_W xs
  have Ky : Hid (ok (W y) = true) := ok_W ys
  have Bx : Hid (tl (x).natAbs ≤ 100) := tw_of xs
  have By : Hid (tl (y).natAbs ≤ 100) := tw_of ys
  have B1 : Hid (tl (x + y).natAbs ≤ 200) := Nat.le_trans (tw_add (x) (y)) (Nat.add_le_add Bx.out By.out)
  have B2 : Hid (tl (x * y).natAbs ≤ 200) := Nat.le_trans (tw_mul (x) (y)) (Nat.add_le_add Bx.out By.out)
  have z0 := is0W
  have H0 : Hid (x - x = 0) := by unfold Hid; omega
  have HM : Hid ((x * y).sign = 0) := by unfold Hid; rw [Int.sign_mul, hp, hq]; rfl
  have HP : Hid _ := hp
  have HQ : Hid _ := hq
  clear hp hq
  clear xs ys
  go_enter Try.func7, Try.ntmps7
  go_wp2_with fail
  refine (size_yes (W x) (W y) w Kx.out Ky.out _).mono ?_
  rintro e w32 ⟨rfl, rfl⟩
  go_wp2_with fail
  refine (Signw_W x _ (Nat.le_trans Bx.out (by omega))).mono ?_
  rintro e w33 ⟨rfl, h33⟩
  replace HB := bl_trans HB h33
  clear h33
  rw [HP.out]
  go_wp2_with fail
  refine (Signw_W y _ (Nat.le_trans By.out (by omega))).mono ?_
  rintro e w34 ⟨rfl, h34⟩
  replace HB := bl_trans HB h34
  clear h34
  rw [HQ.out]
  go_wp2_with fail
  refine (Addw_W x y _ (Nat.le_trans Bx.out (by omega)) (Nat.le_trans By.out (by omega))).mono ?_
  rintro e w35 ⟨rfl, h35⟩
  replace HB := bl_trans HB h35
  clear h35
  go_wp2_with fail
  refine (Mulw_W x y _ (Nat.le_trans Bx.out (by omega)) (Nat.le_trans By.out (by omega))).mono ?_
  rintro e w36 ⟨rfl, h36⟩
  replace HB := bl_trans HB h36
  clear h36
  go_wp2_with fail
  refine (Subw_W x x _ (Nat.le_trans Bx.out (by omega)) (Nat.le_trans Bx.out (by omega))).mono ?_
  rintro e w37 ⟨rfl, h37⟩
  replace HB := bl_trans HB h37
  clear h37
  rw [H0.out]
  go_wp2_with fail
  refine (Signw_W (x + y) _ (Nat.le_trans B1.out (by omega))).mono ?_
  rintro e w38 ⟨rfl, h38⟩
  replace HB := bl_trans HB h38
  clear h38
  go_wp2_with fail
  refine (Signw_W (x * y) _ (Nat.le_trans B2.out (by omega))).mono ?_
  rintro e w39 ⟨rfl, h39⟩
  replace HB := bl_trans HB h39
  clear h39
  rw [HM.out]
  go_wp2_with fail
  refine (awakew_below _ _ HB).mono ?_
  rintro e w40 ⟨rfl, h40⟩
  go_wp2
  go_ret
  exact ⟨rfl, h40⟩

set_option maxRecDepth 100000 in
set_option maxHeartbeats 2000000 in
theorem size_zp (x y : Int) (w : World) (xs : (W x).size ≤ 100) (ys : (W y).size ≤ 100) (hp : x.sign = 0) (hq : y.sign = 1) :
    Calls Try.prog 7 #[.string (W x), .string (W y)] w fun e w' => e = .returned (.bool true) ∧ Below w.heap.size w w' := by
  have HB := (Below.refl w.heap.size w).alloc (Nat.le_refl _) (.cells #[.string (W x), .string (W y)] 9)
  have Kx : Hid (ok (W x) = true) := ok_W xs
  have Ky : Hid (ok (W y) = true) := ok_W ys
  have Bx : Hid (tl (x).natAbs ≤ 100) := tw_of xs
  have By : Hid (tl (y).natAbs ≤ 100) := tw_of ys
  have B1 : Hid (tl (x + y).natAbs ≤ 200) := Nat.le_trans (tw_add (x) (y)) (Nat.add_le_add Bx.out By.out)
  have B2 : Hid (tl (x * y).natAbs ≤ 200) := Nat.le_trans (tw_mul (x) (y)) (Nat.add_le_add Bx.out By.out)
  have z0 := is0W
  have H0 : Hid (x - x = 0) := by unfold Hid; omega
  have HM : Hid ((x * y).sign = 0) := by unfold Hid; rw [Int.sign_mul, hp, hq]; rfl
  have HP : Hid _ := hp
  have HQ : Hid _ := hq
  clear hp hq
  clear xs ys
  go_enter Try.func7, Try.ntmps7
  go_wp2_with fail
  refine (size_yes (W x) (W y) w Kx.out Ky.out _).mono ?_
  rintro e w41 ⟨rfl, rfl⟩
  go_wp2_with fail
  refine (Signw_W x _ (Nat.le_trans Bx.out (by omega))).mono ?_
  rintro e w42 ⟨rfl, h42⟩
  replace HB := bl_trans HB h42
  clear h42
  rw [HP.out]
  go_wp2_with fail
  refine (Signw_W y _ (Nat.le_trans By.out (by omega))).mono ?_
  rintro e w43 ⟨rfl, h43⟩
  replace HB := bl_trans HB h43
  clear h43
  rw [HQ.out]
  go_wp2_with fail
  refine (Addw_W x y _ (Nat.le_trans Bx.out (by omega)) (Nat.le_trans By.out (by omega))).mono ?_
  rintro e w44 ⟨rfl, h44⟩
  replace HB := bl_trans HB h44
  clear h44
  go_wp2_with fail
  refine (Mulw_W x y _ (Nat.le_trans Bx.out (by omega)) (Nat.le_trans By.out (by omega))).mono ?_
  rintro e w45 ⟨rfl, h45⟩
  replace HB := bl_trans HB h45
  clear h45
  go_wp2_with fail
  refine (Subw_W x x _ (Nat.le_trans Bx.out (by omega)) (Nat.le_trans Bx.out (by omega))).mono ?_
  rintro e w46 ⟨rfl, h46⟩
  replace HB := bl_trans HB h46
  clear h46
  rw [H0.out]
  go_wp2_with fail
  refine (Signw_W (x + y) _ (Nat.le_trans B1.out (by omega))).mono ?_
  rintro e w47 ⟨rfl, h47⟩
  replace HB := bl_trans HB h47
  clear h47
  go_wp2_with fail
  refine (Signw_W (x * y) _ (Nat.le_trans B2.out (by omega))).mono ?_
  rintro e w48 ⟨rfl, h48⟩
  replace HB := bl_trans HB h48
  clear h48
  rw [HM.out]
  go_wp2_with fail
  refine (awakew_below _ _ HB).mono ?_
  rintro e w49 ⟨rfl, h49⟩
  go_wp2
  go_ret
  exact ⟨rfl, h49⟩

set_option maxRecDepth 100000 in
set_option maxHeartbeats 2000000 in
theorem size_pm (x y : Int) (w : World) (xs : (W x).size ≤ 100) (ys : (W y).size ≤ 100) (hp : x.sign = 1) (hq : y.sign = -1) :
    Calls Try.prog 7 #[.string (W x), .string (W y)] w fun e w' => e = .returned (.bool true) ∧ Below w.heap.size w w' := by
  have HB := (Below.refl w.heap.size w).alloc (Nat.le_refl _) (.cells #[.string (W x), .string (W y)] 9)
  have Kx : Hid (ok (W x) = true) := ok_W xs
  have Ky : Hid (ok (W y) = true) := ok_W ys
  have Bx : Hid (tl (x).natAbs ≤ 100) := tw_of xs
  have By : Hid (tl (y).natAbs ≤ 100) := tw_of ys
  have B1 : Hid (tl (x + y).natAbs ≤ 200) := Nat.le_trans (tw_add (x) (y)) (Nat.add_le_add Bx.out By.out)
  have B2 : Hid (tl (x * y).natAbs ≤ 200) := Nat.le_trans (tw_mul (x) (y)) (Nat.add_le_add Bx.out By.out)
  have z0 := is0W
  have H0 : Hid (x - x = 0) := by unfold Hid; omega
  have HM : Hid ((x * y).sign = -1) := by unfold Hid; rw [Int.sign_mul, hp, hq]; rfl
  have HP : Hid _ := hp
  have HQ : Hid _ := hq
  clear hp hq
  clear xs ys
  go_enter Try.func7, Try.ntmps7
  go_wp2_with fail
  refine (size_yes (W x) (W y) w Kx.out Ky.out _).mono ?_
  rintro e w50 ⟨rfl, rfl⟩
  go_wp2_with fail
  refine (Signw_W x _ (Nat.le_trans Bx.out (by omega))).mono ?_
  rintro e w51 ⟨rfl, h51⟩
  replace HB := bl_trans HB h51
  clear h51
  rw [HP.out]
  go_wp2_with fail
  refine (Signw_W y _ (Nat.le_trans By.out (by omega))).mono ?_
  rintro e w52 ⟨rfl, h52⟩
  replace HB := bl_trans HB h52
  clear h52
  rw [HQ.out]
  go_wp2_with fail
  refine (Addw_W x y _ (Nat.le_trans Bx.out (by omega)) (Nat.le_trans By.out (by omega))).mono ?_
  rintro e w53 ⟨rfl, h53⟩
  replace HB := bl_trans HB h53
  clear h53
  go_wp2_with fail
  refine (Mulw_W x y _ (Nat.le_trans Bx.out (by omega)) (Nat.le_trans By.out (by omega))).mono ?_
  rintro e w54 ⟨rfl, h54⟩
  replace HB := bl_trans HB h54
  clear h54
  go_wp2_with fail
  refine (Subw_W x x _ (Nat.le_trans Bx.out (by omega)) (Nat.le_trans Bx.out (by omega))).mono ?_
  rintro e w55 ⟨rfl, h55⟩
  replace HB := bl_trans HB h55
  clear h55
  rw [H0.out]
  go_wp2_with fail
  refine (Signw_W (x + y) _ (Nat.le_trans B1.out (by omega))).mono ?_
  rintro e w56 ⟨rfl, h56⟩
  replace HB := bl_trans HB h56
  clear h56
  go_wp2_with fail
  refine (Signw_W (x * y) _ (Nat.le_trans B2.out (by omega))).mono ?_
  rintro e w57 ⟨rfl, h57⟩
  replace HB := bl_trans HB h57
  clear h57
  rw [HM.out]
  go_wp2_with fail
  refine (awakew_below _ _ HB).mono ?_
  rintro e w58 ⟨rfl, h58⟩
  go_wp2
  go_ret
  exact ⟨rfl, h58⟩

set_option maxRecDepth 100000 in
set_option maxHeartbeats 2000000 in
theorem size_pz (x y : Int) (w : World) (xs : (W x).size ≤ 100) (ys : (W y).size ≤ 100) (hp : x.sign = 1) (hq : y.sign = 0) :
    Calls Try.prog 7 #[.string (W x), .string (W y)] w fun e w' => e = .returned (.bool true) ∧ Below w.heap.size w w' := by
  have HB := (Below.refl w.heap.size w).alloc (Nat.le_refl _) (.cells #[.string (W x), .string (W y)] 9)
  have Kx : Hid (ok (W x) = true) := ok_W xs
  have Ky : Hid (ok (W y) = true) := ok_W ys
  have Bx : Hid (tl (x).natAbs ≤ 100) := tw_of xs
  have By : Hid (tl (y).natAbs ≤ 100) := tw_of ys
  have B1 : Hid (tl (x + y).natAbs ≤ 200) := Nat.le_trans (tw_add (x) (y)) (Nat.add_le_add Bx.out By.out)
  have B2 : Hid (tl (x * y).natAbs ≤ 200) := Nat.le_trans (tw_mul (x) (y)) (Nat.add_le_add Bx.out By.out)
  have z0 := is0W
  have H0 : Hid (x - x = 0) := by unfold Hid; omega
  have HM : Hid ((x * y).sign = 0) := by unfold Hid; rw [Int.sign_mul, hp, hq]; rfl
  have HP : Hid _ := hp
  have HQ : Hid _ := hq
  clear hp hq
  clear xs ys
  go_enter Try.func7, Try.ntmps7
  go_wp2_with fail
  refine (size_yes (W x) (W y) w Kx.out Ky.out _).mono ?_
  rintro e w59 ⟨rfl, rfl⟩
  go_wp2_with fail
  refine (Signw_W x _ (Nat.le_trans Bx.out (by omega))).mono ?_
  rintro e w60 ⟨rfl, h60⟩
  replace HB := bl_trans HB h60
  clear h60
  rw [HP.out]
  go_wp2_with fail
  refine (Signw_W y _ (Nat.le_trans By.out (by omega))).mono ?_
  rintro e w61 ⟨rfl, h61⟩
  replace HB := bl_trans HB h61
  clear h61
  rw [HQ.out]
  go_wp2_with fail
  refine (Addw_W x y _ (Nat.le_trans Bx.out (by omega)) (Nat.le_trans By.out (by omega))).mono ?_
  rintro e w62 ⟨rfl, h62⟩
  replace HB := bl_trans HB h62
  clear h62
  go_wp2_with fail
  refine (Mulw_W x y _ (Nat.le_trans Bx.out (by omega)) (Nat.le_trans By.out (by omega))).mono ?_
  rintro e w63 ⟨rfl, h63⟩
  replace HB := bl_trans HB h63
  clear h63
  go_wp2_with fail
  refine (Subw_W x x _ (Nat.le_trans Bx.out (by omega)) (Nat.le_trans Bx.out (by omega))).mono ?_
  rintro e w64 ⟨rfl, h64⟩
  replace HB := bl_trans HB h64
  clear h64
  rw [H0.out]
  go_wp2_with fail
  refine (Signw_W (x + y) _ (Nat.le_trans B1.out (by omega))).mono ?_
  rintro e w65 ⟨rfl, h65⟩
  replace HB := bl_trans HB h65
  clear h65
  go_wp2_with fail
  refine (Signw_W (x * y) _ (Nat.le_trans B2.out (by omega))).mono ?_
  rintro e w66 ⟨rfl, h66⟩
  replace HB := bl_trans HB h66
  clear h66
  rw [HM.out]
  go_wp2_with fail
  refine (awakew_below _ _ HB).mono ?_
  rintro e w67 ⟨rfl, h67⟩
  go_wp2
  go_ret
  exact ⟨rfl, h67⟩

theorem sn_three (z : Int) : z.sign = -1 ∨ z.sign = 0 ∨ z.sign = 1 := by have := sn_bd z; omega

theorem size_any (a0 a1 : ByteArray) (w : World) :
    Calls Try.prog 7 #[.string a0, .string a1] w fun e w' => e = .returned (.bool true) ∧ Below w.heap.size w w' := by
  by_cases r0 : ok a0 = true
  rotate_left
  · exact size_no0 a0 a1 w (by simpa using r0)
  by_cases r1 : ok a1 = true
  rotate_left
  · exact size_no1 a0 a1 w (by simpa using r1)
  obtain ⟨x, rfl, xs⟩ := ok_of r0
  obtain ⟨y, rfl, ys⟩ := ok_of r1
  by_cases h : x.sign = y.sign
  · exact size_one x y w xs ys h
  rcases sn_three x with hp | hp | hp <;> rcases sn_three y with hq | hq | hq
  · exact absurd (hp.trans hq.symm) h
  · exact size_mz x y w xs ys hp hq
  · exact size_mp x y w xs ys hp hq
  · exact size_zm x y w xs ys hp hq
  · exact absurd (hp.trans hq.symm) h
  · exact size_zp x y w xs ys hp hq
  · exact size_pm x y w xs ys hp hq
  · exact size_pz x y w xs ys hp hq
  · exact absurd (hp.trans hq.symm) h

end Go.Proofs.Ytmmhekjnijjbnaa
