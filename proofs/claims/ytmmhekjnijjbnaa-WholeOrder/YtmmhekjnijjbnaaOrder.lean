/-
  THE LAW WholeOrder: every call gives true; nothing that was there has turned. No conditions.
-/
import Derived.Test.YtmmhekjnijjbnaaLits
namespace Go.Proofs.Ytmmhekjnijjbnaa
open Go.RowKit Nm
set_option linter.unusedVariables false

set_option maxRecDepth 100000 in
set_option maxHeartbeats 2000000 in
theorem order_no0 (a0 a1 a2 : ByteArray) (w : World) (h : ok a0 = false) :
    Calls Try.prog 8 #[.string a0, .string a1, .string a2] w fun e w' => e = .returned (.bool true) ∧ Below w.heap.size w w' := by
  have HB := (Below.refl w.heap.size w).alloc (Nat.le_refl _) (.cells #[.string a0, .string a1, .string a2] 9)
  have HS : Hid (∀ cap, Calls Try.prog 16 #[.slice (some ⟨w.heap.size, 0, none⟩) 3 cap] (w.alloc (.cells #[.string a0, .string a1, .string a2] 9)) fun e w' => e = .returned (.bool false) ∧ w' = w.alloc (.cells #[.string a0, .string a1, .string a2] 9)) := fun cap => shortw_no w.heap.size 3 cap 0 _ _ (by omega) (three_cells w a0 a1 a2) (by omega) (by simpa using h)
  clear h
  go_enter Try.func8, Try.ntmps8
  go_wp2_with fail
  refine (HS.out _).mono ?_
  rintro e w1 ⟨rfl, rfl⟩
  go_wp2_with fail
  refine (awakew_below _ _ HB).mono ?_
  rintro e w2 ⟨rfl, h2⟩
  go_wp2
  go_ret
  exact ⟨rfl, h2⟩

set_option maxRecDepth 100000 in
set_option maxHeartbeats 2000000 in
theorem order_no1 (a0 a1 a2 : ByteArray) (w : World) (h : ok a1 = false) :
    Calls Try.prog 8 #[.string a0, .string a1, .string a2] w fun e w' => e = .returned (.bool true) ∧ Below w.heap.size w w' := by
  have HB := (Below.refl w.heap.size w).alloc (Nat.le_refl _) (.cells #[.string a0, .string a1, .string a2] 9)
  have HS : Hid (∀ cap, Calls Try.prog 16 #[.slice (some ⟨w.heap.size, 0, none⟩) 3 cap] (w.alloc (.cells #[.string a0, .string a1, .string a2] 9)) fun e w' => e = .returned (.bool false) ∧ w' = w.alloc (.cells #[.string a0, .string a1, .string a2] 9)) := fun cap => shortw_no w.heap.size 3 cap 1 _ _ (by omega) (three_cells w a0 a1 a2) (by omega) (by simpa using h)
  clear h
  go_enter Try.func8, Try.ntmps8
  go_wp2_with fail
  refine (HS.out _).mono ?_
  rintro e w3 ⟨rfl, rfl⟩
  go_wp2_with fail
  refine (awakew_below _ _ HB).mono ?_
  rintro e w4 ⟨rfl, h4⟩
  go_wp2
  go_ret
  exact ⟨rfl, h4⟩

set_option maxRecDepth 100000 in
set_option maxHeartbeats 2000000 in
theorem order_no2 (a0 a1 a2 : ByteArray) (w : World) (h : ok a2 = false) :
    Calls Try.prog 8 #[.string a0, .string a1, .string a2] w fun e w' => e = .returned (.bool true) ∧ Below w.heap.size w w' := by
  have HB := (Below.refl w.heap.size w).alloc (Nat.le_refl _) (.cells #[.string a0, .string a1, .string a2] 9)
  have HS : Hid (∀ cap, Calls Try.prog 16 #[.slice (some ⟨w.heap.size, 0, none⟩) 3 cap] (w.alloc (.cells #[.string a0, .string a1, .string a2] 9)) fun e w' => e = .returned (.bool false) ∧ w' = w.alloc (.cells #[.string a0, .string a1, .string a2] 9)) := fun cap => shortw_no w.heap.size 3 cap 2 _ _ (by omega) (three_cells w a0 a1 a2) (by omega) (by simpa using h)
  clear h
  go_enter Try.func8, Try.ntmps8
  go_wp2_with fail
  refine (HS.out _).mono ?_
  rintro e w5 ⟨rfl, rfl⟩
  go_wp2_with fail
  refine (awakew_below _ _ HB).mono ?_
  rintro e w6 ⟨rfl, h6⟩
  go_wp2
  go_ret
  exact ⟨rfl, h6⟩

theorem order_yes (a0 a1 a2 : ByteArray) (w : World) (k0 : ok a0 = true) (k1 : ok a1 = true) (k2 : ok a2 = true) (cap : Nat) : Calls Try.prog 16 #[.slice (some ⟨w.heap.size, 0, none⟩) 3 cap] (w.alloc (.cells #[.string a0, .string a1, .string a2] 9)) fun e w' => e = .returned (.bool true) ∧ w' = w.alloc (.cells #[.string a0, .string a1, .string a2] 9) := by
  refine shortw_yes w.heap.size 3 cap _ _ (by omega) (three_cells w a0 a1 a2) ?_
  intro i hi
  (repeat' split) <;> assumption

set_option maxRecDepth 100000 in
set_option maxHeartbeats 2000000 in
theorem order_one (x y z : Int) (w : World) (xs : (W x).size ≤ 100) (ys : (W y).size ≤ 100) (zs : (W z).size ≤ 100) (h : y < x) :
    Calls Try.prog 8 #[.string (W x), .string (W y), .string (W z)] w fun e w' => e = .returned (.bool true) ∧ Below w.heap.size w w' := by
  have HB := (Below.refl w.heap.size w).alloc (Nat.le_refl _) (.cells #[.string (W x), .string (W y), .string (W z)] 9)
  have Kx : Hid (ok (W x) = true) := ok_W xs
  have Ky : Hid (ok (W y) = true) := ok_W ys
  have Kz : Hid (ok (W z) = true) := ok_W zs
  have Bx : Hid (tl (x).natAbs ≤ 100) := tw_of xs
  have By : Hid (tl (y).natAbs ≤ 100) := tw_of ys
  have Bz : Hid (tl (z).natAbs ≤ 100) := tw_of zs
  have B1 : Hid (tl (x + z).natAbs ≤ 200) := Nat.le_trans (tw_add (x) (z)) (Nat.add_le_add Bx.out Bz.out)
  have B2 : Hid (tl (y + z).natAbs ≤ 200) := Nat.le_trans (tw_add (y) (z)) (Nat.add_le_add By.out Bz.out)
  have B3 : Hid (tl (-x).natAbs ≤ 100) := by unfold Hid; rw [tw_neg]; exact Bx.out
  have B4 : Hid (tl (-y).natAbs ≤ 100) := by unfold Hid; rw [tw_neg]; exact By.out
  have hb := sg_bd x y
  have HA : Hid _ := sgw_add x y z
  have HN : Hid _ := sgw_neg x y
  have h1 : 0 < sg x y := sgw_pos.2 h
  clear h
  clear xs ys zs
  go_enter Try.func8, Try.ntmps8
  go_wp2_with fail
  refine (order_yes (W x) (W y) (W z) w Kx.out Ky.out Kz.out _).mono ?_
  rintro e w7 ⟨rfl, rfl⟩
  go_wp2_with fail
  refine (Cmpw_W x y _ (Nat.le_trans Bx.out (by omega)) (Nat.le_trans By.out (by omega))).mono ?_
  rintro e w8 ⟨rfl, h8⟩
  replace HB := bl_trans HB h8
  clear h8
  go_wp2_with fail
  refine (Cmpw_W y z _ (Nat.le_trans By.out (by omega)) (Nat.le_trans Bz.out (by omega))).mono ?_
  rintro e w9 ⟨rfl, h9⟩
  replace HB := bl_trans HB h9
  clear h9
  go_wp2_with fail
  refine (Cmpw_W x z _ (Nat.le_trans Bx.out (by omega)) (Nat.le_trans Bz.out (by omega))).mono ?_
  rintro e w10 ⟨rfl, h10⟩
  replace HB := bl_trans HB h10
  clear h10
  go_wp2_with fail
  refine (Addw_W x z _ (Nat.le_trans Bx.out (by omega)) (Nat.le_trans Bz.out (by omega))).mono ?_
  rintro e w11 ⟨rfl, h11⟩
  replace HB := bl_trans HB h11
  clear h11
  go_wp2_with fail
  refine (Addw_W y z _ (Nat.le_trans By.out (by omega)) (Nat.le_trans Bz.out (by omega))).mono ?_
  rintro e w12 ⟨rfl, h12⟩
  replace HB := bl_trans HB h12
  clear h12
  go_wp2_with fail
  refine (Cmpw_W (x + z) (y + z) _ (Nat.le_trans B1.out (by omega)) (Nat.le_trans B2.out (by omega))).mono ?_
  rintro e w13 ⟨rfl, h13⟩
  replace HB := bl_trans HB h13
  clear h13
  rw [HA.out]
  go_wp2_with fail
  refine (Negw_W x _ (Nat.le_trans Bx.out (by omega))).mono ?_
  rintro e w14 ⟨rfl, h14⟩
  replace HB := bl_trans HB h14
  clear h14
  go_wp2_with fail
  refine (Negw_W y _ (Nat.le_trans By.out (by omega))).mono ?_
  rintro e w15 ⟨rfl, h15⟩
  replace HB := bl_trans HB h15
  clear h15
  go_wp2_with fail
  refine (Cmpw_W (-x) (-y) _ (Nat.le_trans B3.out (by omega)) (Nat.le_trans B4.out (by omega))).mono ?_
  rintro e w16 ⟨rfl, h16⟩
  replace HB := bl_trans HB h16
  clear h16
  rw [HN.out]
  go_wp2_with fail
  refine (awakew_below _ _ HB).mono ?_
  rintro e w17 ⟨rfl, h17⟩
  go_wp2
  go_ret
  exact ⟨rfl, h17⟩

set_option maxRecDepth 100000 in
set_option maxHeartbeats 2000000 in
theorem order_two (x y z : Int) (w : World) (xs : (W x).size ≤ 100) (ys : (W y).size ≤ 100) (zs : (W z).size ≤ 100) (h : ¬ y < x) (h2 : z < y) :
    Calls Try.prog 8 #[.string (W x), .string (W y), .string (W z)] w fun e w' => e = .returned (.bool true) ∧ Below w.heap.size w w' := by
  have HB := (Below.refl w.heap.size w).alloc (Nat.le_refl _) (.cells #[.string (W x), .string (W y), .string (W z)] 9)
  have Kx : Hid (ok (W x) = true) := ok_W xs
  have Ky : Hid (ok (W y) = true) := ok_W ys
  have Kz : Hid (ok (W z) = true) := ok_W zs
  have Bx : Hid (tl (x).natAbs ≤ 100) := tw_of xs
  have By : Hid (tl (y).natAbs ≤ 100) := tw_of ys
  have Bz : Hid (tl (z).natAbs ≤ 100) := tw_of zs
  have B1 : Hid (tl (x + z).natAbs ≤ 200) := Nat.le_trans (tw_add (x) (z)) (Nat.add_le_add Bx.out Bz.out)
  have B2 : Hid (tl (y + z).natAbs ≤ 200) := Nat.le_trans (tw_add (y) (z)) (Nat.add_le_add By.out Bz.out)
  have B3 : Hid (tl (-x).natAbs ≤ 100) := by unfold Hid; rw [tw_neg]; exact Bx.out
  have B4 : Hid (tl (-y).natAbs ≤ 100) := by unfold Hid; rw [tw_neg]; exact By.out
  have hb := sg_bd x y
  have HA : Hid _ := sgw_add x y z
  have HN : Hid _ := sgw_neg x y
  have h1 : ¬ 0 < sg x y := fun c => h (sgw_pos.1 c)
  have h3 : 0 < sg y z := sgw_pos.2 h2
  clear h h2
  clear xs ys zs
  go_enter Try.func8, Try.ntmps8
  go_wp2_with fail
  refine (order_yes (W x) (W y) (W z) w Kx.out Ky.out Kz.out _).mono ?_
  rintro e w18 ⟨rfl, rfl⟩
  go_wp2_with fail
  refine (Cmpw_W x y _ (Nat.le_trans Bx.out (by omega)) (Nat.le_trans By.out (by omega))).mono ?_
  rintro e w19 ⟨rfl, h19⟩
  replace HB := bl_trans HB h19
  clear h19
  go_wp2_with fail
  refine (Cmpw_W y z _ (Nat.le_trans By.out (by omega)) (Nat.le_trans Bz.out (by omega))).mono ?_
  rintro e w20 ⟨rfl, h20⟩
  replace HB := bl_trans HB h20
  clear h20
  go_wp2_with fail
  refine (Cmpw_W x z _ (Nat.le_trans Bx.out (by omega)) (Nat.le_trans Bz.out (by omega))).mono ?_
  rintro e w21 ⟨rfl, h21⟩
  replace HB := bl_trans HB h21
  clear h21
  go_wp2_with fail
  refine (Addw_W x z _ (Nat.le_trans Bx.out (by omega)) (Nat.le_trans Bz.out (by omega))).mono ?_
  rintro e w22 ⟨rfl, h22⟩
  replace HB := bl_trans HB h22
  clear h22
  go_wp2_with fail
  refine (Addw_W y z _ (Nat.le_trans By.out (by omega)) (Nat.le_trans Bz.out (by omega))).mono ?_
  rintro e w23 ⟨rfl, h23⟩
  replace HB := bl_trans HB h23
  clear h23
  go_wp2_with fail
  refine (Cmpw_W (x + z) (y + z) _ (Nat.le_trans B1.out (by omega)) (Nat.le_trans B2.out (by omega))).mono ?_
  rintro e w24 ⟨rfl, h24⟩
  replace HB := bl_trans HB h24
  clear h24
  rw [HA.out]
  go_wp2_with fail
  refine (Negw_W x _ (Nat.le_trans Bx.out (by omega))).mono ?_
  rintro e w25 ⟨rfl, h25⟩
  replace HB := bl_trans HB h25
  clear h25
  go_wp2_with fail
  refine (Negw_W y _ (Nat.le_trans By.out (by omega))).mono ?_
  rintro e w26 ⟨rfl, h26⟩
  replace HB := bl_trans HB h26
  clear h26
  go_wp2_with fail
  refine (Cmpw_W (-x) (-y) _ (Nat.le_trans B3.out (by omega)) (Nat.le_trans B4.out (by omega))).mono ?_
  rintro e w27 ⟨rfl, h27⟩
  replace HB := bl_trans HB h27
  clear h27
  rw [HN.out]
  go_wp2_with fail
  refine (awakew_below _ _ HB).mono ?_
  rintro e w28 ⟨rfl, h28⟩
  go_wp2
  go_ret
  exact ⟨rfl, h28⟩

set_option maxRecDepth 100000 in
set_option maxHeartbeats 2000000 in
theorem order_three (x y z : Int) (w : World) (xs : (W x).size ≤ 100) (ys : (W y).size ≤ 100) (zs : (W z).size ≤ 100) (h : ¬ y < x) (h2 : ¬ z < y) :
    Calls Try.prog 8 #[.string (W x), .string (W y), .string (W z)] w fun e w' => e = .returned (.bool true) ∧ Below w.heap.size w w' := by
  have HB := (Below.refl w.heap.size w).alloc (Nat.le_refl _) (.cells #[.string (W x), .string (W y), .string (W z)] 9)
  have Kx : Hid (ok (W x) = true) := ok_W xs
  have Ky : Hid (ok (W y) = true) := ok_W ys
  have Kz : Hid (ok (W z) = true) := ok_W zs
  have Bx : Hid (tl (x).natAbs ≤ 100) := tw_of xs
  have By : Hid (tl (y).natAbs ≤ 100) := tw_of ys
  have Bz : Hid (tl (z).natAbs ≤ 100) := tw_of zs
  have B1 : Hid (tl (x + z).natAbs ≤ 200) := Nat.le_trans (tw_add (x) (z)) (Nat.add_le_add Bx.out Bz.out)
  have B2 : Hid (tl (y + z).natAbs ≤ 200) := Nat.le_trans (tw_add (y) (z)) (Nat.add_le_add By.out Bz.out)
  have B3 : Hid (tl (-x).natAbs ≤ 100) := by unfold Hid; rw [tw_neg]; exact Bx.out
  have B4 : Hid (tl (-y).natAbs ≤ 100) := by unfold Hid; rw [tw_neg]; exact By.out
  have hb := sg_bd x y
  have HA : Hid _ := sgw_add x y z
  have HN : Hid _ := sgw_neg x y
  have h1 : ¬ 0 < sg x y := fun c => h (sgw_pos.1 c)
  have h3 : ¬ 0 < sg y z := fun c => h2 (sgw_pos.1 c)
  have h4 : sg x z ≤ 0 := by have := sgw_pos (x := x) (y := z); omega
  clear h h2
  clear xs ys zs
  go_enter Try.func8, Try.ntmps8
  go_wp2_with fail
  refine (order_yes (W x) (W y) (W z) w Kx.out Ky.out Kz.out _).mono ?_
  rintro e w29 ⟨rfl, rfl⟩
  go_wp2_with fail
  refine (Cmpw_W x y _ (Nat.le_trans Bx.out (by omega)) (Nat.le_trans By.out (by omega))).mono ?_
  rintro e w30 ⟨rfl, h30⟩
  replace HB := bl_trans HB h30
  clear h30
  go_wp2_with fail
  refine (Cmpw_W y z _ (Nat.le_trans By.out (by omega)) (Nat.le_trans Bz.out (by omega))).mono ?_
  rintro e w31 ⟨rfl, h31⟩
  replace HB := bl_trans HB h31
  clear h31
  go_wp2_with fail
  refine (Cmpw_W x z _ (Nat.le_trans Bx.out (by omega)) (Nat.le_trans Bz.out (by omega))).mono ?_
  rintro e w32 ⟨rfl, h32⟩
  replace HB := bl_trans HB h32
  clear h32
  go_wp2_with fail
  refine (Addw_W x z _ (Nat.le_trans Bx.out (by omega)) (Nat.le_trans Bz.out (by omega))).mono ?_
  rintro e w33 ⟨rfl, h33⟩
  replace HB := bl_trans HB h33
  clear h33
  go_wp2_with fail
  refine (Addw_W y z _ (Nat.le_trans By.out (by omega)) (Nat.le_trans Bz.out (by omega))).mono ?_
  rintro e w34 ⟨rfl, h34⟩
  replace HB := bl_trans HB h34
  clear h34
  go_wp2_with fail
  refine (Cmpw_W (x + z) (y + z) _ (Nat.le_trans B1.out (by omega)) (Nat.le_trans B2.out (by omega))).mono ?_
  rintro e w35 ⟨rfl, h35⟩
  replace HB := bl_trans HB h35
  clear h35
  rw [HA.out]
  go_wp2_with fail
  refine (Negw_W x _ (Nat.le_trans Bx.out (by omega))).mono ?_
  rintro e w36 ⟨rfl, h36⟩
  replace HB := bl_trans HB h36
  clear h36
  go_wp2_with fail
  refine (Negw_W y _ (Nat.le_trans By.out (by omega))).mono ?_
  rintro e w37 ⟨rfl, h37⟩
  replace HB := bl_trans HB h37
  clear h37
  go_wp2_with fail
  refine (Cmpw_W (-x) (-y) _ (Nat.le_trans B3.out (by omega)) (Nat.le_trans B4.out (by omega))).mono ?_
  rintro e w38 ⟨rfl, h38⟩
  replace HB := bl_trans HB h38
  clear h38
  rw [HN.out]
  go_wp2_with fail
  refine (awakew_below _ _ HB).mono ?_
  rintro e w39 ⟨rfl, h39⟩
  go_wp2
  go_ret
  exact ⟨rfl, h39⟩

theorem order_any (a0 a1 a2 : ByteArray) (w : World) :
    Calls Try.prog 8 #[.string a0, .string a1, .string a2] w fun e w' => e = .returned (.bool true) ∧ Below w.heap.size w w' := by
  by_cases r0 : ok a0 = true
  rotate_left
  · exact order_no0 a0 a1 a2 w (by simpa using r0)
  by_cases r1 : ok a1 = true
  rotate_left
  · exact order_no1 a0 a1 a2 w (by simpa using r1)
  by_cases r2 : ok a2 = true
  rotate_left
  · exact order_no2 a0 a1 a2 w (by simpa using r2)
  obtain ⟨x, rfl, xs⟩ := ok_of r0
  obtain ⟨y, rfl, ys⟩ := ok_of r1
  obtain ⟨z, rfl, zs⟩ := ok_of r2
  by_cases h : y < x
  · exact order_one x y z w xs ys zs h
  by_cases h2 : z < y
  · exact order_two x y z w xs ys zs h h2
  · exact order_three x y z w xs ys zs h h2

end Go.Proofs.Ytmmhekjnijjbnaa
