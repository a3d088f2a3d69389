/-
  THE LAW WholeLaws: every call gives true; nothing that was there has turned. No conditions.
-/
import Derived.Test.YtmmhekjnijjbnaaLits
namespace Go.Proofs.Ytmmhekjnijjbnaa
open Go.RowKit Nm
set_option linter.unusedVariables false

set_option maxRecDepth 100000 in
set_option maxHeartbeats 2000000 in
theorem laws_no0 (a0 a1 a2 : ByteArray) (w : World) (h : ok a0 = false) :
    Calls Try.prog 5 #[.string a0, .string a1, .string a2] w fun e w' => e = .returned (.bool true) ∧ Below w.heap.size w w' := by
  have HB := (Below.refl w.heap.size w).alloc (Nat.le_refl _) (.cells #[.string a0, .string a1, .string a2] 9)
  have HS : Hid (∀ cap, Calls Try.prog 16 #[.slice (some ⟨w.heap.size, 0, none⟩) 3 cap] (w.alloc (.cells #[.string a0, .string a1, .string a2] 9)) fun e w' => e = .returned (.bool false) ∧ w' = w.alloc (.cells #[.string a0, .string a1, .string a2] 9)) := fun cap => shortw_no w.heap.size 3 cap 0 _ _ (by omega) (three_cells w a0 a1 a2) (by omega) (by simpa using h)
  clear h
  go_enter Try.func5, Try.ntmps5
  go_wp2_with fail
  refine (HS.out _).mono ?_
  rintro e w1 ⟨rfl, rfl⟩
  go_wp2_with fail
  refine (awakew_below _ _ HB).mono ?_
  rintro e w2 ⟨rfl, h2⟩
  go_wp2
  go_ret
  exact ⟨rfl, h2⟩

set_option maxRecDepth 100000 in
set_option maxHeartbeats 2000000 in
theorem laws_no1 (a0 a1 a2 : ByteArray) (w : World) (h : ok a1 = false) :
    Calls Try.prog 5 #[.string a0, .string a1, .string a2] w fun e w' => e = .returned (.bool true) ∧ Below w.heap.size w w' := by
  have HB := (Below.refl w.heap.size w).alloc (Nat.le_refl _) (.cells #[.string a0, .string a1, .string a2] 9)
  have HS : Hid (∀ cap, Calls Try.prog 16 #[.slice (some ⟨w.heap.size, 0, none⟩) 3 cap] (w.alloc (.cells #[.string a0, .string a1, .string a2] 9)) fun e w' => e = .returned (.bool false) ∧ w' = w.alloc (.cells #[.string a0, .string a1, .string a2] 9)) := fun cap => shortw_no w.heap.size 3 cap 1 _ _ (by omega) (three_cells w a0 a1 a2) (by omega) (by simpa using h)
  clear h
  go_enter Try.func5, Try.ntmps5
  go_wp2_with fail
  refine (HS.out _).mono ?_
  rintro e w3 ⟨rfl, rfl⟩
  go_wp2_with fail
  refine (awakew_below _ _ HB).mono ?_
  rintro e w4 ⟨rfl, h4⟩
  go_wp2
  go_ret
  exact ⟨rfl, h4⟩

set_option maxRecDepth 100000 in
set_option maxHeartbeats 2000000 in
theorem laws_no2 (a0 a1 a2 : ByteArray) (w : World) (h : ok a2 = false) :
    Calls Try.prog 5 #[.string a0, .string a1, .string a2] w fun e w' => e = .returned (.bool true) ∧ Below w.heap.size w w' := by
  have HB := (Below.refl w.heap.size w).alloc (Nat.le_refl _) (.cells #[.string a0, .string a1, .string a2] 9)
  have HS : Hid (∀ cap, Calls Try.prog 16 #[.slice (some ⟨w.heap.size, 0, none⟩) 3 cap] (w.alloc (.cells #[.string a0, .string a1, .string a2] 9)) fun e w' => e = .returned (.bool false) ∧ w' = w.alloc (.cells #[.string a0, .string a1, .string a2] 9)) := fun cap => shortw_no w.heap.size 3 cap 2 _ _ (by omega) (three_cells w a0 a1 a2) (by omega) (by simpa using h)
  clear h
  go_enter Try.func5, Try.ntmps5
  go_wp2_with fail
  refine (HS.out _).mono ?_
  rintro e w5 ⟨rfl, rfl⟩
  go_wp2_with fail
  refine (awakew_below _ _ HB).mono ?_
  rintro e w6 ⟨rfl, h6⟩
  go_wp2
  go_ret
  exact ⟨rfl, h6⟩

theorem laws_yes (a0 a1 a2 : ByteArray) (w : World) (k0 : ok a0 = true) (k1 : ok a1 = true) (k2 : ok a2 = true) (cap : Nat) : Calls Try.prog 16 #[.slice (some ⟨w.heap.size, 0, none⟩) 3 cap] (w.alloc (.cells #[.string a0, .string a1, .string a2] 9)) fun e w' => e = .returned (.bool true) ∧ w' = w.alloc (.cells #[.string a0, .string a1, .string a2] 9) := by
  refine shortw_yes w.heap.size 3 cap _ _ (by omega) (three_cells w a0 a1 a2) ?_
  intro i hi
  (repeat' split) <;> assumption

set_option maxRecDepth 100000 in
set_option maxHeartbeats 2000000 in
theorem laws_good (x y z : Int) (w : World) (xs : (W x).size ≤ 100) (ys : (W y).size ≤ 100) (zs : (W z).size ≤ 100)  :
    Calls Try.prog 5 #[.string (W x), .string (W y), .string (W z)] w fun e w' => e = .returned (.bool true) ∧ Below w.heap.size w w' := by
  have HB := (Below.refl w.heap.size w).alloc (Nat.le_refl _) (.cells #[.string (W x), .string (W y), .string (W z)] 9)
  have Kx : Hid (ok (W x) = true) := ok_W xs
  have Ky : Hid (ok (W y) = true) := ok_W ys
  have Kz : Hid (ok (W z) = true) := ok_W zs
  have Bx : Hid (tl (x).natAbs ≤ 100) := tw_of xs
  have By : Hid (tl (y).natAbs ≤ 100) := tw_of ys
  have Bz : Hid (tl (z).natAbs ≤ 100) := tw_of zs
  have B1 : Hid (tl (x + y).natAbs ≤ 200) := Nat.le_trans (tw_add (x) (y)) (Nat.add_le_add Bx.out By.out)
  have B2 : Hid (tl (y + z).natAbs ≤ 200) := Nat.le_trans (tw_add (y) (z)) (Nat.add_le_add By.out Bz.out)
  have B3 : Hid (tl (x * (y + z)).natAbs ≤ 300) := Nat.le_trans (tw_mul (x) (y + z)) (Nat.add_le_add Bx.out B2.out)
  have B4 : Hid (tl (x * y).natAbs ≤ 200) := Nat.le_trans (tw_mul (x) (y)) (Nat.add_le_add Bx.out By.out)
  have B5 : Hid (tl (z * x).natAbs ≤ 200) := Nat.le_trans (tw_mul (z) (x)) (Nat.add_le_add Bz.out Bx.out)
  have HE : Hid (y + z + x = x + y + z) := by unfold Hid; omega
  have HM : Hid (x * y + z * x = x * (y + z)) := by unfold Hid; rw [Int.mul_add, Int.mul_comm z x]
  clear xs ys zs
  go_enter Try.func5, Try.ntmps5
  go_wp2_with fail
  refine (laws_yes (W x) (W y) (W z) w Kx.out Ky.out Kz.out _).mono ?_
  rintro e w7 ⟨rfl, rfl⟩
  go_wp2_with fail
  refine (Addw_W x y _ (Nat.le_trans Bx.out (by omega)) (Nat.le_trans By.out (by omega))).mono ?_
  rintro e w8 ⟨rfl, h8⟩
  replace HB := bl_trans HB h8
  clear h8
  go_wp2_with fail
  refine (Addw_W y z _ (Nat.le_trans By.out (by omega)) (Nat.le_trans Bz.out (by omega))).mono ?_
  rintro e w9 ⟨rfl, h9⟩
  replace HB := bl_trans HB h9
  clear h9
  go_wp2_with fail
  refine (Addw_W (x + y) z _ (Nat.le_trans B1.out (by omega)) (Nat.le_trans Bz.out (by omega))).mono ?_
  rintro e w10 ⟨rfl, h10⟩
  replace HB := bl_trans HB h10
  clear h10
  go_wp2_with fail
  refine (Addw_W (y + z) x _ (Nat.le_trans B2.out (by omega)) (Nat.le_trans Bx.out (by omega))).mono ?_
  rintro e w11 ⟨rfl, h11⟩
  replace HB := bl_trans HB h11
  clear h11
  rw [HE.out]
  go_wp2_with fail
  refine (Mulw_W x (y + z) _ (Nat.le_trans Bx.out (by omega)) (Nat.le_trans B2.out (by omega))).mono ?_
  rintro e w12 ⟨rfl, h12⟩
  replace HB := bl_trans HB h12
  clear h12
  go_wp2_with fail
  refine (Mulw_W x y _ (Nat.le_trans Bx.out (by omega)) (Nat.le_trans By.out (by omega))).mono ?_
  rintro e w13 ⟨rfl, h13⟩
  replace HB := bl_trans HB h13
  clear h13
  go_wp2_with fail
  refine (Mulw_W z x _ (Nat.le_trans Bz.out (by omega)) (Nat.le_trans Bx.out (by omega))).mono ?_
  rintro e w14 ⟨rfl, h14⟩
  replace HB := bl_trans HB h14
  clear h14
  go_wp2_with fail
  refine (Addw_W (x * y) (z * x) _ (Nat.le_trans B4.out (by omega)) (Nat.le_trans B5.out (by omega))).mono ?_
  rintro e w15 ⟨rfl, h15⟩
  replace HB := bl_trans HB h15
  clear h15
  rw [HM.out]
  go_wp2_with fail
  refine (right_W (x * (y + z)) _ (Nat.le_trans B3.out (by omega))).mono ?_
  rintro e w16 ⟨rfl, h16⟩
  replace HB := bl_trans HB h16
  clear h16
  go_wp2_with fail
  refine (awakew_below _ _ HB).mono ?_
  rintro e w17 ⟨rfl, h17⟩
  go_wp2
  go_ret
  exact ⟨rfl, h17⟩

theorem laws_any (a0 a1 a2 : ByteArray) (w : World) :
    Calls Try.prog 5 #[.string a0, .string a1, .string a2] w fun e w' => e = .returned (.bool true) ∧ Below w.heap.size w w' := by
  by_cases r0 : ok a0 = true
  rotate_left
  · exact laws_no0 a0 a1 a2 w (by simpa using r0)
  by_cases r1 : ok a1 = true
  rotate_left
  · exact laws_no1 a0 a1 a2 w (by simpa using r1)
  by_cases r2 : ok a2 = true
  rotate_left
  · exact laws_no2 a0 a1 a2 w (by simpa using r2)
  obtain ⟨x, rfl, xs⟩ := ok_of r0
  obtain ⟨y, rfl, ys⟩ := ok_of r1
  obtain ⟨z, rfl, zs⟩ := ok_of r2
  exact laws_good x y z w xs ys zs 

end Go.Proofs.Ytmmhekjnijjbnaa
