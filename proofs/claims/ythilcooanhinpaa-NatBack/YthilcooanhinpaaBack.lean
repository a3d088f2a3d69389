/-
  THE LAW NatBack: every call gives true; nothing that was there has turned. No conditions.
-/
import Derived.Test.YthilcooanhinpaaDiv
namespace Go.Proofs.Ythilcooanhinpaa
open Go.RowKit Nm
set_option linter.unusedVariables false

set_option maxRecDepth 100000 in
set_option maxHeartbeats 1000000 in
theorem back_long0 (a0 a1 : ByteArray) (w : World) (h : 120 < a0.size) :
    Calls Try.prog 6 #[.string a0, .string a1] w fun e w' => e = .returned (.bool true) ∧ Below w.heap.size w w' := by
  have HB := (Below.refl w.heap.size w).alloc (Nat.le_refl _) (.cells #[.string a0, .string a1] 9)
  have HS : Hid (∀ cap, Calls Try.prog 14 #[.slice (some ⟨w.heap.size, 0, none⟩) 2 cap] (w.alloc (.cells #[.string a0, .string a1] 9)) fun e w' => e = .returned (.bool false) ∧ w' = w.alloc (.cells #[.string a0, .string a1] 9)) := fun cap => short_no w.heap.size 2 cap 0 _ _ (by omega) (two_cells w a0 a1) (by omega) (by simpa using h)
  clear h
  go_enter Try.func6, Try.ntmps6
  go_wp2_with fail
  refine (HS.out _).mono ?_
  rintro e w1 ⟨rfl, rfl⟩
  go_wp2_with fail
  refine (awake_below _ _ HB).mono ?_
  rintro e w2 ⟨rfl, h2⟩
  go_wp2
  go_ret
  exact ⟨rfl, h2⟩

set_option maxRecDepth 100000 in
set_option maxHeartbeats 1000000 in
theorem back_long1 (a0 a1 : ByteArray) (w : World) (h : 120 < a1.size) :
    Calls Try.prog 6 #[.string a0, .string a1] w fun e w' => e = .returned (.bool true) ∧ Below w.heap.size w w' := by
  have HB := (Below.refl w.heap.size w).alloc (Nat.le_refl _) (.cells #[.string a0, .string a1] 9)
  have HS : Hid (∀ cap, Calls Try.prog 14 #[.slice (some ⟨w.heap.size, 0, none⟩) 2 cap] (w.alloc (.cells #[.string a0, .string a1] 9)) fun e w' => e = .returned (.bool false) ∧ w' = w.alloc (.cells #[.string a0, .string a1] 9)) := fun cap => short_no w.heap.size 2 cap 1 _ _ (by omega) (two_cells w a0 a1) (by omega) (by simpa using h)
  clear h
  go_enter Try.func6, Try.ntmps6
  go_wp2_with fail
  refine (HS.out _).mono ?_
  rintro e w3 ⟨rfl, rfl⟩
  go_wp2_with fail
  refine (awake_below _ _ HB).mono ?_
  rintro e w4 ⟨rfl, h4⟩
  go_wp2
  go_ret
  exact ⟨rfl, h4⟩

theorem back_short (a0 a1 : ByteArray) (w : World) (l0 : a0.size ≤ 120) (l1 : a1.size ≤ 120) (cap : Nat) : Calls Try.prog 14 #[.slice (some ⟨w.heap.size, 0, none⟩) 2 cap] (w.alloc (.cells #[.string a0, .string a1] 9)) fun e w' => e = .returned (.bool true) ∧ w' = w.alloc (.cells #[.string a0, .string a1] 9) := by
  refine short_yes w.heap.size 2 cap _ _ (by omega) (two_cells w a0 a1) ?_
  intro i hi
  (repeat' split) <;> omega

set_option maxRecDepth 100000 in
set_option maxHeartbeats 1000000 in
theorem back_bad0 (a0 a1 : ByteArray) (w : World) (l0 : a0.size ≤ 120) (l1 : a1.size ≤ 120)  (h : rt a0.data.toList = false) :
    Calls Try.prog 6 #[.string a0, .string a1] w fun e w' => e = .returned (.bool true) ∧ Below w.heap.size w w' := by
  have HB := (Below.refl w.heap.size w).alloc (Nat.le_refl _) (.cells #[.string a0, .string a1] 9)
  have RH : Hid _ := h
  clear h
  go_enter Try.func6, Try.ntmps6
  go_wp2_with fail
  refine (back_short a0 a1 w l0 l1 _).mono ?_
  rintro e w5 ⟨rfl, rfl⟩
  go_wp2_with fail
  refine (refRight_is a0 false _ (by omega) RH.out).mono ?_
  rintro e w6 ⟨rfl, rfl⟩
  go_wp2_with fail
  refine (awake_below _ _ HB).mono ?_
  rintro e w7 ⟨rfl, h7⟩
  go_wp2
  go_ret
  exact ⟨rfl, h7⟩

set_option maxRecDepth 100000 in
set_option maxHeartbeats 1000000 in
theorem back_bad1 (a0 a1 : ByteArray) (w : World) (l0 : a0.size ≤ 120) (l1 : a1.size ≤ 120) (r0 : rt a0.data.toList = true) (h : rt a1.data.toList = false) :
    Calls Try.prog 6 #[.string a0, .string a1] w fun e w' => e = .returned (.bool true) ∧ Below w.heap.size w w' := by
  have HB := (Below.refl w.heap.size w).alloc (Nat.le_refl _) (.cells #[.string a0, .string a1] 9)
  have R0 : Hid _ := r0
  clear r0
  have RH : Hid _ := h
  clear h
  go_enter Try.func6, Try.ntmps6
  go_wp2_with fail
  refine (back_short a0 a1 w l0 l1 _).mono ?_
  rintro e w8 ⟨rfl, rfl⟩
  go_wp2_with fail
  refine (refRight_is a0 true _ (by omega) R0.out).mono ?_
  rintro e w9 ⟨rfl, rfl⟩
  go_wp2_with fail
  refine (refRight_is a1 false _ (by omega) RH.out).mono ?_
  rintro e w10 ⟨rfl, rfl⟩
  go_wp2_with fail
  refine (awake_below _ _ HB).mono ?_
  rintro e w11 ⟨rfl, h11⟩
  go_wp2
  go_ret
  exact ⟨rfl, h11⟩

set_option maxRecDepth 100000 in
set_option maxHeartbeats 4000000 in
theorem back_zero (x : Nat) (w : World) (t0 : tl x ≤ 120) (t1 : tl 0 ≤ 120)  :
    Calls Try.prog 6 #[.string (S x), .string (S 0)] w fun e w' => e = .returned (.bool true) ∧ Below w.heap.size w w' := by
  have e0 : ((S 0).toList == [48]) = true := by rw [S_zero, toList_data]; rfl
  have q1 := tl_add x 0
  have q2 := tl_mul x 0
  have HB := (Below.refl w.heap.size w).alloc (Nat.le_refl _) (.cells #[.string (S x), .string (S 0)] 9)
  have H0 : Hid _ := S_size x
  have z0 : (S x).size ≤ 120 := by rw [H0.out]; exact t0
  have H1 : Hid _ := S_size 0
  have z1 : (S 0).size ≤ 120 := by rw [H1.out]; exact t1
  go_enter Try.func6, Try.ntmps6
  go_wp2_with fail
  refine (back_short (S x) (S 0) w z0 z1 _).mono ?_
  rintro e w12 ⟨rfl, rfl⟩
  go_wp2_with fail
  refine (refRight_is (S x) true _ (by omega) (rt_S x)).mono ?_
  rintro e w13 ⟨rfl, rfl⟩
  go_wp2_with fail
  refine (refRight_is (S 0) true _ (by omega) (rt_S 0)).mono ?_
  rintro e w14 ⟨rfl, rfl⟩
  go_wp2_with fail
  refine (Add_any x 0 _ (by omega) (by omega)).mono ?_
  rintro e w15 ⟨rfl, h15⟩
  replace HB := HB.trans (h15.mono HB.size)
  rw [Nat.add_zero]
  go_wp2_with fail
  refine (Sub_yes x 0 _ (by omega) (by omega) (by omega)).mono ?_
  rintro e w16 ⟨rfl, h16⟩
  replace HB := HB.trans (h16.mono HB.size)
  rw [Nat.sub_zero]
  go_wp2_with fail
  refine (Mul_any x 0 _ (by omega) (by omega)).mono ?_
  rintro e w17 ⟨rfl, h17⟩
  replace HB := HB.trans (h17.mono HB.size)
  rw [Nat.mul_zero]
  go_wp2_with fail
  refine (Div_zero 0 _ (by omega)).mono ?_
  rintro e w18 ⟨rfl, h18⟩
  replace HB := HB.trans (h18.mono HB.size)
  go_wp2_with fail
  refine (awake_below _ _ HB).mono ?_
  rintro e w19 ⟨rfl, h19⟩
  go_wp2
  go_ret
  exact ⟨rfl, h19⟩

set_option maxRecDepth 100000 in
set_option maxHeartbeats 4000000 in
theorem back_pos (x y : Nat) (w : World) (t0 : tl x ≤ 120) (t1 : tl y ≤ 120) (hy : 0 < y) :
    Calls Try.prog 6 #[.string (S x), .string (S y)] w fun e w' => e = .returned (.bool true) ∧ Below w.heap.size w w' := by
  have e0 := eq0 y hy
  have q1 := tl_add x y
  have q2 := tl_mul x y
  have z0 : ((S 0).toList == [48]) = true := by rw [S_zero, toList_data]; rfl
  have HB := (Below.refl w.heap.size w).alloc (Nat.le_refl _) (.cells #[.string (S x), .string (S y)] 9)
  have H0 : Hid _ := S_size x
  have z0 : (S x).size ≤ 120 := by rw [H0.out]; exact t0
  have H1 : Hid _ := S_size y
  have z1 : (S y).size ≤ 120 := by rw [H1.out]; exact t1
  go_enter Try.func6, Try.ntmps6
  go_wp2_with fail
  refine (back_short (S x) (S y) w z0 z1 _).mono ?_
  rintro e w20 ⟨rfl, rfl⟩
  go_wp2_with fail
  refine (refRight_is (S x) true _ (by omega) (rt_S x)).mono ?_
  rintro e w21 ⟨rfl, rfl⟩
  go_wp2_with fail
  refine (refRight_is (S y) true _ (by omega) (rt_S y)).mono ?_
  rintro e w22 ⟨rfl, rfl⟩
  go_wp2_with fail
  refine (Add_any x y _ (by omega) (by omega)).mono ?_
  rintro e w23 ⟨rfl, h23⟩
  replace HB := HB.trans (h23.mono HB.size)
  go_wp2_with fail
  refine (Sub_yes (x + y) y _ (by omega) (by omega) (by omega)).mono ?_
  rintro e w24 ⟨rfl, h24⟩
  replace HB := HB.trans (h24.mono HB.size)
  rw [Nat.add_sub_cancel]
  go_wp2_with fail
  refine (Mul_any x y _ (by omega) (by omega)).mono ?_
  rintro e w25 ⟨rfl, h25⟩
  replace HB := HB.trans (h25.mono HB.size)
  go_wp2_with fail
  refine (Div_any (x * y) y _ (by omega) (by omega) hy).mono ?_
  rintro e w26 ⟨rfl, h26⟩
  replace HB := HB.trans (h26.mono HB.size)
  rw [Nat.mul_div_cancel _ hy, Nat.mul_mod_left]
  go_wp2_with fail
  refine (awake_below _ _ HB).mono ?_
  rintro e w27 ⟨rfl, h27⟩
  go_wp2
  go_ret
  exact ⟨rfl, h27⟩

theorem back_any (a0 a1 : ByteArray) (w : World) :
    Calls Try.prog 6 #[.string a0, .string a1] w fun e w' => e = .returned (.bool true) ∧ Below w.heap.size w w' := by
  by_cases l0 : 120 < a0.size
  · exact back_long0 a0 a1 w  l0
  by_cases l1 : 120 < a1.size
  · exact back_long1 a0 a1 w  l1
  by_cases r0 : rt a0.data.toList = true
  rotate_left
  · exact back_bad0 a0 a1 w (by omega) (by omega)   (by simpa using r0)
  by_cases r1 : rt a1.data.toList = true
  rotate_left
  · exact back_bad1 a0 a1 w (by omega) (by omega)  r0 (by simpa using r1)
  have e0 := S_of r0
  have b0 : tl (dv a0.data.toList) = a0.size := by rw [← S_size, ← e0]
  have e1 := S_of r1
  have b1 : tl (dv a1.data.toList) = a1.size := by rw [← S_size, ← e1]
  rw [e0, e1]
  generalize dv a0.data.toList = x0 at *
  generalize dv a1.data.toList = x1 at *
  rcases Nat.eq_zero_or_pos x1 with c | c
  · subst c; exact back_zero x0 w (by omega) (by omega)
  · exact back_pos x0 x1 w (by omega) (by omega) c
end Go.Proofs.Ythilcooanhinpaa
