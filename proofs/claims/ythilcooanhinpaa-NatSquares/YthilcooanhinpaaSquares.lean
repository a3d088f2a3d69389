/-
  THE LAW NatSquares: every call gives true; nothing that was there has turned. No conditions.
-/
import Derived.Test.YthilcooanhinpaaAwake
namespace Go.Proofs.Ythilcooanhinpaa
open Go.RowKit Nm
set_option linter.unusedVariables false

set_option maxHeartbeats 1000000 in
theorem squares_long0 (a0 a1 : ByteArray) (w : World)  (h : 60 < a0.size) :
    Calls Try.prog 10 #[.string a0, .string a1] w fun e w' => e = .returned (.bool true) ∧ Below w.heap.size w w' := by
  have HB := Below.refl w.heap.size w
  go_enter Try.func10, Try.ntmps10
  go_wp2_with fail
  refine (awake_below _ _ HB).mono ?_
  rintro e w1 ⟨rfl, h1⟩
  go_wp2
  go_ret
  exact ⟨rfl, h1⟩

set_option maxHeartbeats 1000000 in
theorem squares_long1 (a0 a1 : ByteArray) (w : World) (l0 : a0.size ≤ 60) (h : 60 < a1.size) :
    Calls Try.prog 10 #[.string a0, .string a1] w fun e w' => e = .returned (.bool true) ∧ Below w.heap.size w w' := by
  have HB := Below.refl w.heap.size w
  go_enter Try.func10, Try.ntmps10
  go_wp2_with fail
  refine (awake_below _ _ HB).mono ?_
  rintro e w2 ⟨rfl, h2⟩
  go_wp2
  go_ret
  exact ⟨rfl, h2⟩

set_option maxHeartbeats 1000000 in
theorem squares_bad0 (a0 a1 : ByteArray) (w : World) (l0 : a0.size ≤ 60) (l1 : a1.size ≤ 60)  (h : rt a0.data.toList = false) :
    Calls Try.prog 10 #[.string a0, .string a1] w fun e w' => e = .returned (.bool true) ∧ Below w.heap.size w w' := by
  have HB := Below.refl w.heap.size w
  have RH : Hid _ := h
  clear h
  go_enter Try.func10, Try.ntmps10
  go_wp2_with fail
  refine (refRight_is a0 false _ (by omega) RH.out).mono ?_
  rintro e w3 ⟨rfl, rfl⟩
  go_wp2_with fail
  refine (awake_below _ _ HB).mono ?_
  rintro e w4 ⟨rfl, h4⟩
  go_wp2
  go_ret
  exact ⟨rfl, h4⟩

set_option maxHeartbeats 1000000 in
theorem squares_bad1 (a0 a1 : ByteArray) (w : World) (l0 : a0.size ≤ 60) (l1 : a1.size ≤ 60) (r0 : rt a0.data.toList = true) (h : rt a1.data.toList = false) :
    Calls Try.prog 10 #[.string a0, .string a1] w fun e w' => e = .returned (.bool true) ∧ Below w.heap.size w w' := by
  have HB := Below.refl w.heap.size w
  have R0 : Hid _ := r0
  clear r0
  have RH : Hid _ := h
  clear h
  go_enter Try.func10, Try.ntmps10
  go_wp2_with fail
  refine (refRight_is a0 true _ (by omega) R0.out).mono ?_
  rintro e w5 ⟨rfl, rfl⟩
  go_wp2_with fail
  refine (refRight_is a1 false _ (by omega) RH.out).mono ?_
  rintro e w6 ⟨rfl, rfl⟩
  go_wp2_with fail
  refine (awake_below _ _ HB).mono ?_
  rintro e w7 ⟨rfl, h7⟩
  go_wp2
  go_ret
  exact ⟨rfl, h7⟩

theorem sq_sum (x y : Nat) : (x + y) * (x + y) = x * x + y * y + (x * y + x * y) := by
  rw [Nat.add_mul, Nat.mul_add, Nat.mul_add, Nat.mul_comm y x]; omega
theorem sq_diff (x y : Nat) : (x + y) * (x - y) = x * x - y * y := (Nat.mul_self_sub_mul_self_eq x y).symm

set_option maxHeartbeats 2000000 in
theorem squares_less (x y : Nat) (w : World) (t0 : tl x ≤ 60) (t1 : tl y ≤ 60) (hlt : x < y) :
    Calls Try.prog 10 #[.string (S x), .string (S y)] w fun e w' => e = .returned (.bool true) ∧ Below w.heap.size w w' := by
  have q1 := tl_add x y
  have q2 := tl_mul (x + y) (x + y)
  have q3 := tl_mul x x
  have q4 := tl_mul y y
  have q5 := tl_mul x y
  have q6 := tl_add (x * y) (x * y)
  have q7 := tl_add (x * x) (y * y)
  have HB := Below.refl w.heap.size w
  have H0 : Hid _ := S_size x
  have z0 : (S x).size ≤ 60 := by rw [H0.out]; exact t0
  have H1 : Hid _ := S_size y
  have z1 : (S y).size ≤ 60 := by rw [H1.out]; exact t1
  go_enter Try.func10, Try.ntmps10
  go_wp2_with fail
  refine (refRight_is (S x) true _ (by omega) (rt_S x)).mono ?_
  rintro e w8 ⟨rfl, rfl⟩
  go_wp2_with fail
  refine (refRight_is (S y) true _ (by omega) (rt_S y)).mono ?_
  rintro e w9 ⟨rfl, rfl⟩
  go_wp2_with fail
  refine (Add_any x y _ (by omega) (by omega)).mono ?_
  rintro e w10 ⟨rfl, h10⟩
  replace HB := HB.trans (h10.mono HB.size)
  go_wp2_with fail
  refine (Mul_any (x + y) (x + y) _ (by omega) (by omega)).mono ?_
  rintro e w11 ⟨rfl, h11⟩
  replace HB := HB.trans (h11.mono HB.size)
  rw [sq_sum x y]
  go_wp2_with fail
  refine (Mul_any x x _ (by omega) (by omega)).mono ?_
  rintro e w12 ⟨rfl, h12⟩
  replace HB := HB.trans (h12.mono HB.size)
  go_wp2_with fail
  refine (Mul_any y y _ (by omega) (by omega)).mono ?_
  rintro e w13 ⟨rfl, h13⟩
  replace HB := HB.trans (h13.mono HB.size)
  go_wp2_with fail
  refine (Mul_any x y _ (by omega) (by omega)).mono ?_
  rintro e w14 ⟨rfl, h14⟩
  replace HB := HB.trans (h14.mono HB.size)
  go_wp2_with fail
  refine (Add_any (x * y) (x * y) _ (by omega) (by omega)).mono ?_
  rintro e w15 ⟨rfl, h15⟩
  replace HB := HB.trans (h15.mono HB.size)
  go_wp2_with fail
  refine (Add_any (x * x) (y * y) _ (by omega) (by omega)).mono ?_
  rintro e w16 ⟨rfl, h16⟩
  replace HB := HB.trans (h16.mono HB.size)
  go_wp2_with fail
  refine (Add_any (x * x + y * y) (x * y + x * y) _ (by omega) (by omega)).mono ?_
  rintro e w17 ⟨rfl, h17⟩
  replace HB := HB.trans (h17.mono HB.size)
  go_wp2_with fail
  refine (Sub_no x y _ (by omega) (by omega) hlt).mono ?_
  rintro e w18 ⟨rfl, h18⟩
  replace HB := HB.trans (h18.mono HB.size)
  go_wp2_with fail
  refine (awake_below _ _ HB).mono ?_
  rintro e w19 ⟨rfl, h19⟩
  go_wp2
  go_ret
  exact ⟨rfl, h19⟩

set_option maxHeartbeats 2000000 in
theorem squares_more (x y : Nat) (w : World) (t0 : tl x ≤ 60) (t1 : tl y ≤ 60) (hle : y ≤ x) :
    Calls Try.prog 10 #[.string (S x), .string (S y)] w fun e w' => e = .returned (.bool true) ∧ Below w.heap.size w w' := by
  have q8 := tl_sub x y
  have hsq : y * y ≤ x * x := Nat.mul_le_mul hle hle
  have q1 := tl_add x y
  have q2 := tl_mul (x + y) (x + y)
  have q3 := tl_mul x x
  have q4 := tl_mul y y
  have q5 := tl_mul x y
  have q6 := tl_add (x * y) (x * y)
  have q7 := tl_add (x * x) (y * y)
  have HB := Below.refl w.heap.size w
  have H0 : Hid _ := S_size x
  have z0 : (S x).size ≤ 60 := by rw [H0.out]; exact t0
  have H1 : Hid _ := S_size y
  have z1 : (S y).size ≤ 60 := by rw [H1.out]; exact t1
  go_enter Try.func10, Try.ntmps10
  go_wp2_with fail
  refine (refRight_is (S x) true _ (by omega) (rt_S x)).mono ?_
  rintro e w20 ⟨rfl, rfl⟩
  go_wp2_with fail
  refine (refRight_is (S y) true _ (by omega) (rt_S y)).mono ?_
  rintro e w21 ⟨rfl, rfl⟩
  go_wp2_with fail
  refine (Add_any x y _ (by omega) (by omega)).mono ?_
  rintro e w22 ⟨rfl, h22⟩
  replace HB := HB.trans (h22.mono HB.size)
  go_wp2_with fail
  refine (Mul_any (x + y) (x + y) _ (by omega) (by omega)).mono ?_
  rintro e w23 ⟨rfl, h23⟩
  replace HB := HB.trans (h23.mono HB.size)
  rw [sq_sum x y]
  go_wp2_with fail
  refine (Mul_any x x _ (by omega) (by omega)).mono ?_
  rintro e w24 ⟨rfl, h24⟩
  replace HB := HB.trans (h24.mono HB.size)
  go_wp2_with fail
  refine (Mul_any y y _ (by omega) (by omega)).mono ?_
  rintro e w25 ⟨rfl, h25⟩
  replace HB := HB.trans (h25.mono HB.size)
  go_wp2_with fail
  refine (Mul_any x y _ (by omega) (by omega)).mono ?_
  rintro e w26 ⟨rfl, h26⟩
  replace HB := HB.trans (h26.mono HB.size)
  go_wp2_with fail
  refine (Add_any (x * y) (x * y) _ (by omega) (by omega)).mono ?_
  rintro e w27 ⟨rfl, h27⟩
  replace HB := HB.trans (h27.mono HB.size)
  go_wp2_with fail
  refine (Add_any (x * x) (y * y) _ (by omega) (by omega)).mono ?_
  rintro e w28 ⟨rfl, h28⟩
  replace HB := HB.trans (h28.mono HB.size)
  go_wp2_with fail
  refine (Add_any (x * x + y * y) (x * y + x * y) _ (by omega) (by omega)).mono ?_
  rintro e w29 ⟨rfl, h29⟩
  replace HB := HB.trans (h29.mono HB.size)
  go_wp2_with fail
  refine (Sub_yes x y _ (by omega) (by omega) hle).mono ?_
  rintro e w30 ⟨rfl, h30⟩
  replace HB := HB.trans (h30.mono HB.size)
  go_wp2_with fail
  refine (Mul_any (x + y) (x - y) _ (by omega) (by omega)).mono ?_
  rintro e w31 ⟨rfl, h31⟩
  replace HB := HB.trans (h31.mono HB.size)
  rw [sq_diff x y]
  go_wp2_with fail
  refine (Sub_yes (x * x) (y * y) _ (by omega) (by omega) hsq).mono ?_
  rintro e w32 ⟨rfl, h32⟩
  replace HB := HB.trans (h32.mono HB.size)
  go_wp2_with fail
  refine (awake_below _ _ HB).mono ?_
  rintro e w33 ⟨rfl, h33⟩
  go_wp2
  go_ret
  exact ⟨rfl, h33⟩

theorem squares_any (a0 a1 : ByteArray) (w : World) :
    Calls Try.prog 10 #[.string a0, .string a1] w fun e w' => e = .returned (.bool true) ∧ Below w.heap.size w w' := by
  by_cases l0 : 60 < a0.size
  · exact squares_long0 a0 a1 w  l0
  by_cases l1 : 60 < a1.size
  · exact squares_long1 a0 a1 w (by omega) l1
  by_cases r0 : rt a0.data.toList = true
  rotate_left
  · exact squares_bad0 a0 a1 w (by omega) (by omega)   (by simpa using r0)
  by_cases r1 : rt a1.data.toList = true
  rotate_left
  · exact squares_bad1 a0 a1 w (by omega) (by omega)  r0 (by simpa using r1)
  have e0 := S_of r0
  have b0 : tl (dv a0.data.toList) = a0.size := by rw [← S_size, ← e0]
  have e1 := S_of r1
  have b1 : tl (dv a1.data.toList) = a1.size := by rw [← S_size, ← e1]
  rw [e0, e1]
  generalize dv a0.data.toList = x0 at *
  generalize dv a1.data.toList = x1 at *
  rcases Nat.lt_or_ge x0 x1 with c | c
  · exact squares_less x0 x1 w (by omega) (by omega) c
  · exact squares_more x0 x1 w (by omega) (by omega) c
end Go.Proofs.Ythilcooanhinpaa
