/-
  THE LAW NatParts: every call gives true; nothing that was there has turned. No conditions.
-/
import Derived.Test.YthilcooanhinpaaDiv
namespace Go.Proofs.Ythilcooanhinpaa
open Go.RowKit Nm
set_option linter.unusedVariables false

set_option maxRecDepth 100000 in
set_option maxHeartbeats 1000000 in
theorem parts_long0 (a0 a1 a2 : ByteArray) (w : World)  (h : 60 < a0.size) :
    Calls Try.prog 11 #[.string a0, .string a1, .string a2] w fun e w' => e = .returned (.bool true) ∧ Below w.heap.size w w' := by
  have HB := Below.refl w.heap.size w
  go_enter Try.func11, Try.ntmps11
  go_wp2_with fail
  refine (awake_below _ _ HB).mono ?_
  rintro e w1 ⟨rfl, h1⟩
  go_wp2
  go_ret
  exact ⟨rfl, h1⟩

set_option maxRecDepth 100000 in
set_option maxHeartbeats 1000000 in
theorem parts_long1 (a0 a1 a2 : ByteArray) (w : World) (l0 : a0.size ≤ 60) (h : 60 < a1.size) :
    Calls Try.prog 11 #[.string a0, .string a1, .string a2] w fun e w' => e = .returned (.bool true) ∧ Below w.heap.size w w' := by
  have HB := Below.refl w.heap.size w
  go_enter Try.func11, Try.ntmps11
  go_wp2_with fail
  refine (awake_below _ _ HB).mono ?_
  rintro e w2 ⟨rfl, h2⟩
  go_wp2
  go_ret
  exact ⟨rfl, h2⟩

set_option maxRecDepth 100000 in
set_option maxHeartbeats 1000000 in
theorem parts_long2 (a0 a1 a2 : ByteArray) (w : World) (l0 : a0.size ≤ 60) (l1 : a1.size ≤ 60) (h : 60 < a2.size) :
    Calls Try.prog 11 #[.string a0, .string a1, .string a2] w fun e w' => e = .returned (.bool true) ∧ Below w.heap.size w w' := by
  have HB := Below.refl w.heap.size w
  go_enter Try.func11, Try.ntmps11
  go_wp2_with fail
  refine (awake_below _ _ HB).mono ?_
  rintro e w3 ⟨rfl, h3⟩
  go_wp2
  go_ret
  exact ⟨rfl, h3⟩

set_option maxRecDepth 100000 in
set_option maxHeartbeats 1000000 in
theorem parts_bad0 (a0 a1 a2 : ByteArray) (w : World) (l0 : a0.size ≤ 60) (l1 : a1.size ≤ 60) (l2 : a2.size ≤ 60)  (h : rt a0.data.toList = false) :
    Calls Try.prog 11 #[.string a0, .string a1, .string a2] w fun e w' => e = .returned (.bool true) ∧ Below w.heap.size w w' := by
  have HB := Below.refl w.heap.size w
  have RH : Hid _ := h
  clear h
  go_enter Try.func11, Try.ntmps11
  go_wp2_with fail
  refine (refRight_is a0 false _ (by omega) RH.out).mono ?_
  rintro e w4 ⟨rfl, rfl⟩
  go_wp2_with fail
  refine (awake_below _ _ HB).mono ?_
  rintro e w5 ⟨rfl, h5⟩
  go_wp2
  go_ret
  exact ⟨rfl, h5⟩

set_option maxRecDepth 100000 in
set_option maxHeartbeats 1000000 in
theorem parts_bad1 (a0 a1 a2 : ByteArray) (w : World) (l0 : a0.size ≤ 60) (l1 : a1.size ≤ 60) (l2 : a2.size ≤ 60) (r0 : rt a0.data.toList = true) (h : rt a1.data.toList = false) :
    Calls Try.prog 11 #[.string a0, .string a1, .string a2] w fun e w' => e = .returned (.bool true) ∧ Below w.heap.size w w' := by
  have HB := Below.refl w.heap.size w
  have R0 : Hid _ := r0
  clear r0
  have RH : Hid _ := h
  clear h
  go_enter Try.func11, Try.ntmps11
  go_wp2_with fail
  refine (refRight_is a0 true _ (by omega) R0.out).mono ?_
  rintro e w6 ⟨rfl, rfl⟩
  go_wp2_with fail
  refine (refRight_is a1 false _ (by omega) RH.out).mono ?_
  rintro e w7 ⟨rfl, rfl⟩
  go_wp2_with fail
  refine (awake_below _ _ HB).mono ?_
  rintro e w8 ⟨rfl, h8⟩
  go_wp2
  go_ret
  exact ⟨rfl, h8⟩

set_option maxRecDepth 100000 in
set_option maxHeartbeats 1000000 in
theorem parts_bad2 (a0 a1 a2 : ByteArray) (w : World) (l0 : a0.size ≤ 60) (l1 : a1.size ≤ 60) (l2 : a2.size ≤ 60) (r0 : rt a0.data.toList = true) (r1 : rt a1.data.toList = true) (h : rt a2.data.toList = false) :
    Calls Try.prog 11 #[.string a0, .string a1, .string a2] w fun e w' => e = .returned (.bool true) ∧ Below w.heap.size w w' := by
  have HB := Below.refl w.heap.size w
  have R0 : Hid _ := r0
  clear r0
  have R1 : Hid _ := r1
  clear r1
  have RH : Hid _ := h
  clear h
  go_enter Try.func11, Try.ntmps11
  go_wp2_with fail
  refine (refRight_is a0 true _ (by omega) R0.out).mono ?_
  rintro e w9 ⟨rfl, rfl⟩
  go_wp2_with fail
  refine (refRight_is a1 true _ (by omega) R1.out).mono ?_
  rintro e w10 ⟨rfl, rfl⟩
  go_wp2_with fail
  refine (refRight_is a2 false _ (by omega) RH.out).mono ?_
  rintro e w11 ⟨rfl, rfl⟩
  go_wp2_with fail
  refine (awake_below _ _ HB).mono ?_
  rintro e w12 ⟨rfl, h12⟩
  go_wp2
  go_ret
  exact ⟨rfl, h12⟩

set_option maxRecDepth 100000 in
set_option maxHeartbeats 1500000 in
theorem parts_b0 (x z : Nat) (w : World) (t0 : tl x ≤ 60) (t1 : tl 0 ≤ 60) (t2 : tl z ≤ 60)  :
    Calls Try.prog 11 #[.string (S x), .string (S 0), .string (S z)] w fun e w' => e = .returned (.bool true) ∧ Below w.heap.size w w' := by
  have e0 : ((S 0).toList == [48]) = true := by rw [S_zero, toList_data]; rfl
  have HB := Below.refl w.heap.size w
  have H0 : Hid _ := S_size x
  have z0 : (S x).size ≤ 60 := by rw [H0.out]; exact t0
  have H1 : Hid _ := S_size 0
  have z1 : (S 0).size ≤ 60 := by rw [H1.out]; exact t1
  have H2 : Hid _ := S_size z
  have z2 : (S z).size ≤ 60 := by rw [H2.out]; exact t2
  go_enter Try.func11, Try.ntmps11
  go_wp2_with fail
  refine (refRight_is (S x) true _ (by omega) (rt_S x)).mono ?_
  rintro e w13 ⟨rfl, rfl⟩
  go_wp2_with fail
  refine (refRight_is (S 0) true _ (by omega) (rt_S 0)).mono ?_
  rintro e w14 ⟨rfl, rfl⟩
  go_wp2_with fail
  refine (refRight_is (S z) true _ (by omega) (rt_S z)).mono ?_
  rintro e w15 ⟨rfl, rfl⟩
  go_wp2_with fail
  refine (awake_below _ _ HB).mono ?_
  rintro e w16 ⟨rfl, h16⟩
  go_wp2
  go_ret
  exact ⟨rfl, h16⟩

set_option maxRecDepth 100000 in
set_option maxHeartbeats 1500000 in
theorem parts_c0 (x y : Nat) (w : World) (t0 : tl x ≤ 60) (t1 : tl y ≤ 60) (t2 : tl 0 ≤ 60) (hy : 0 < y) :
    Calls Try.prog 11 #[.string (S x), .string (S y), .string (S 0)] w fun e w' => e = .returned (.bool true) ∧ Below w.heap.size w w' := by
  have e0 : ((S 0).toList == [48]) = true := by rw [S_zero, toList_data]; rfl
  have e1 := eq0 y hy
  have HB := Below.refl w.heap.size w
  have H0 : Hid _ := S_size x
  have z0 : (S x).size ≤ 60 := by rw [H0.out]; exact t0
  have H1 : Hid _ := S_size y
  have z1 : (S y).size ≤ 60 := by rw [H1.out]; exact t1
  have H2 : Hid _ := S_size 0
  have z2 : (S 0).size ≤ 60 := by rw [H2.out]; exact t2
  go_enter Try.func11, Try.ntmps11
  go_wp2_with fail
  refine (refRight_is (S x) true _ (by omega) (rt_S x)).mono ?_
  rintro e w17 ⟨rfl, rfl⟩
  go_wp2_with fail
  refine (refRight_is (S y) true _ (by omega) (rt_S y)).mono ?_
  rintro e w18 ⟨rfl, rfl⟩
  go_wp2_with fail
  refine (refRight_is (S 0) true _ (by omega) (rt_S 0)).mono ?_
  rintro e w19 ⟨rfl, rfl⟩
  go_wp2_with fail
  refine (awake_below _ _ HB).mono ?_
  rintro e w20 ⟨rfl, h20⟩
  go_wp2
  go_ret
  exact ⟨rfl, h20⟩

set_option maxRecDepth 100000 in
set_option maxHeartbeats 1500000 in
theorem parts_pos (x y z : Nat) (w : World) (t0 : tl x ≤ 60) (t1 : tl y ≤ 60) (t2 : tl z ≤ 60) (hy : 0 < y) (hz : 0 < z) :
    Calls Try.prog 11 #[.string (S x), .string (S y), .string (S z)] w fun e w' => e = .returned (.bool true) ∧ Below w.heap.size w w' := by
  have e1 := eq0 y hy
  have e2 := eq0 z hz
  have q1 := tl_mul y z
  have hyz : 0 < y * z := Nat.mul_pos hy hz
  have q2 : tl (x / y) ≤ tl x := tl_mono (Nat.div_le_self _ _)
  have HB := Below.refl w.heap.size w
  have H0 : Hid _ := S_size x
  have z0 : (S x).size ≤ 60 := by rw [H0.out]; exact t0
  have H1 : Hid _ := S_size y
  have z1 : (S y).size ≤ 60 := by rw [H1.out]; exact t1
  have H2 : Hid _ := S_size z
  have z2 : (S z).size ≤ 60 := by rw [H2.out]; exact t2
  go_enter Try.func11, Try.ntmps11
  go_wp2_with fail
  refine (refRight_is (S x) true _ (by omega) (rt_S x)).mono ?_
  rintro e w21 ⟨rfl, rfl⟩
  go_wp2_with fail
  refine (refRight_is (S y) true _ (by omega) (rt_S y)).mono ?_
  rintro e w22 ⟨rfl, rfl⟩
  go_wp2_with fail
  refine (refRight_is (S z) true _ (by omega) (rt_S z)).mono ?_
  rintro e w23 ⟨rfl, rfl⟩
  go_wp2_with fail
  refine (Mul_any y z _ (by omega) (by omega)).mono ?_
  rintro e w24 ⟨rfl, h24⟩
  replace HB := HB.trans (h24.mono HB.size)
  go_wp2_with fail
  refine (Div_any x (y * z) _ (by omega) (by omega) hyz).mono ?_
  rintro e w25 ⟨rfl, h25⟩
  replace HB := HB.trans (h25.mono HB.size)
  rw [← Nat.div_div_eq_div_mul]
  go_wp2_with fail
  refine (Div_any x y _ (by omega) (by omega) hy).mono ?_
  rintro e w26 ⟨rfl, h26⟩
  replace HB := HB.trans (h26.mono HB.size)
  go_wp2_with fail
  refine (Div_any (x / y) z _ (by omega) (by omega) hz).mono ?_
  rintro e w27 ⟨rfl, h27⟩
  replace HB := HB.trans (h27.mono HB.size)
  go_wp2_with fail
  refine (awake_below _ _ HB).mono ?_
  rintro e w28 ⟨rfl, h28⟩
  go_wp2
  go_ret
  exact ⟨rfl, h28⟩

theorem parts_any (a0 a1 a2 : ByteArray) (w : World) :
    Calls Try.prog 11 #[.string a0, .string a1, .string a2] w fun e w' => e = .returned (.bool true) ∧ Below w.heap.size w w' := by
  by_cases l0 : 60 < a0.size
  · exact parts_long0 a0 a1 a2 w  l0
  by_cases l1 : 60 < a1.size
  · exact parts_long1 a0 a1 a2 w (by omega) l1
  by_cases l2 : 60 < a2.size
  · exact parts_long2 a0 a1 a2 w (by omega) (by omega) l2
  by_cases r0 : rt a0.data.toList = true
  rotate_left
  · exact parts_bad0 a0 a1 a2 w (by omega) (by omega) (by omega)   (by simpa using r0)
  by_cases r1 : rt a1.data.toList = true
  rotate_left
  · exact parts_bad1 a0 a1 a2 w (by omega) (by omega) (by omega)  r0 (by simpa using r1)
  by_cases r2 : rt a2.data.toList = true
  rotate_left
  · exact parts_bad2 a0 a1 a2 w (by omega) (by omega) (by omega)  r0 r1 (by simpa using r2)
  have e0 := S_of r0
  have b0 : tl (dv a0.data.toList) = a0.size := by rw [← S_size, ← e0]
  have e1 := S_of r1
  have b1 : tl (dv a1.data.toList) = a1.size := by rw [← S_size, ← e1]
  have e2 := S_of r2
  have b2 : tl (dv a2.data.toList) = a2.size := by rw [← S_size, ← e2]
  rw [e0, e1, e2]
  generalize dv a0.data.toList = x0 at *
  generalize dv a1.data.toList = x1 at *
  generalize dv a2.data.toList = x2 at *
  rcases Nat.eq_zero_or_pos x1 with c | c
  · subst c; exact parts_b0 x0 x2 w (by omega) (by omega) (by omega)
  · rcases Nat.eq_zero_or_pos x2 with d | d
    · subst d; exact parts_c0 x0 x1 w (by omega) (by omega) (by omega) c
    · exact parts_pos x0 x1 x2 w (by omega) (by omega) (by omega) c d
end Go.Proofs.Ythilcooanhinpaa
