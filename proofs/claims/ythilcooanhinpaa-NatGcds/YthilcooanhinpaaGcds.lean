/-
  THE LAW NatGcds: every call gives true; nothing that was there has turned. No conditions.
-/
import Derived.Test.YthilcooanhinpaaCommon
namespace Go.Proofs.Ythilcooanhinpaa
open Go.RowKit Nm
set_option linter.unusedVariables false

set_option maxRecDepth 100000 in
set_option maxHeartbeats 1000000 in
theorem gcds_long0 (a0 a1 a2 : ByteArray) (w : World)  (h : 40 < a0.size) :
    Calls Try.prog 7 #[.string a0, .string a1, .string a2] w fun e w' => e = .returned (.bool true) ∧ Below w.heap.size w w' := by
  have HB := Below.refl w.heap.size w
  go_enter Try.func7, Try.ntmps7
  go_wp2_with fail
  refine (awake_below _ _ HB).mono ?_
  rintro e w1 ⟨rfl, h1⟩
  go_wp2
  go_ret
  exact ⟨rfl, h1⟩

set_option maxRecDepth 100000 in
set_option maxHeartbeats 1000000 in
theorem gcds_long1 (a0 a1 a2 : ByteArray) (w : World) (l0 : a0.size ≤ 40) (h : 40 < a1.size) :
    Calls Try.prog 7 #[.string a0, .string a1, .string a2] w fun e w' => e = .returned (.bool true) ∧ Below w.heap.size w w' := by
  have HB := Below.refl w.heap.size w
  go_enter Try.func7, Try.ntmps7
  go_wp2_with fail
  refine (awake_below _ _ HB).mono ?_
  rintro e w2 ⟨rfl, h2⟩
  go_wp2
  go_ret
  exact ⟨rfl, h2⟩

set_option maxRecDepth 100000 in
set_option maxHeartbeats 1000000 in
theorem gcds_long2 (a0 a1 a2 : ByteArray) (w : World) (l0 : a0.size ≤ 40) (l1 : a1.size ≤ 40) (h : 40 < a2.size) :
    Calls Try.prog 7 #[.string a0, .string a1, .string a2] w fun e w' => e = .returned (.bool true) ∧ Below w.heap.size w w' := by
  have HB := Below.refl w.heap.size w
  go_enter Try.func7, Try.ntmps7
  go_wp2_with fail
  refine (awake_below _ _ HB).mono ?_
  rintro e w3 ⟨rfl, h3⟩
  go_wp2
  go_ret
  exact ⟨rfl, h3⟩

set_option maxRecDepth 100000 in
set_option maxHeartbeats 1000000 in
theorem gcds_bad0 (a0 a1 a2 : ByteArray) (w : World) (l0 : a0.size ≤ 40) (l1 : a1.size ≤ 40) (l2 : a2.size ≤ 40)  (h : rt a0.data.toList = false) :
    Calls Try.prog 7 #[.string a0, .string a1, .string a2] w fun e w' => e = .returned (.bool true) ∧ Below w.heap.size w w' := by
  have HB := Below.refl w.heap.size w
  have RH : Hid _ := h
  clear h
  go_enter Try.func7, Try.ntmps7
  go_wp2_with fail
  refine (refRight_is a0 false _ (by omega) RH.out).mono ?_
  rintro e w4 ⟨rfl, rfl⟩
  go_wp2_with fail
  refine (awake_below _ _ HB).mono ?_
  rintro e w5 ⟨rfl, h5⟩
  go_wp2
  go_ret
  exact ⟨rfl, h5⟩

set_option maxRecDepth 100000 in
set_option maxHeartbeats 1000000 in
theorem gcds_bad1 (a0 a1 a2 : ByteArray) (w : World) (l0 : a0.size ≤ 40) (l1 : a1.size ≤ 40) (l2 : a2.size ≤ 40) (r0 : rt a0.data.toList = true) (h : rt a1.data.toList = false) :
    Calls Try.prog 7 #[.string a0, .string a1, .string a2] w fun e w' => e = .returned (.bool true) ∧ Below w.heap.size w w' := by
  have HB := Below.refl w.heap.size w
  have R0 : Hid _ := r0
  clear r0
  have RH : Hid _ := h
  clear h
  go_enter Try.func7, Try.ntmps7
  go_wp2_with fail
  refine (refRight_is a0 true _ (by omega) R0.out).mono ?_
  rintro e w6 ⟨rfl, rfl⟩
  go_wp2_with fail
  refine (refRight_is a1 false _ (by omega) RH.out).mono ?_
  rintro e w7 ⟨rfl, rfl⟩
  go_wp2_with fail
  refine (awake_below _ _ HB).mono ?_
  rintro e w8 ⟨rfl, h8⟩
  go_wp2
  go_ret
  exact ⟨rfl, h8⟩

set_option maxRecDepth 100000 in
set_option maxHeartbeats 1000000 in
theorem gcds_bad2 (a0 a1 a2 : ByteArray) (w : World) (l0 : a0.size ≤ 40) (l1 : a1.size ≤ 40) (l2 : a2.size ≤ 40) (r0 : rt a0.data.toList = true) (r1 : rt a1.data.toList = true) (h : rt a2.data.toList = false) :
    Calls Try.prog 7 #[.string a0, .string a1, .string a2] w fun e w' => e = .returned (.bool true) ∧ Below w.heap.size w w' := by
  have HB := Below.refl w.heap.size w
  have R0 : Hid _ := r0
  clear r0
  have R1 : Hid _ := r1
  clear r1
  have RH : Hid _ := h
  clear h
  go_enter Try.func7, Try.ntmps7
  go_wp2_with fail
  refine (refRight_is a0 true _ (by omega) R0.out).mono ?_
  rintro e w9 ⟨rfl, rfl⟩
  go_wp2_with fail
  refine (refRight_is a1 true _ (by omega) R1.out).mono ?_
  rintro e w10 ⟨rfl, rfl⟩
  go_wp2_with fail
  refine (refRight_is a2 false _ (by omega) RH.out).mono ?_
  rintro e w11 ⟨rfl, rfl⟩
  go_wp2_with fail
  refine (awake_below _ _ HB).mono ?_
  rintro e w12 ⟨rfl, h12⟩
  go_wp2
  go_ret
  exact ⟨rfl, h12⟩

set_option maxRecDepth 100000 in
set_option maxHeartbeats 1500000 in
theorem gcds_none (z : Nat) (w : World) (t0 : tl 0 ≤ 40) (t1 : tl 0 ≤ 40) (t2 : tl z ≤ 40)  :
    Calls Try.prog 7 #[.string (S 0), .string (S 0), .string (S z)] w fun e w' => e = .returned (.bool true) ∧ Below w.heap.size w w' := by
  have e0 : ((S 0).toList == [48]) = true := by rw [S_zero, toList_data]; rfl
  have HB := Below.refl w.heap.size w
  have H0 : Hid _ := S_size 0
  have z0 : (S 0).size ≤ 40 := by rw [H0.out]; exact t0
  have H1 : Hid _ := S_size 0
  have z1 : (S 0).size ≤ 40 := by rw [H1.out]; exact t1
  have H2 : Hid _ := S_size z
  have z2 : (S z).size ≤ 40 := by rw [H2.out]; exact t2
  go_enter Try.func7, Try.ntmps7
  go_wp2_with fail
  refine (refRight_is (S 0) true _ (by omega) (rt_S 0)).mono ?_
  rintro e w13 ⟨rfl, rfl⟩
  go_wp2_with fail
  refine (refRight_is (S 0) true _ (by omega) (rt_S 0)).mono ?_
  rintro e w14 ⟨rfl, rfl⟩
  go_wp2_with fail
  refine (refRight_is (S z) true _ (by omega) (rt_S z)).mono ?_
  rintro e w15 ⟨rfl, rfl⟩
  go_wp2_with fail
  refine (Gcd_any 0 0 _ (by omega) (by omega)).mono ?_
  rintro e w16 ⟨rfl, h16⟩
  replace HB := HB.trans (h16.mono HB.size)
  rw [Nat.gcd_zero_left]
  go_wp2_with fail
  refine (Gcd_any 0 0 _ (by omega) (by omega)).mono ?_
  rintro e w17 ⟨rfl, h17⟩
  replace HB := HB.trans (h17.mono HB.size)
  rw [Nat.gcd_zero_left]
  go_wp2_with fail
  refine (Mul_any 0 z _ (by omega) (by omega)).mono ?_
  rintro e w18 ⟨rfl, h18⟩
  replace HB := HB.trans (h18.mono HB.size)
  rw [Nat.zero_mul]
  go_wp2_with fail
  refine (Mul_any 0 z _ (by omega) (by omega)).mono ?_
  rintro e w19 ⟨rfl, h19⟩
  replace HB := HB.trans (h19.mono HB.size)
  rw [Nat.zero_mul]
  go_wp2_with fail
  refine (Gcd_any 0 0 _ (by omega) (by omega)).mono ?_
  rintro e w20 ⟨rfl, h20⟩
  replace HB := HB.trans (h20.mono HB.size)
  rw [Nat.gcd_zero_left]
  go_wp2_with fail
  refine (Mul_any 0 z _ (by omega) (by omega)).mono ?_
  rintro e w21 ⟨rfl, h21⟩
  replace HB := HB.trans (h21.mono HB.size)
  rw [Nat.zero_mul]
  go_wp2_with fail
  refine (awake_below _ _ HB).mono ?_
  rintro e w22 ⟨rfl, h22⟩
  go_wp2
  go_ret
  exact ⟨rfl, h22⟩

set_option maxRecDepth 100000 in
set_option maxHeartbeats 1500000 in
theorem gcds_some (x y z : Nat) (w : World) (t0 : tl x ≤ 40) (t1 : tl y ≤ 40) (t2 : tl z ≤ 40) (hp : 0 < Nat.gcd x y) :
    Calls Try.prog 7 #[.string (S x), .string (S y), .string (S z)] w fun e w' => e = .returned (.bool true) ∧ Below w.heap.size w w' := by
  have hc : Nat.gcd y x = Nat.gcd x y := Nat.gcd_comm y x
  have hm : Nat.gcd (x * z) (y * z) = Nat.gcd x y * z := Nat.gcd_mul_right x z y
  have h1 : x % Nat.gcd x y = 0 := Nat.mod_eq_zero_of_dvd (Nat.gcd_dvd_left _ _)
  have h2 : y % Nat.gcd x y = 0 := Nat.mod_eq_zero_of_dvd (Nat.gcd_dvd_right _ _)
  have hle : Nat.gcd x y ≤ x + y := by
    rcases Nat.eq_zero_or_pos x with c | c
    · subst c; rw [Nat.gcd_zero_left]; omega
    · have := Nat.gcd_le_left y c; omega
  have HC : Hid _ := hc
  have HM : Hid _ := hm
  have K1 : Hid _ := h1
  have K2 : Hid _ := h2
  clear hc hm h1 h2
  have q1 := tl_mul x z
  have q2 := tl_mul y z
  have q3 := Nat.le_trans (tl_mono hle) (tl_add x y)
  have e1 := eq0 _ hp
  have e0 : ((S 0).toList == [48]) = true := by rw [S_zero, toList_data]; rfl
  have HB := Below.refl w.heap.size w
  have H0 : Hid _ := S_size x
  have z0 : (S x).size ≤ 40 := by rw [H0.out]; exact t0
  have H1 : Hid _ := S_size y
  have z1 : (S y).size ≤ 40 := by rw [H1.out]; exact t1
  have H2 : Hid _ := S_size z
  have z2 : (S z).size ≤ 40 := by rw [H2.out]; exact t2
  go_enter Try.func7, Try.ntmps7
  go_wp2_with fail
  refine (refRight_is (S x) true _ (by omega) (rt_S x)).mono ?_
  rintro e w23 ⟨rfl, rfl⟩
  go_wp2_with fail
  refine (refRight_is (S y) true _ (by omega) (rt_S y)).mono ?_
  rintro e w24 ⟨rfl, rfl⟩
  go_wp2_with fail
  refine (refRight_is (S z) true _ (by omega) (rt_S z)).mono ?_
  rintro e w25 ⟨rfl, rfl⟩
  go_wp2_with fail
  refine (Gcd_any x y _ (by omega) (by omega)).mono ?_
  rintro e w26 ⟨rfl, h26⟩
  replace HB := HB.trans (h26.mono HB.size)
  go_wp2_with fail
  refine (Gcd_any y x _ (by omega) (by omega)).mono ?_
  rintro e w27 ⟨rfl, h27⟩
  replace HB := HB.trans (h27.mono HB.size)
  rw [HC.out]
  go_wp2_with fail
  refine (Mul_any x z _ (by omega) (by omega)).mono ?_
  rintro e w28 ⟨rfl, h28⟩
  replace HB := HB.trans (h28.mono HB.size)
  go_wp2_with fail
  refine (Mul_any y z _ (by omega) (by omega)).mono ?_
  rintro e w29 ⟨rfl, h29⟩
  replace HB := HB.trans (h29.mono HB.size)
  go_wp2_with fail
  refine (Gcd_any (x * z) (y * z) _ (by omega) (by omega)).mono ?_
  rintro e w30 ⟨rfl, h30⟩
  replace HB := HB.trans (h30.mono HB.size)
  rw [HM.out]
  go_wp2_with fail
  refine (Mul_any (Nat.gcd x y) z _ (by omega) (by omega)).mono ?_
  rintro e w31 ⟨rfl, h31⟩
  replace HB := HB.trans (h31.mono HB.size)
  go_wp2_with fail
  refine (Div_any x (Nat.gcd x y) _ (by omega) (by omega) hp).mono ?_
  rintro e w32 ⟨rfl, h32⟩
  replace HB := HB.trans (h32.mono HB.size)
  rw [K1.out]
  go_wp2_with fail
  refine (Div_any y (Nat.gcd x y) _ (by omega) (by omega) hp).mono ?_
  rintro e w33 ⟨rfl, h33⟩
  replace HB := HB.trans (h33.mono HB.size)
  rw [K2.out]
  go_wp2_with fail
  refine (awake_below _ _ HB).mono ?_
  rintro e w34 ⟨rfl, h34⟩
  go_wp2
  go_ret
  exact ⟨rfl, h34⟩

theorem gcds_any (a0 a1 a2 : ByteArray) (w : World) :
    Calls Try.prog 7 #[.string a0, .string a1, .string a2] w fun e w' => e = .returned (.bool true) ∧ Below w.heap.size w w' := by
  by_cases l0 : 40 < a0.size
  · exact gcds_long0 a0 a1 a2 w  l0
  by_cases l1 : 40 < a1.size
  · exact gcds_long1 a0 a1 a2 w (by omega) l1
  by_cases l2 : 40 < a2.size
  · exact gcds_long2 a0 a1 a2 w (by omega) (by omega) l2
  by_cases r0 : rt a0.data.toList = true
  rotate_left
  · exact gcds_bad0 a0 a1 a2 w (by omega) (by omega) (by omega)   (by simpa using r0)
  by_cases r1 : rt a1.data.toList = true
  rotate_left
  · exact gcds_bad1 a0 a1 a2 w (by omega) (by omega) (by omega)  r0 (by simpa using r1)
  by_cases r2 : rt a2.data.toList = true
  rotate_left
  · exact gcds_bad2 a0 a1 a2 w (by omega) (by omega) (by omega)  r0 r1 (by simpa using r2)
  have e0 := S_of r0
  have b0 : tl (dv a0.data.toList) = a0.size := by rw [← S_size, ← e0]
  have e1 := S_of r1
  have b1 : tl (dv a1.data.toList) = a1.size := by rw [← S_size, ← e1]
  have e2 := S_of r2
  have b2 : tl (dv a2.data.toList) = a2.size := by rw [← S_size, ← e2]
  rw [e0, e1, e2]
  generalize dv a0.data.toList = x0 at *
  generalize dv a1.data.toList = x1 at *
  generalize dv a2.data.toList = x2 at *
  rcases Nat.eq_zero_or_pos (Nat.gcd x0 x1) with c | c
  · obtain ⟨rfl, rfl⟩ := Nat.gcd_eq_zero_iff.1 c
    exact gcds_none x2 w (by omega) (by omega) (by omega)
  · exact gcds_some x0 x1 x2 w (by omega) (by omega) (by omega) c
end Go.Proofs.Ythilcooanhinpaa
