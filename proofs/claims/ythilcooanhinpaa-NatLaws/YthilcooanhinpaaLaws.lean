/-
  THE LAW NatLaws: every call gives true; nothing that was there has turned. No conditions.
-/
import Derived.Test.YthilcooanhinpaaDiv
namespace Go.Proofs.Ythilcooanhinpaa
open Go.RowKit Nm
set_option linter.unusedVariables false

set_option maxRecDepth 100000 in
set_option maxHeartbeats 1000000 in
theorem laws_long0 (a0 a1 a2 : ByteArray) (w : World) (h : 120 < a0.size) :
    Calls Try.prog 5 #[.string a0, .string a1, .string a2] w fun e w' => e = .returned (.bool true) ∧ Below w.heap.size w w' := by
  have HB := (Below.refl w.heap.size w).alloc (Nat.le_refl _) (.cells #[.string a0, .string a1, .string a2] 9)
  have HS : Hid (∀ cap, Calls Try.prog 14 #[.slice (some ⟨w.heap.size, 0, none⟩) 3 cap] (w.alloc (.cells #[.string a0, .string a1, .string a2] 9)) fun e w' => e = .returned (.bool false) ∧ w' = w.alloc (.cells #[.string a0, .string a1, .string a2] 9)) := fun cap => short_no w.heap.size 3 cap 0 _ _ (by omega) (three_cells w a0 a1 a2) (by omega) (by simpa using h)
  clear h
  go_enter Try.func5, Try.ntmps5
  go_wp2_with fail
  refine (HS.out _).mono ?_
  rintro e w1 ⟨rfl, rfl⟩
  go_wp2_with fail
  refine (awake_below _ _ HB).mono ?_
  rintro e w2 ⟨rfl, h2⟩
  go_wp2
  go_ret
  exact ⟨rfl, h2⟩

set_option maxRecDepth 100000 in
set_option maxHeartbeats 1000000 in
theorem laws_long1 (a0 a1 a2 : ByteArray) (w : World) (h : 120 < a1.size) :
    Calls Try.prog 5 #[.string a0, .string a1, .string a2] w fun e w' => e = .returned (.bool true) ∧ Below w.heap.size w w' := by
  have HB := (Below.refl w.heap.size w).alloc (Nat.le_refl _) (.cells #[.string a0, .string a1, .string a2] 9)
  have HS : Hid (∀ cap, Calls Try.prog 14 #[.slice (some ⟨w.heap.size, 0, none⟩) 3 cap] (w.alloc (.cells #[.string a0, .string a1, .string a2] 9)) fun e w' => e = .returned (.bool false) ∧ w' = w.alloc (.cells #[.string a0, .string a1, .string a2] 9)) := fun cap => short_no w.heap.size 3 cap 1 _ _ (by omega) (three_cells w a0 a1 a2) (by omega) (by simpa using h)
  clear h
  go_enter Try.func5, Try.ntmps5
  go_wp2_with fail
  refine (HS.out _).mono ?_
  rintro e w3 ⟨rfl, rfl⟩
  go_wp2_with fail
  refine (awake_below _ _ HB).mono ?_
  rintro e w4 ⟨rfl, h4⟩
  go_wp2
  go_ret
  exact ⟨rfl, h4⟩

set_option maxRecDepth 100000 in
set_option maxHeartbeats 1000000 in
theorem laws_long2 (a0 a1 a2 : ByteArray) (w : World) (h : 120 < a2.size) :
    Calls Try.prog 5 #[.string a0, .string a1, .string a2] w fun e w' => e = .returned (.bool true) ∧ Below w.heap.size w w' := by
  have HB := (Below.refl w.heap.size w).alloc (Nat.le_refl _) (.cells #[.string a0, .string a1, .string a2] 9)
  have HS : Hid (∀ cap, Calls Try.prog 14 #[.slice (some ⟨w.heap.size, 0, none⟩) 3 cap] (w.alloc (.cells #[.string a0, .string a1, .string a2] 9)) fun e w' => e = .returned (.bool false) ∧ w' = w.alloc (.cells #[.string a0, .string a1, .string a2] 9)) := fun cap => short_no w.heap.size 3 cap 2 _ _ (by omega) (three_cells w a0 a1 a2) (by omega) (by simpa using h)
  clear h
  go_enter Try.func5, Try.ntmps5
  go_wp2_with fail
  refine (HS.out _).mono ?_
  rintro e w5 ⟨rfl, rfl⟩
  go_wp2_with fail
  refine (awake_below _ _ HB).mono ?_
  rintro e w6 ⟨rfl, h6⟩
  go_wp2
  go_ret
  exact ⟨rfl, h6⟩

theorem laws_short (a0 a1 a2 : ByteArray) (w : World) (l0 : a0.size ≤ 120) (l1 : a1.size ≤ 120) (l2 : a2.size ≤ 120) (cap : Nat) : Calls Try.prog 14 #[.slice (some ⟨w.heap.size, 0, none⟩) 3 cap] (w.alloc (.cells #[.string a0, .string a1, .string a2] 9)) fun e w' => e = .returned (.bool true) ∧ w' = w.alloc (.cells #[.string a0, .string a1, .string a2] 9) := by
  refine short_yes w.heap.size 3 cap _ _ (by omega) (three_cells w a0 a1 a2) ?_
  intro i hi
  (repeat' split) <;> omega

set_option maxRecDepth 100000 in
set_option maxHeartbeats 1000000 in
theorem laws_bad0 (a0 a1 a2 : ByteArray) (w : World) (l0 : a0.size ≤ 120) (l1 : a1.size ≤ 120) (l2 : a2.size ≤ 120)  (h : rt a0.data.toList = false) :
    Calls Try.prog 5 #[.string a0, .string a1, .string a2] w fun e w' => e = .returned (.bool true) ∧ Below w.heap.size w w' := by
  have HB := (Below.refl w.heap.size w).alloc (Nat.le_refl _) (.cells #[.string a0, .string a1, .string a2] 9)
  have RH : Hid _ := h
  clear h
  go_enter Try.func5, Try.ntmps5
  go_wp2_with fail
  refine (laws_short a0 a1 a2 w l0 l1 l2 _).mono ?_
  rintro e w7 ⟨rfl, rfl⟩
  go_wp2_with fail
  refine (refRight_is a0 false _ (by omega) RH.out).mono ?_
  rintro e w8 ⟨rfl, rfl⟩
  go_wp2_with fail
  refine (awake_below _ _ HB).mono ?_
  rintro e w9 ⟨rfl, h9⟩
  go_wp2
  go_ret
  exact ⟨rfl, h9⟩

set_option maxRecDepth 100000 in
set_option maxHeartbeats 1000000 in
theorem laws_bad1 (a0 a1 a2 : ByteArray) (w : World) (l0 : a0.size ≤ 120) (l1 : a1.size ≤ 120) (l2 : a2.size ≤ 120) (r0 : rt a0.data.toList = true) (h : rt a1.data.toList = false) :
    Calls Try.prog 5 #[.string a0, .string a1, .string a2] w fun e w' => e = .returned (.bool true) ∧ Below w.heap.size w w' := by
  have HB := (Below.refl w.heap.size w).alloc (Nat.le_refl _) (.cells #[.string a0, .string a1, .string a2] 9)
  have R0 : Hid _ := r0
  clear r0
  have RH : Hid _ := h
  clear h
  go_enter Try.func5, Try.ntmps5
  go_wp2_with fail
  refine (laws_short a0 a1 a2 w l0 l1 l2 _).mono ?_
  rintro e w10 ⟨rfl, rfl⟩
  go_wp2_with fail
  refine (refRight_is a0 true _ (by omega) R0.out).mono ?_
  rintro e w11 ⟨rfl, rfl⟩
  go_wp2_with fail
  refine (refRight_is a1 false _ (by omega) RH.out).mono ?_
  rintro e w12 ⟨rfl, rfl⟩
  go_wp2_with fail
  refine (awake_below _ _ HB).mono ?_
  rintro e w13 ⟨rfl, h13⟩
  go_wp2
  go_ret
  exact ⟨rfl, h13⟩

set_option maxRecDepth 100000 in
set_option maxHeartbeats 1000000 in
theorem laws_bad2 (a0 a1 a2 : ByteArray) (w : World) (l0 : a0.size ≤ 120) (l1 : a1.size ≤ 120) (l2 : a2.size ≤ 120) (r0 : rt a0.data.toList = true) (r1 : rt a1.data.toList = true) (h : rt a2.data.toList = false) :
    Calls Try.prog 5 #[.string a0, .string a1, .string a2] w fun e w' => e = .returned (.bool true) ∧ Below w.heap.size w w' := by
  have HB := (Below.refl w.heap.size w).alloc (Nat.le_refl _) (.cells #[.string a0, .string a1, .string a2] 9)
  have R0 : Hid _ := r0
  clear r0
  have R1 : Hid _ := r1
  clear r1
  have RH : Hid _ := h
  clear h
  go_enter Try.func5, Try.ntmps5
  go_wp2_with fail
  refine (laws_short a0 a1 a2 w l0 l1 l2 _).mono ?_
  rintro e w14 ⟨rfl, rfl⟩
  go_wp2_with fail
  refine (refRight_is a0 true _ (by omega) R0.out).mono ?_
  rintro e w15 ⟨rfl, rfl⟩
  go_wp2_with fail
  refine (refRight_is a1 true _ (by omega) R1.out).mono ?_
  rintro e w16 ⟨rfl, rfl⟩
  go_wp2_with fail
  refine (refRight_is a2 false _ (by omega) RH.out).mono ?_
  rintro e w17 ⟨rfl, rfl⟩
  go_wp2_with fail
  refine (awake_below _ _ HB).mono ?_
  rintro e w18 ⟨rfl, h18⟩
  go_wp2
  go_ret
  exact ⟨rfl, h18⟩

theorem dist (x y z : Nat) : x * (y + z) = x * y + z * x := by rw [Nat.mul_add, Nat.mul_comm x z]
theorem back (x z : Nat) : x / z * z + x % z = x := Nat.div_add_mod' x z

set_option maxRecDepth 100000 in
set_option maxHeartbeats 1500000 in
theorem laws_zero (x y : Nat) (w : World) (t0 : tl x ≤ 120) (t1 : tl y ≤ 120) (t2 : tl 0 ≤ 120)  :
    Calls Try.prog 5 #[.string (S x), .string (S y), .string (S 0)] w fun e w' => e = .returned (.bool true) ∧ Below w.heap.size w w' := by
  have e0 : ((S 0).toList == [48]) = true := by rw [S_zero, toList_data]; rfl
  have q3 := tl_mul x y
  have q6 := tl_pos x
  have HB := (Below.refl w.heap.size w).alloc (Nat.le_refl _) (.cells #[.string (S x), .string (S y), .string (S 0)] 9)
  have H0 : Hid _ := S_size x
  have z0 : (S x).size ≤ 120 := by rw [H0.out]; exact t0
  have H1 : Hid _ := S_size y
  have z1 : (S y).size ≤ 120 := by rw [H1.out]; exact t1
  have H2 : Hid _ := S_size 0
  have z2 : (S 0).size ≤ 120 := by rw [H2.out]; exact t2
  go_enter Try.func5, Try.ntmps5
  go_wp2_with fail
  refine (laws_short (S x) (S y) (S 0) w z0 z1 z2 _).mono ?_
  rintro e w19 ⟨rfl, rfl⟩
  go_wp2_with fail
  refine (refRight_is (S x) true _ (by omega) (rt_S x)).mono ?_
  rintro e w20 ⟨rfl, rfl⟩
  go_wp2_with fail
  refine (refRight_is (S y) true _ (by omega) (rt_S y)).mono ?_
  rintro e w21 ⟨rfl, rfl⟩
  go_wp2_with fail
  refine (refRight_is (S 0) true _ (by omega) (rt_S 0)).mono ?_
  rintro e w22 ⟨rfl, rfl⟩
  go_wp2_with fail
  refine (Add_any y 0 _ (by omega) (by omega)).mono ?_
  rintro e w23 ⟨rfl, h23⟩
  replace HB := HB.trans (h23.mono HB.size)
  rw [Nat.add_zero]
  go_wp2_with fail
  refine (Add_any 0 y _ (by omega) (by omega)).mono ?_
  rintro e w24 ⟨rfl, h24⟩
  replace HB := HB.trans (h24.mono HB.size)
  rw [Nat.zero_add]
  go_wp2_with fail
  refine (Mul_any x y _ (by omega) (by omega)).mono ?_
  rintro e w25 ⟨rfl, h25⟩
  replace HB := HB.trans (h25.mono HB.size)
  go_wp2_with fail
  refine (Mul_any x y _ (by omega) (by omega)).mono ?_
  rintro e w26 ⟨rfl, h26⟩
  replace HB := HB.trans (h26.mono HB.size)
  go_wp2_with fail
  refine (Mul_any 0 x _ (by omega) (by omega)).mono ?_
  rintro e w27 ⟨rfl, h27⟩
  replace HB := HB.trans (h27.mono HB.size)
  rw [Nat.zero_mul]
  go_wp2_with fail
  refine (Add_any (x * y) 0 _ (by omega) (by omega)).mono ?_
  rintro e w28 ⟨rfl, h28⟩
  replace HB := HB.trans (h28.mono HB.size)
  rw [Nat.add_zero]
  go_wp2_with fail
  refine (awake_below _ _ HB).mono ?_
  rintro e w29 ⟨rfl, h29⟩
  go_wp2
  go_ret
  exact ⟨rfl, h29⟩

set_option maxRecDepth 100000 in
set_option maxHeartbeats 1500000 in
theorem laws_pos (x y z : Nat) (w : World) (t0 : tl x ≤ 120) (t1 : tl y ≤ 120) (t2 : tl z ≤ 120) (hz : 0 < z) :
    Calls Try.prog 5 #[.string (S x), .string (S y), .string (S z)] w fun e w' => e = .returned (.bool true) ∧ Below w.heap.size w w' := by
  have e0 := eq0 z hz
  have hd1 : tl (x / z) ≤ tl x := tl_mono (Nat.div_le_self _ _)
  have hd2 : tl (x % z) ≤ tl x := tl_mono (Nat.mod_le _ _)
  have q6 := tl_mul (x / z) z
  have HM : Hid (sg ((x % z : Nat) : Int) (z : Int) = -1) := sg_lt (by have := Nat.mod_lt x hz; omega)
  have q1 := tl_add y z
  have q2 := tl_mul x (y + z)
  have q3 := tl_mul x y
  have q4 := tl_mul z x
  have q5 := tl_add (x * y) (z * x)
  have HB := (Below.refl w.heap.size w).alloc (Nat.le_refl _) (.cells #[.string (S x), .string (S y), .string (S z)] 9)
  have H0 : Hid _ := S_size x
  have z0 : (S x).size ≤ 120 := by rw [H0.out]; exact t0
  have H1 : Hid _ := S_size y
  have z1 : (S y).size ≤ 120 := by rw [H1.out]; exact t1
  have H2 : Hid _ := S_size z
  have z2 : (S z).size ≤ 120 := by rw [H2.out]; exact t2
  go_enter Try.func5, Try.ntmps5
  go_wp2_with fail
  refine (laws_short (S x) (S y) (S z) w z0 z1 z2 _).mono ?_
  rintro e w30 ⟨rfl, rfl⟩
  go_wp2_with fail
  refine (refRight_is (S x) true _ (by omega) (rt_S x)).mono ?_
  rintro e w31 ⟨rfl, rfl⟩
  go_wp2_with fail
  refine (refRight_is (S y) true _ (by omega) (rt_S y)).mono ?_
  rintro e w32 ⟨rfl, rfl⟩
  go_wp2_with fail
  refine (refRight_is (S z) true _ (by omega) (rt_S z)).mono ?_
  rintro e w33 ⟨rfl, rfl⟩
  go_wp2_with fail
  refine (Add_any y z _ (by omega) (by omega)).mono ?_
  rintro e w34 ⟨rfl, h34⟩
  replace HB := HB.trans (h34.mono HB.size)
  go_wp2_with fail
  refine (Add_any z y _ (by omega) (by omega)).mono ?_
  rintro e w35 ⟨rfl, h35⟩
  replace HB := HB.trans (h35.mono HB.size)
  rw [Nat.add_comm z y]
  go_wp2_with fail
  refine (Mul_any x (y + z) _ (by omega) (by omega)).mono ?_
  rintro e w36 ⟨rfl, h36⟩
  replace HB := HB.trans (h36.mono HB.size)
  rw [dist x y z]
  go_wp2_with fail
  refine (Mul_any x y _ (by omega) (by omega)).mono ?_
  rintro e w37 ⟨rfl, h37⟩
  replace HB := HB.trans (h37.mono HB.size)
  go_wp2_with fail
  refine (Mul_any z x _ (by omega) (by omega)).mono ?_
  rintro e w38 ⟨rfl, h38⟩
  replace HB := HB.trans (h38.mono HB.size)
  go_wp2_with fail
  refine (Add_any (x * y) (z * x) _ (by omega) (by omega)).mono ?_
  rintro e w39 ⟨rfl, h39⟩
  replace HB := HB.trans (h39.mono HB.size)
  go_wp2_with fail
  refine (Div_any x z _ (by omega) (by omega) hz).mono ?_
  rintro e w40 ⟨rfl, h40⟩
  replace HB := HB.trans (h40.mono HB.size)
  go_wp2_with fail
  refine (Mul_any (x / z) z _ (by omega) (by omega)).mono ?_
  rintro e w41 ⟨rfl, h41⟩
  replace HB := HB.trans (h41.mono HB.size)
  go_wp2_with fail
  refine (Add_any (x / z * z) (x % z) _ (by omega) (by omega)).mono ?_
  rintro e w42 ⟨rfl, h42⟩
  replace HB := HB.trans (h42.mono HB.size)
  rw [back x z]
  go_wp2_with fail
  refine (Compare_any (x % z) z _ (by omega) (by omega)).mono ?_
  rintro e w43 ⟨rfl, rfl⟩
  rw [HM.out]
  go_wp2_with fail
  refine (awake_below _ _ HB).mono ?_
  rintro e w44 ⟨rfl, h44⟩
  go_wp2
  go_ret
  exact ⟨rfl, h44⟩

theorem laws_any (a0 a1 a2 : ByteArray) (w : World) :
    Calls Try.prog 5 #[.string a0, .string a1, .string a2] w fun e w' => e = .returned (.bool true) ∧ Below w.heap.size w w' := by
  by_cases l0 : 120 < a0.size
  · exact laws_long0 a0 a1 a2 w  l0
  by_cases l1 : 120 < a1.size
  · exact laws_long1 a0 a1 a2 w  l1
  by_cases l2 : 120 < a2.size
  · exact laws_long2 a0 a1 a2 w  l2
  by_cases r0 : rt a0.data.toList = true
  rotate_left
  · exact laws_bad0 a0 a1 a2 w (by omega) (by omega) (by omega)   (by simpa using r0)
  by_cases r1 : rt a1.data.toList = true
  rotate_left
  · exact laws_bad1 a0 a1 a2 w (by omega) (by omega) (by omega)  r0 (by simpa using r1)
  by_cases r2 : rt a2.data.toList = true
  rotate_left
  · exact laws_bad2 a0 a1 a2 w (by omega) (by omega) (by omega)  r0 r1 (by simpa using r2)
  have e0 := S_of r0
  have b0 : tl (dv a0.data.toList) = a0.size := by rw [← S_size, ← e0]
  have e1 := S_of r1
  have b1 : tl (dv a1.data.toList) = a1.size := by rw [← S_size, ← e1]
  have e2 := S_of r2
  have b2 : tl (dv a2.data.toList) = a2.size := by rw [← S_size, ← e2]
  rw [e0, e1, e2]
  generalize dv a0.data.toList = x0 at *
  generalize dv a1.data.toList = x1 at *
  generalize dv a2.data.toList = x2 at *
  rcases Nat.eq_zero_or_pos x2 with c | c
  · subst c; exact laws_zero x0 x1 w (by omega) (by omega) (by omega)
  · exact laws_pos x0 x1 x2 w (by omega) (by omega) (by omega) c
end Go.Proofs.Ythilcooanhinpaa
