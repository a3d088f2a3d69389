/-
  THE LAW NatOnes: every call gives true; nothing that was there has turned. No conditions.
-/
import Derived.Test.YthilcooanhinpaaCommon
namespace Go.Proofs.Ythilcooanhinpaa
open Go.RowKit Nm
set_option linter.unusedVariables false

set_option maxRecDepth 100000 in
set_option maxHeartbeats 1000000 in
theorem ones_long0 (a0 : ByteArray) (w : World) (h : 120 < a0.size) :
    Calls Try.prog 12 #[.string a0] w fun e w' => e = .returned (.bool true) ∧ Below w.heap.size w w' := by
  have HB := (Below.refl w.heap.size w).alloc (Nat.le_refl _) (.cells #[.string a0] 9)
  have HS : Hid (∀ cap, Calls Try.prog 14 #[.slice (some ⟨w.heap.size, 0, none⟩) 1 cap] (w.alloc (.cells #[.string a0] 9)) fun e w' => e = .returned (.bool false) ∧ w' = w.alloc (.cells #[.string a0] 9)) := fun cap => short_no w.heap.size 1 cap 0 (fun _ => a0) _ (by omega) (one_cell w a0) (by omega) (by simpa using h)
  clear h
  go_enter Try.func12, Try.ntmps12
  go_wp2_with fail
  refine (HS.out _).mono ?_
  rintro e w1 ⟨rfl, rfl⟩
  go_wp2_with fail
  refine (awake_below _ _ HB).mono ?_
  rintro e w2 ⟨rfl, h2⟩
  go_wp2
  go_ret
  exact ⟨rfl, h2⟩

theorem ones_short (a0 : ByteArray) (w : World) (l0 : a0.size ≤ 120) (cap : Nat) : Calls Try.prog 14 #[.slice (some ⟨w.heap.size, 0, none⟩) 1 cap] (w.alloc (.cells #[.string a0] 9)) fun e w' => e = .returned (.bool true) ∧ w' = w.alloc (.cells #[.string a0] 9) := by
  refine short_yes w.heap.size 1 cap (fun _ => a0) _ (by omega) (one_cell w a0) ?_
  intro i hi
  (repeat' split) <;> omega

set_option maxRecDepth 100000 in
set_option maxHeartbeats 1000000 in
theorem ones_bad0 (a0 : ByteArray) (w : World) (l0 : a0.size ≤ 120)  (h : rt a0.data.toList = false) :
    Calls Try.prog 12 #[.string a0] w fun e w' => e = .returned (.bool true) ∧ Below w.heap.size w w' := by
  have HB := (Below.refl w.heap.size w).alloc (Nat.le_refl _) (.cells #[.string a0] 9)
  have RH : Hid _ := h
  clear h
  go_enter Try.func12, Try.ntmps12
  go_wp2_with fail
  refine (ones_short a0 w l0 _).mono ?_
  rintro e w3 ⟨rfl, rfl⟩
  go_wp2_with fail
  refine (refRight_is a0 false _ (by omega) RH.out).mono ?_
  rintro e w4 ⟨rfl, rfl⟩
  go_wp2_with fail
  refine (awake_below _ _ HB).mono ?_
  rintro e w5 ⟨rfl, h5⟩
  go_wp2
  go_ret
  exact ⟨rfl, h5⟩

theorem S1 : S 1 = ⟨#[49]⟩ := S_lit (l := [49]) (by decide) (by decide)
theorem tl1 : tl 1 ≤ 1 := tl_le (by decide) (by decide)
theorem tl0 : tl 0 ≤ 1 := tl_le (by decide) (by decide)
theorem mul1 (x : Nat) (w : World) (hx : tl x ≤ 9000) : Calls Try.prog 17 #[.string (S x), .string ⟨#[49]⟩] w fun e w' => e = .returned (.tuple #[.string (S x), .int .i64 0]) ∧ Below w.heap.size w w' := by
  have t := tl1
  have h := Mul_any x 1 w (by omega) (by omega)
  rw [S1, Nat.mul_one] at h
  exact h
theorem div1 (x : Nat) (w : World) (hx : tl x ≤ 9000) : Calls Try.prog 26 #[.string (S x), .string ⟨#[49]⟩] w fun e w' => e = .returned (.tuple #[.string (S x), .string (S 0), .int .i64 0]) ∧ Below w.heap.size w w' := by
  have h := Div_short x 1 w (by omega) (by omega) (by omega)
  rw [S1, Nat.div_one, Nat.mod_one] at h
  exact h
theorem add0 (x : Nat) (w : World) (hx : tl x ≤ 9000) : Calls Try.prog 16 #[.string (S x), .string ⟨#[48]⟩] w fun e w' => e = .returned (.tuple #[.string (S x), .int .i64 0]) ∧ Below w.heap.size w w' := by
  have t := tl0
  have h := Add_any x 0 w (by omega) (by omega)
  rw [S_zero, Nat.add_zero] at h
  exact h
theorem add1 (x y : Nat) (w : World) (hx : tl x ≤ 9000) (hy : x + 1 = y) : Calls Try.prog 16 #[.string (S x), .string ⟨#[49]⟩] w fun e w' => e = .returned (.tuple #[.string (S y), .int .i64 0]) ∧ Below w.heap.size w w' := by
  have t := tl1
  have h := Add_any x 1 w (by omega) (by omega)
  rw [S1, hy] at h
  exact h

set_option maxRecDepth 100000 in
set_option maxHeartbeats 1500000 in
theorem ones_zero (w : World) :
    Calls Try.prog 12 #[.string (S 0)] w fun e w' => e = .returned (.bool true) ∧ Below w.heap.size w w' := by
  have e0 : ((S 0).toList == [48]) = true := by rw [S_zero, toList_data]; rfl
  have tt := tl1
  have t0 : tl 0 ≤ 120 := by have := tl0; omega
  have HM : Hid (sg ((1 : Nat) : Int) ((0 : Nat) : Int) = 1) := sg_gt (by omega)
  have HB := (Below.refl w.heap.size w).alloc (Nat.le_refl _) (.cells #[.string (S 0)] 9)
  have H0 : Hid _ := S_size 0
  have z0 : (S 0).size ≤ 120 := by rw [H0.out]; exact t0
  go_enter Try.func12, Try.ntmps12
  go_wp2_with fail
  refine (ones_short (S 0) w z0 _).mono ?_
  rintro e w6 ⟨rfl, rfl⟩
  go_wp2_with fail
  refine (refRight_is (S 0) true _ (by omega) (rt_S 0)).mono ?_
  rintro e w7 ⟨rfl, rfl⟩
  go_wp2_with fail
  refine (mul1 0 _ (by omega)).mono ?_
  rintro e w8 ⟨rfl, h8⟩
  replace HB := HB.trans (h8.mono HB.size)
  go_wp2_with fail
  refine (div1 0 _ (by omega)).mono ?_
  rintro e w9 ⟨rfl, h9⟩
  replace HB := HB.trans (h9.mono HB.size)
  go_wp2_with fail
  refine (add0 0 _ (by omega)).mono ?_
  rintro e w10 ⟨rfl, h10⟩
  replace HB := HB.trans (h10.mono HB.size)
  go_wp2_with fail
  refine (add1 0 1 _ (by omega) rfl).mono ?_
  rintro e w11 ⟨rfl, h11⟩
  replace HB := HB.trans (h11.mono HB.size)
  go_wp2_with fail
  refine (Compare_any 1 0 _ (by omega) (by omega)).mono ?_
  rintro e w12 ⟨rfl, rfl⟩
  rw [HM.out]
  go_wp2_with fail
  refine (Div_zero 0 _ (by omega)).mono ?_
  rintro e w13 ⟨rfl, h13⟩
  replace HB := HB.trans (h13.mono HB.size)
  go_wp2_with fail
  refine (Gcd_any 0 0 _ (by omega) (by omega)).mono ?_
  rintro e w14 ⟨rfl, h14⟩
  replace HB := HB.trans (h14.mono HB.size)
  rw [Nat.gcd_zero_left]
  go_wp2_with fail
  refine (awake_below _ _ HB).mono ?_
  rintro e w15 ⟨rfl, h15⟩
  go_wp2
  go_ret
  exact ⟨rfl, h15⟩

set_option maxRecDepth 100000 in
set_option maxHeartbeats 1500000 in
theorem ones_pos (x y : Nat) (w : World) (t0 : tl x ≤ 120) (hp : 0 < x) (hy : x + 1 = y) :
    Calls Try.prog 12 #[.string (S x)] w fun e w' => e = .returned (.bool true) ∧ Below w.heap.size w w' := by
  have e0 : ((S 0).toList == [48]) = true := by rw [S_zero, toList_data]; rfl
  have e1 := eq0 x hp
  have e2 : ((S 1).toList == [49]) = true := by rw [S1, toList_data]; rfl
  have tt := tl1
  have ty : tl y ≤ 1000 := by have := tl_add x 1; rw [hy] at this; omega
  have HM : Hid (sg (y : Int) (x : Int) = 1) := sg_gt (by omega)
  have HY : Hid _ := hy
  clear hy
  have HB := (Below.refl w.heap.size w).alloc (Nat.le_refl _) (.cells #[.string (S x)] 9)
  have H0 : Hid _ := S_size x
  have z0 : (S x).size ≤ 120 := by rw [H0.out]; exact t0
  go_enter Try.func12, Try.ntmps12
  go_wp2_with fail
  refine (ones_short (S x) w z0 _).mono ?_
  rintro e w16 ⟨rfl, rfl⟩
  go_wp2_with fail
  refine (refRight_is (S x) true _ (by omega) (rt_S x)).mono ?_
  rintro e w17 ⟨rfl, rfl⟩
  go_wp2_with fail
  refine (mul1 x _ (by omega)).mono ?_
  rintro e w18 ⟨rfl, h18⟩
  replace HB := HB.trans (h18.mono HB.size)
  go_wp2_with fail
  refine (div1 x _ (by omega)).mono ?_
  rintro e w19 ⟨rfl, h19⟩
  replace HB := HB.trans (h19.mono HB.size)
  go_wp2_with fail
  refine (add0 x _ (by omega)).mono ?_
  rintro e w20 ⟨rfl, h20⟩
  replace HB := HB.trans (h20.mono HB.size)
  go_wp2_with fail
  refine (add1 x y _ (by omega) HY.out).mono ?_
  rintro e w21 ⟨rfl, h21⟩
  replace HB := HB.trans (h21.mono HB.size)
  go_wp2_with fail
  refine (Compare_any y x _ (by omega) (by omega)).mono ?_
  rintro e w22 ⟨rfl, rfl⟩
  rw [HM.out]
  go_wp2_with fail
  refine (Div_any x x _ (by omega) (by omega) hp).mono ?_
  rintro e w23 ⟨rfl, h23⟩
  replace HB := HB.trans (h23.mono HB.size)
  rw [Nat.div_self hp]
  go_wp2_with fail
  refine (Gcd_any x x _ (by omega) (by omega)).mono ?_
  rintro e w24 ⟨rfl, h24⟩
  replace HB := HB.trans (h24.mono HB.size)
  rw [Nat.gcd_self]
  go_wp2_with fail
  refine (awake_below _ _ HB).mono ?_
  rintro e w25 ⟨rfl, h25⟩
  go_wp2
  go_ret
  exact ⟨rfl, h25⟩

theorem ones_any (a0 : ByteArray) (w : World) :
    Calls Try.prog 12 #[.string a0] w fun e w' => e = .returned (.bool true) ∧ Below w.heap.size w w' := by
  by_cases l0 : 120 < a0.size
  · exact ones_long0 a0 w  l0
  by_cases r0 : rt a0.data.toList = true
  rotate_left
  · exact ones_bad0 a0 w (by omega)   (by simpa using r0)
  have e0 := S_of r0
  have b0 : tl (dv a0.data.toList) = a0.size := by rw [← S_size, ← e0]
  rw [e0]
  generalize dv a0.data.toList = x0 at *
  rcases Nat.eq_zero_or_pos x0 with c | c
  · subst c; exact ones_zero w
  · exact ones_pos x0 (x0 + 1) w (by omega) c rfl
end Go.Proofs.Ythilcooanhinpaa
