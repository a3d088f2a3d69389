/-
  THE LAW NatDivs: every call gives true; nothing that was there has turned. No conditions.
-/
import Derived.Test.YthilcooanhinpaaCommon
import Derived.Test.YthilcooanhinpaaRefDiv
import Derived.Test.YthilcooanhinpaaSums
namespace Go.Proofs.Ythilcooanhinpaa
open Go.RowKit Nm
set_option linter.unusedVariables false

set_option maxRecDepth 100000 in
set_option maxHeartbeats 1000000 in
theorem divs_long0 (a0 a1 : ByteArray) (w : World) (h : 120 < a0.size) :
    Calls Try.prog 4 #[.string a0, .string a1] w fun e w' => e = .returned (.bool true) ∧ Below w.heap.size w w' := by
  have HB := (Below.refl w.heap.size w).alloc (Nat.le_refl _) (.cells #[.string a0, .string a1] 9)
  have HS : Hid (∀ cap, Calls Try.prog 14 #[.slice (some ⟨w.heap.size, 0, none⟩) 2 cap] (w.alloc (.cells #[.string a0, .string a1] 9)) fun e w' => e = .returned (.bool false) ∧ w' = w.alloc (.cells #[.string a0, .string a1] 9)) := fun cap => short_no w.heap.size 2 cap 0 _ _ (by omega) (two_cells w a0 a1) (by omega) (by simpa using h)
  clear h
  go_enter Try.func4, Try.ntmps4
  go_wp2_with fail
  refine (HS.out _).mono ?_
  rintro e w1 ⟨rfl, rfl⟩
  go_wp2_with fail
  refine (awake_below _ _ HB).mono ?_
  rintro e w2 ⟨rfl, h2⟩
  go_wp2
  go_ret
  exact ⟨rfl, h2⟩

set_option maxRecDepth 100000 in
set_option maxHeartbeats 1000000 in
theorem divs_long1 (a0 a1 : ByteArray) (w : World) (h : 120 < a1.size) :
    Calls Try.prog 4 #[.string a0, .string a1] w fun e w' => e = .returned (.bool true) ∧ Below w.heap.size w w' := by
  have HB := (Below.refl w.heap.size w).alloc (Nat.le_refl _) (.cells #[.string a0, .string a1] 9)
  have HS : Hid (∀ cap, Calls Try.prog 14 #[.slice (some ⟨w.heap.size, 0, none⟩) 2 cap] (w.alloc (.cells #[.string a0, .string a1] 9)) fun e w' => e = .returned (.bool false) ∧ w' = w.alloc (.cells #[.string a0, .string a1] 9)) := fun cap => short_no w.heap.size 2 cap 1 _ _ (by omega) (two_cells w a0 a1) (by omega) (by simpa using h)
  clear h
  go_enter Try.func4, Try.ntmps4
  go_wp2_with fail
  refine (HS.out _).mono ?_
  rintro e w3 ⟨rfl, rfl⟩
  go_wp2_with fail
  refine (awake_below _ _ HB).mono ?_
  rintro e w4 ⟨rfl, h4⟩
  go_wp2
  go_ret
  exact ⟨rfl, h4⟩

theorem divs_short (a0 a1 : ByteArray) (w : World) (l0 : a0.size ≤ 120) (l1 : a1.size ≤ 120) (cap : Nat) : Calls Try.prog 14 #[.slice (some ⟨w.heap.size, 0, none⟩) 2 cap] (w.alloc (.cells #[.string a0, .string a1] 9)) fun e w' => e = .returned (.bool true) ∧ w' = w.alloc (.cells #[.string a0, .string a1] 9) := by
  refine short_yes w.heap.size 2 cap _ _ (by omega) (two_cells w a0 a1) ?_
  intro i hi
  (repeat' split) <;> omega

set_option maxRecDepth 100000 in
set_option maxHeartbeats 2000000 in
theorem divs_bad0 (a0 a1 : ByteArray) (w : World) (l0 : a0.size ≤ 120) (l1 : a1.size ≤ 120) (h : rt a0.data.toList = false) :
    Calls Try.prog 4 #[.string a0, .string a1] w fun e w' => e = .returned (.bool true) ∧ Below w.heap.size w w' := by
  have HB := (Below.refl w.heap.size w).alloc (Nat.le_refl _) (.cells #[.string a0, .string a1] 9)
  have HH : Hid (rt a0.data.toList = false ∨ rt a1.data.toList = false) := Or.inl h
  have R0 : Hid _ := h
  clear h
  go_enter Try.func4, Try.ntmps4
  go_wp2_with fail
  refine (divs_short a0 a1 w l0 l1 _).mono ?_
  rintro e w5 ⟨rfl, rfl⟩
  go_wp2_with fail
  refine (Div_bad a0 a1 _ (by omega) (by omega) HH.out).mono ?_
  rintro e w6 ⟨rfl, rfl⟩
  go_wp2_with fail
  refine (Gcd_bad a0 a1 _ (by omega) (by omega) HH.out).mono ?_
  rintro e w7 ⟨rfl, rfl⟩
  go_wp2_with fail
  refine (refRight_is a0 false _ (by omega) R0.out).mono ?_
  rintro e w8 ⟨rfl, rfl⟩
  go_wp2_with fail
  refine (right_is a0 false _ (by omega) R0.out).mono ?_
  rintro e w9 ⟨rfl, rfl⟩
  go_wp2_with fail
  refine (refRight_is a0 false _ (by omega) R0.out).mono ?_
  rintro e w10 ⟨rfl, rfl⟩
  go_wp2_with fail
  refine (awake_below _ _ HB).mono ?_
  rintro e w11 ⟨rfl, h11⟩
  go_wp2
  go_ret
  exact ⟨rfl, h11⟩

set_option maxRecDepth 100000 in
set_option maxHeartbeats 2000000 in
theorem divs_bad1 (a0 a1 : ByteArray) (w : World) (l0 : a0.size ≤ 120) (l1 : a1.size ≤ 120) (r : rt a0.data.toList = true) (h : rt a1.data.toList = false) :
    Calls Try.prog 4 #[.string a0, .string a1] w fun e w' => e = .returned (.bool true) ∧ Below w.heap.size w w' := by
  have HB := (Below.refl w.heap.size w).alloc (Nat.le_refl _) (.cells #[.string a0, .string a1] 9)
  have HH : Hid (rt a0.data.toList = false ∨ rt a1.data.toList = false) := Or.inr h
  have R0 : Hid _ := r
  have R1 : Hid _ := h
  clear h r
  go_enter Try.func4, Try.ntmps4
  go_wp2_with fail
  refine (divs_short a0 a1 w l0 l1 _).mono ?_
  rintro e w12 ⟨rfl, rfl⟩
  go_wp2_with fail
  refine (Div_bad a0 a1 _ (by omega) (by omega) HH.out).mono ?_
  rintro e w13 ⟨rfl, rfl⟩
  go_wp2_with fail
  refine (Gcd_bad a0 a1 _ (by omega) (by omega) HH.out).mono ?_
  rintro e w14 ⟨rfl, rfl⟩
  go_wp2_with fail
  refine (refRight_is a0 true _ (by omega) R0.out).mono ?_
  rintro e w15 ⟨rfl, rfl⟩
  go_wp2_with fail
  refine (refRight_is a1 false _ (by omega) R1.out).mono ?_
  rintro e w16 ⟨rfl, rfl⟩
  go_wp2_with fail
  refine (right_is a0 true _ (by omega) R0.out).mono ?_
  rintro e w17 ⟨rfl, rfl⟩
  go_wp2_with fail
  refine (refRight_is a0 true _ (by omega) R0.out).mono ?_
  rintro e w18 ⟨rfl, rfl⟩
  go_wp2_with fail
  refine (awake_below _ _ HB).mono ?_
  rintro e w19 ⟨rfl, h19⟩
  go_wp2
  go_ret
  exact ⟨rfl, h19⟩

set_option maxRecDepth 100000 in
set_option maxHeartbeats 2000000 in
theorem divs_zero (x : Nat) (w : World) (t0 : tl x ≤ 120) (t1 : tl 0 ≤ 120)  :
    Calls Try.prog 4 #[.string (S x), .string (S 0)] w fun e w' => e = .returned (.bool true) ∧ Below w.heap.size w w' := by
  have HB := (Below.refl w.heap.size w).alloc (Nat.le_refl _) (.cells #[.string (S x), .string (S 0)] 9)
  have H0 : Hid _ := S_size x
  have z0 : (S x).size ≤ 120 := by rw [H0.out]; exact t0
  have H1 : Hid _ := S_size 0
  have z1 : (S 0).size ≤ 120 := by rw [H1.out]; exact t1
  have e0 : ((S 0).toList == [48]) = true := by rw [S_zero, toList_data]; rfl
  go_enter Try.func4, Try.ntmps4
  go_wp2_with fail
  refine (divs_short (S x) (S 0) w z0 z1 _).mono ?_
  rintro e w20 ⟨rfl, rfl⟩
  go_wp2_with fail
  refine (Div_zero x _ (by omega)).mono ?_
  rintro e w21 ⟨rfl, h21⟩
  replace HB := HB.trans (h21.mono HB.size)
  go_wp2_with fail
  refine (Gcd_any x 0 _ (by omega) (by omega)).mono ?_
  rintro e w22 ⟨rfl, h22⟩
  replace HB := HB.trans (h22.mono HB.size)
  rw [Nat.gcd_zero_right]
  go_wp2_with fail
  refine (refRight_is (S x) true _ (by omega) (rt_S x)).mono ?_
  rintro e w23 ⟨rfl, rfl⟩
  go_wp2_with fail
  refine (refRight_is (S 0) true _ (by omega) (rt_S 0)).mono ?_
  rintro e w24 ⟨rfl, rfl⟩
  go_wp2_with fail
  refine (refGcd_any x 0 _ (by omega) (by omega)).mono ?_
  rintro e w25 ⟨rfl, h25⟩
  replace HB := HB.trans (h25.mono HB.size)
  rw [Nat.gcd_zero_right]
  go_wp2_with fail
  refine (awake_below _ _ HB).mono ?_
  rintro e w26 ⟨rfl, h26⟩
  go_wp2
  go_ret
  exact ⟨rfl, h26⟩

set_option maxRecDepth 100000 in
set_option maxHeartbeats 2000000 in
theorem divs_pos (x y : Nat) (w : World) (t0 : tl x ≤ 120) (t1 : tl y ≤ 120) (hy : 0 < y) :
    Calls Try.prog 4 #[.string (S x), .string (S y)] w fun e w' => e = .returned (.bool true) ∧ Below w.heap.size w w' := by
  have HB := (Below.refl w.heap.size w).alloc (Nat.le_refl _) (.cells #[.string (S x), .string (S y)] 9)
  have H0 : Hid _ := S_size x
  have z0 : (S x).size ≤ 120 := by rw [H0.out]; exact t0
  have H1 : Hid _ := S_size y
  have z1 : (S y).size ≤ 120 := by rw [H1.out]; exact t1
  have e0 := eq0 y hy
  go_enter Try.func4, Try.ntmps4
  go_wp2_with fail
  refine (divs_short (S x) (S y) w z0 z1 _).mono ?_
  rintro e w27 ⟨rfl, rfl⟩
  go_wp2_with fail
  refine (Div_any x y _ (by omega) (by omega) hy).mono ?_
  rintro e w28 ⟨rfl, h28⟩
  replace HB := HB.trans (h28.mono HB.size)
  go_wp2_with fail
  refine (Gcd_any x y _ (by omega) (by omega)).mono ?_
  rintro e w29 ⟨rfl, h29⟩
  replace HB := HB.trans (h29.mono HB.size)
  go_wp2_with fail
  refine (refRight_is (S x) true _ (by omega) (rt_S x)).mono ?_
  rintro e w30 ⟨rfl, rfl⟩
  go_wp2_with fail
  refine (refRight_is (S y) true _ (by omega) (rt_S y)).mono ?_
  rintro e w31 ⟨rfl, rfl⟩
  go_wp2_with fail
  refine (refGcd_any x y _ (by omega) (by omega)).mono ?_
  rintro e w32 ⟨rfl, h32⟩
  replace HB := HB.trans (h32.mono HB.size)
  go_wp2_with fail
  refine (refDiv_any x y _ (by omega) (by omega) hy).mono ?_
  rintro e w33 ⟨rfl, h33⟩
  replace HB := HB.trans (h33.mono HB.size)
  go_wp2_with fail
  refine (awake_below _ _ HB).mono ?_
  rintro e w34 ⟨rfl, h34⟩
  go_wp2
  go_ret
  exact ⟨rfl, h34⟩

theorem divs_any (a0 a1 : ByteArray) (w : World) :
    Calls Try.prog 4 #[.string a0, .string a1] w fun e w' => e = .returned (.bool true) ∧ Below w.heap.size w w' := by
  by_cases l0 : 120 < a0.size
  · exact divs_long0 a0 a1 w  l0
  by_cases l1 : 120 < a1.size
  · exact divs_long1 a0 a1 w  l1
  by_cases r0 : rt a0.data.toList = true
  rotate_left
  · exact divs_bad0 a0 a1 w (by omega) (by omega)   (by simpa using r0)
  by_cases r1 : rt a1.data.toList = true
  rotate_left
  · exact divs_bad1 a0 a1 w (by omega) (by omega)  r0 (by simpa using r1)
  have e0 := S_of r0
  have b0 : tl (dv a0.data.toList) = a0.size := by rw [← S_size, ← e0]
  have e1 := S_of r1
  have b1 : tl (dv a1.data.toList) = a1.size := by rw [← S_size, ← e1]
  rw [e0, e1]
  generalize dv a0.data.toList = x0 at *
  generalize dv a1.data.toList = x1 at *
  rcases Nat.eq_zero_or_pos x1 with c | c
  · subst c; exact divs_zero x0 w (by omega) (by omega)
  · exact divs_pos x0 x1 w (by omega) (by omega) c
end Go.Proofs.Ythilcooanhinpaa
