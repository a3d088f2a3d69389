/-
  THE LAW NatOrder: every call gives true; nothing that was there has turned. No conditions.
-/
import Derived.Test.YthilcooanhinpaaAwake
namespace Go.Proofs.Ythilcooanhinpaa
open Go.RowKit Nm
set_option linter.unusedVariables false

set_option maxRecDepth 100000 in
set_option maxHeartbeats 1000000 in
theorem order_long0 (a0 a1 a2 : ByteArray) (w : World) (h : 120 < a0.size) :
    Calls Try.prog 8 #[.string a0, .string a1, .string a2] w fun e w' => e = .returned (.bool true) ∧ Below w.heap.size w w' := by
  have HB := (Below.refl w.heap.size w).alloc (Nat.le_refl _) (.cells #[.string a0, .string a1, .string a2] 9)
  have HS : Hid (∀ cap, Calls Try.prog 14 #[.slice (some ⟨w.heap.size, 0, none⟩) 3 cap] (w.alloc (.cells #[.string a0, .string a1, .string a2] 9)) fun e w' => e = .returned (.bool false) ∧ w' = w.alloc (.cells #[.string a0, .string a1, .string a2] 9)) := fun cap => short_no w.heap.size 3 cap 0 _ _ (by omega) (three_cells w a0 a1 a2) (by omega) (by simpa using h)
  clear h
  go_enter Try.func8, Try.ntmps8
  go_wp2_with fail
  refine (HS.out _).mono ?_
  rintro e w1 ⟨rfl, rfl⟩
  go_wp2_with fail
  refine (awake_below _ _ HB).mono ?_
  rintro e w2 ⟨rfl, h2⟩
  go_wp2
  go_ret
  exact ⟨rfl, h2⟩

set_option maxRecDepth 100000 in
set_option maxHeartbeats 1000000 in
theorem order_long1 (a0 a1 a2 : ByteArray) (w : World) (h : 120 < a1.size) :
    Calls Try.prog 8 #[.string a0, .string a1, .string a2] w fun e w' => e = .returned (.bool true) ∧ Below w.heap.size w w' := by
  have HB := (Below.refl w.heap.size w).alloc (Nat.le_refl _) (.cells #[.string a0, .string a1, .string a2] 9)
  have HS : Hid (∀ cap, Calls Try.prog 14 #[.slice (some ⟨w.heap.size, 0, none⟩) 3 cap] (w.alloc (.cells #[.string a0, .string a1, .string a2] 9)) fun e w' => e = .returned (.bool false) ∧ w' = w.alloc (.cells #[.string a0, .string a1, .string a2] 9)) := fun cap => short_no w.heap.size 3 cap 1 _ _ (by omega) (three_cells w a0 a1 a2) (by omega) (by simpa using h)
  clear h
  go_enter Try.func8, Try.ntmps8
  go_wp2_with fail
  refine (HS.out _).mono ?_
  rintro e w3 ⟨rfl, rfl⟩
  go_wp2_with fail
  refine (awake_below _ _ HB).mono ?_
  rintro e w4 ⟨rfl, h4⟩
  go_wp2
  go_ret
  exact ⟨rfl, h4⟩

set_option maxRecDepth 100000 in
set_option maxHeartbeats 1000000 in
theorem order_long2 (a0 a1 a2 : ByteArray) (w : World) (h : 120 < a2.size) :
    Calls Try.prog 8 #[.string a0, .string a1, .string a2] w fun e w' => e = .returned (.bool true) ∧ Below w.heap.size w w' := by
  have HB := (Below.refl w.heap.size w).alloc (Nat.le_refl _) (.cells #[.string a0, .string a1, .string a2] 9)
  have HS : Hid (∀ cap, Calls Try.prog 14 #[.slice (some ⟨w.heap.size, 0, none⟩) 3 cap] (w.alloc (.cells #[.string a0, .string a1, .string a2] 9)) fun e w' => e = .returned (.bool false) ∧ w' = w.alloc (.cells #[.string a0, .string a1, .string a2] 9)) := fun cap => short_no w.heap.size 3 cap 2 _ _ (by omega) (three_cells w a0 a1 a2) (by omega) (by simpa using h)
  clear h
  go_enter Try.func8, Try.ntmps8
  go_wp2_with fail
  refine (HS.out _).mono ?_
  rintro e w5 ⟨rfl, rfl⟩
  go_wp2_with fail
  refine (awake_below _ _ HB).mono ?_
  rintro e w6 ⟨rfl, h6⟩
  go_wp2
  go_ret
  exact ⟨rfl, h6⟩

theorem order_short (a0 a1 a2 : ByteArray) (w : World) (l0 : a0.size ≤ 120) (l1 : a1.size ≤ 120) (l2 : a2.size ≤ 120) (cap : Nat) : Calls Try.prog 14 #[.slice (some ⟨w.heap.size, 0, none⟩) 3 cap] (w.alloc (.cells #[.string a0, .string a1, .string a2] 9)) fun e w' => e = .returned (.bool true) ∧ w' = w.alloc (.cells #[.string a0, .string a1, .string a2] 9) := by
  refine short_yes w.heap.size 3 cap _ _ (by omega) (three_cells w a0 a1 a2) ?_
  intro i hi
  (repeat' split) <;> omega

set_option maxRecDepth 100000 in
set_option maxHeartbeats 1000000 in
theorem order_extra (a0 a1 a2 : ByteArray) (w : World) (l0 : a0.size ≤ 120) (l1 : a1.size ≤ 120) (l2 : a2.size ≤ 120) (h : 180 < a0.size + a1.size + a2.size) :
    Calls Try.prog 8 #[.string a0, .string a1, .string a2] w fun e w' => e = .returned (.bool true) ∧ Below w.heap.size w w' := by
  have HB := (Below.refl w.heap.size w).alloc (Nat.le_refl _) (.cells #[.string a0, .string a1, .string a2] 9)
  go_enter Try.func8, Try.ntmps8
  go_wp2_with fail
  refine (order_short a0 a1 a2 w l0 l1 l2 _).mono ?_
  rintro e w7 ⟨rfl, rfl⟩
  go_wp2_with fail
  refine (awake_below _ _ HB).mono ?_
  rintro e w8 ⟨rfl, h8⟩
  go_wp2
  go_ret
  exact ⟨rfl, h8⟩

set_option maxRecDepth 100000 in
set_option maxHeartbeats 1000000 in
theorem order_bad0 (a0 a1 a2 : ByteArray) (w : World) (l0 : a0.size ≤ 120) (l1 : a1.size ≤ 120) (l2 : a2.size ≤ 120) (lx : ¬ 180 < a0.size + a1.size + a2.size)  (h : rt a0.data.toList = false) :
    Calls Try.prog 8 #[.string a0, .string a1, .string a2] w fun e w' => e = .returned (.bool true) ∧ Below w.heap.size w w' := by
  have HB := (Below.refl w.heap.size w).alloc (Nat.le_refl _) (.cells #[.string a0, .string a1, .string a2] 9)
  have RH : Hid _ := h
  clear h
  go_enter Try.func8, Try.ntmps8
  go_wp2_with fail
  refine (order_short a0 a1 a2 w l0 l1 l2 _).mono ?_
  rintro e w9 ⟨rfl, rfl⟩
  go_wp2_with fail
  refine (refRight_is a0 false _ (by omega) RH.out).mono ?_
  rintro e w10 ⟨rfl, rfl⟩
  go_wp2_with fail
  refine (awake_below _ _ HB).mono ?_
  rintro e w11 ⟨rfl, h11⟩
  go_wp2
  go_ret
  exact ⟨rfl, h11⟩

set_option maxRecDepth 100000 in
set_option maxHeartbeats 1000000 in
theorem order_bad1 (a0 a1 a2 : ByteArray) (w : World) (l0 : a0.size ≤ 120) (l1 : a1.size ≤ 120) (l2 : a2.size ≤ 120) (lx : ¬ 180 < a0.size + a1.size + a2.size) (r0 : rt a0.data.toList = true) (h : rt a1.data.toList = false) :
    Calls Try.prog 8 #[.string a0, .string a1, .string a2] w fun e w' => e = .returned (.bool true) ∧ Below w.heap.size w w' := by
  have HB := (Below.refl w.heap.size w).alloc (Nat.le_refl _) (.cells #[.string a0, .string a1, .string a2] 9)
  have R0 : Hid _ := r0
  clear r0
  have RH : Hid _ := h
  clear h
  go_enter Try.func8, Try.ntmps8
  go_wp2_with fail
  refine (order_short a0 a1 a2 w l0 l1 l2 _).mono ?_
  rintro e w12 ⟨rfl, rfl⟩
  go_wp2_with fail
  refine (refRight_is a0 true _ (by omega) R0.out).mono ?_
  rintro e w13 ⟨rfl, rfl⟩
  go_wp2_with fail
  refine (refRight_is a1 false _ (by omega) RH.out).mono ?_
  rintro e w14 ⟨rfl, rfl⟩
  go_wp2_with fail
  refine (awake_below _ _ HB).mono ?_
  rintro e w15 ⟨rfl, h15⟩
  go_wp2
  go_ret
  exact ⟨rfl, h15⟩

set_option maxRecDepth 100000 in
set_option maxHeartbeats 1000000 in
theorem order_bad2 (a0 a1 a2 : ByteArray) (w : World) (l0 : a0.size ≤ 120) (l1 : a1.size ≤ 120) (l2 : a2.size ≤ 120) (lx : ¬ 180 < a0.size + a1.size + a2.size) (r0 : rt a0.data.toList = true) (r1 : rt a1.data.toList = true) (h : rt a2.data.toList = false) :
    Calls Try.prog 8 #[.string a0, .string a1, .string a2] w fun e w' => e = .returned (.bool true) ∧ Below w.heap.size w w' := by
  have HB := (Below.refl w.heap.size w).alloc (Nat.le_refl _) (.cells #[.string a0, .string a1, .string a2] 9)
  have R0 : Hid _ := r0
  clear r0
  have R1 : Hid _ := r1
  clear r1
  have RH : Hid _ := h
  clear h
  go_enter Try.func8, Try.ntmps8
  go_wp2_with fail
  refine (order_short a0 a1 a2 w l0 l1 l2 _).mono ?_
  rintro e w16 ⟨rfl, rfl⟩
  go_wp2_with fail
  refine (refRight_is a0 true _ (by omega) R0.out).mono ?_
  rintro e w17 ⟨rfl, rfl⟩
  go_wp2_with fail
  refine (refRight_is a1 true _ (by omega) R1.out).mono ?_
  rintro e w18 ⟨rfl, rfl⟩
  go_wp2_with fail
  refine (refRight_is a2 false _ (by omega) RH.out).mono ?_
  rintro e w19 ⟨rfl, rfl⟩
  go_wp2_with fail
  refine (awake_below _ _ HB).mono ?_
  rintro e w20 ⟨rfl, h20⟩
  go_wp2
  go_ret
  exact ⟨rfl, h20⟩

theorem sg_add (x y z : Nat) : sg ((x + z : Nat) : Int) ((y + z : Nat) : Int) = sg x y := by
  unfold sg
  have h1 : ((x + z : Nat) : Int) < ((y + z : Nat) : Int) ↔ (x : Int) < (y : Int) := by omega
  have h2 : ((y + z : Nat) : Int) < ((x + z : Nat) : Int) ↔ (y : Int) < (x : Int) := by omega
  simp only [h1, h2]
theorem sg_mul (x y z : Nat) (hz : 0 < z) : sg ((x * z : Nat) : Int) ((y * z : Nat) : Int) = sg x y := by
  unfold sg
  have h1 : ((x * z : Nat) : Int) < ((y * z : Nat) : Int) ↔ (x : Int) < (y : Int) := by rw [Int.ofNat_lt, Int.ofNat_lt]; exact Nat.mul_lt_mul_right hz
  have h2 : ((y * z : Nat) : Int) < ((x * z : Nat) : Int) ↔ (y : Int) < (x : Int) := by rw [Int.ofNat_lt, Int.ofNat_lt]; exact Nat.mul_lt_mul_right hz
  simp only [h1, h2]
theorem sg_zero (x y : Nat) : sg ((x * 0 : Nat) : Int) ((y * 0 : Nat) : Int) = 0 := by unfold sg; simp
theorem sg_iff (x y : Nat) : (sg x y == 0) = ((S x).toList == (S y).toList) := by
  rcases Nat.lt_trichotomy x y with c | c | c
  · rw [eqS (by omega), sg_lt (by omega)]; rfl
  · subst c; rw [sg_eq rfl]; simp
  · rw [eqS (by omega), sg_gt (by omega)]; rfl
theorem sg_pos {x y : Nat} : 0 < sg x y ↔ y < x := by
  rcases Nat.lt_trichotomy x y with c | c | c
  · rw [sg_lt (by omega)]; omega
  · subst c; rw [sg_eq rfl]; omega
  · rw [sg_gt (by omega)]; omega

set_option maxRecDepth 100000 in
set_option maxHeartbeats 4000000 in
theorem order_a0 (x y : Nat) (w : World) (t0 : tl x ≤ 120) (t1 : tl y ≤ 120) (t2 : tl 0 ≤ 120) (lx : tl x + tl y + tl 0 ≤ 180) (hk : 0 < sg x y) :
    Calls Try.prog 8 #[.string (S x), .string (S y), .string (S 0)] w fun e w' => e = .returned (.bool true) ∧ Below w.heap.size w w' := by
  have q1 := tl_add x 0
  have q2 := tl_add y 0
  have q3 := tl_mul x 0
  have q4 := tl_mul y 0
  have e0 : ((S 0).toList == [48]) = true := by rw [S_zero, toList_data]; rfl
  have HI : Hid _ := sg_iff x y
  have ls : (S x).size + (S y).size + (S 0).size ≤ 180 := by rw [S_size, S_size, S_size]; exact lx
  have HB := (Below.refl w.heap.size w).alloc (Nat.le_refl _) (.cells #[.string (S x), .string (S y), .string (S 0)] 9)
  have H0 : Hid _ := S_size x
  have z0 : (S x).size ≤ 120 := by rw [H0.out]; exact t0
  have H1 : Hid _ := S_size y
  have z1 : (S y).size ≤ 120 := by rw [H1.out]; exact t1
  have H2 : Hid _ := S_size 0
  have z2 : (S 0).size ≤ 120 := by rw [H2.out]; exact t2
  go_enter Try.func8, Try.ntmps8
  go_wp2_with fail
  refine (order_short (S x) (S y) (S 0) w z0 z1 z2 _).mono ?_
  rintro e w21 ⟨rfl, rfl⟩
  go_wp2_with fail
  refine (refRight_is (S x) true _ (by omega) (rt_S x)).mono ?_
  rintro e w22 ⟨rfl, rfl⟩
  go_wp2_with fail
  refine (refRight_is (S y) true _ (by omega) (rt_S y)).mono ?_
  rintro e w23 ⟨rfl, rfl⟩
  go_wp2_with fail
  refine (refRight_is (S 0) true _ (by omega) (rt_S 0)).mono ?_
  rintro e w24 ⟨rfl, rfl⟩
  go_wp2_with fail
  refine (Compare_any x y _ (by omega) (by omega)).mono ?_
  rintro e w25 ⟨rfl, rfl⟩
  go_wp2_with fail
  refine (Add_any x 0 _ (by omega) (by omega)).mono ?_
  rintro e w26 ⟨rfl, h26⟩
  replace HB := HB.trans (h26.mono HB.size)
  go_wp2_with fail
  refine (Add_any y 0 _ (by omega) (by omega)).mono ?_
  rintro e w27 ⟨rfl, h27⟩
  replace HB := HB.trans (h27.mono HB.size)
  go_wp2_with fail
  refine (Compare_any (x + 0) (y + 0) _ (by omega) (by omega)).mono ?_
  rintro e w28 ⟨rfl, rfl⟩
  rw [sg_add x y 0]
  go_wp2_with fail
  refine (Mul_any x 0 _ (by omega) (by omega)).mono ?_
  rintro e w29 ⟨rfl, h29⟩
  replace HB := HB.trans (h29.mono HB.size)
  go_wp2_with fail
  refine (Mul_any y 0 _ (by omega) (by omega)).mono ?_
  rintro e w30 ⟨rfl, h30⟩
  replace HB := HB.trans (h30.mono HB.size)
  go_wp2_with fail
  refine (Compare_any (x * 0) (y * 0) _ (by omega) (by omega)).mono ?_
  rintro e w31 ⟨rfl, rfl⟩
  rw [sg_zero x y]
  go_wp2_with fail
  refine (Compare_any y 0 _ (by omega) (by omega)).mono ?_
  rintro e w32 ⟨rfl, rfl⟩
  go_wp2_with fail
  refine (Compare_any x 0 _ (by omega) (by omega)).mono ?_
  rintro e w33 ⟨rfl, rfl⟩
  have hi := HI.out
  go_wp2_with fail
  refine (awake_below _ _ HB).mono ?_
  rintro e w34 ⟨rfl, h34⟩
  go_wp2
  go_ret
  exact ⟨rfl, h34⟩

set_option maxRecDepth 100000 in
set_option maxHeartbeats 4000000 in
theorem order_b0 (x y : Nat) (w : World) (t0 : tl x ≤ 120) (t1 : tl y ≤ 120) (t2 : tl 0 ≤ 120) (lx : tl x + tl y + tl 0 ≤ 180) (hk : ¬ 0 < sg x y) (hl : 0 < sg y (0 : Int)) :
    Calls Try.prog 8 #[.string (S x), .string (S y), .string (S 0)] w fun e w' => e = .returned (.bool true) ∧ Below w.heap.size w w' := by
  have q1 := tl_add x 0
  have q2 := tl_add y 0
  have q3 := tl_mul x 0
  have q4 := tl_mul y 0
  have e0 : ((S 0).toList == [48]) = true := by rw [S_zero, toList_data]; rfl
  have HI : Hid _ := sg_iff x y
  have ls : (S x).size + (S y).size + (S 0).size ≤ 180 := by rw [S_size, S_size, S_size]; exact lx
  have HB := (Below.refl w.heap.size w).alloc (Nat.le_refl _) (.cells #[.string (S x), .string (S y), .string (S 0)] 9)
  have H0 : Hid _ := S_size x
  have z0 : (S x).size ≤ 120 := by rw [H0.out]; exact t0
  have H1 : Hid _ := S_size y
  have z1 : (S y).size ≤ 120 := by rw [H1.out]; exact t1
  have H2 : Hid _ := S_size 0
  have z2 : (S 0).size ≤ 120 := by rw [H2.out]; exact t2
  go_enter Try.func8, Try.ntmps8
  go_wp2_with fail
  refine (order_short (S x) (S y) (S 0) w z0 z1 z2 _).mono ?_
  rintro e w35 ⟨rfl, rfl⟩
  go_wp2_with fail
  refine (refRight_is (S x) true _ (by omega) (rt_S x)).mono ?_
  rintro e w36 ⟨rfl, rfl⟩
  go_wp2_with fail
  refine (refRight_is (S y) true _ (by omega) (rt_S y)).mono ?_
  rintro e w37 ⟨rfl, rfl⟩
  go_wp2_with fail
  refine (refRight_is (S 0) true _ (by omega) (rt_S 0)).mono ?_
  rintro e w38 ⟨rfl, rfl⟩
  go_wp2_with fail
  refine (Compare_any x y _ (by omega) (by omega)).mono ?_
  rintro e w39 ⟨rfl, rfl⟩
  go_wp2_with fail
  refine (Add_any x 0 _ (by omega) (by omega)).mono ?_
  rintro e w40 ⟨rfl, h40⟩
  replace HB := HB.trans (h40.mono HB.size)
  go_wp2_with fail
  refine (Add_any y 0 _ (by omega) (by omega)).mono ?_
  rintro e w41 ⟨rfl, h41⟩
  replace HB := HB.trans (h41.mono HB.size)
  go_wp2_with fail
  refine (Compare_any (x + 0) (y + 0) _ (by omega) (by omega)).mono ?_
  rintro e w42 ⟨rfl, rfl⟩
  rw [sg_add x y 0]
  go_wp2_with fail
  refine (Mul_any x 0 _ (by omega) (by omega)).mono ?_
  rintro e w43 ⟨rfl, h43⟩
  replace HB := HB.trans (h43.mono HB.size)
  go_wp2_with fail
  refine (Mul_any y 0 _ (by omega) (by omega)).mono ?_
  rintro e w44 ⟨rfl, h44⟩
  replace HB := HB.trans (h44.mono HB.size)
  go_wp2_with fail
  refine (Compare_any (x * 0) (y * 0) _ (by omega) (by omega)).mono ?_
  rintro e w45 ⟨rfl, rfl⟩
  rw [sg_zero x y]
  go_wp2_with fail
  refine (Compare_any y 0 _ (by omega) (by omega)).mono ?_
  rintro e w46 ⟨rfl, rfl⟩
  go_wp2_with fail
  refine (Compare_any x 0 _ (by omega) (by omega)).mono ?_
  rintro e w47 ⟨rfl, rfl⟩
  have hi := HI.out
  go_wp2_with fail
  refine (awake_below _ _ HB).mono ?_
  rintro e w48 ⟨rfl, h48⟩
  go_wp2
  go_ret
  exact ⟨rfl, h48⟩

set_option maxRecDepth 100000 in
set_option maxHeartbeats 4000000 in
theorem order_c0 (x y : Nat) (w : World) (t0 : tl x ≤ 120) (t1 : tl y ≤ 120) (t2 : tl 0 ≤ 120) (lx : tl x + tl y + tl 0 ≤ 180) (hk : ¬ 0 < sg x y) (hl : ¬ 0 < sg y (0 : Int)) (ho : sg x (0 : Int) ≤ 0) :
    Calls Try.prog 8 #[.string (S x), .string (S y), .string (S 0)] w fun e w' => e = .returned (.bool true) ∧ Below w.heap.size w w' := by
  have q1 := tl_add x 0
  have q2 := tl_add y 0
  have q3 := tl_mul x 0
  have q4 := tl_mul y 0
  have e0 : ((S 0).toList == [48]) = true := by rw [S_zero, toList_data]; rfl
  have HI : Hid _ := sg_iff x y
  have ls : (S x).size + (S y).size + (S 0).size ≤ 180 := by rw [S_size, S_size, S_size]; exact lx
  have HB := (Below.refl w.heap.size w).alloc (Nat.le_refl _) (.cells #[.string (S x), .string (S y), .string (S 0)] 9)
  have H0 : Hid _ := S_size x
  have z0 : (S x).size ≤ 120 := by rw [H0.out]; exact t0
  have H1 : Hid _ := S_size y
  have z1 : (S y).size ≤ 120 := by rw [H1.out]; exact t1
  have H2 : Hid _ := S_size 0
  have z2 : (S 0).size ≤ 120 := by rw [H2.out]; exact t2
  go_enter Try.func8, Try.ntmps8
  go_wp2_with fail
  refine (order_short (S x) (S y) (S 0) w z0 z1 z2 _).mono ?_
  rintro e w49 ⟨rfl, rfl⟩
  go_wp2_with fail
  refine (refRight_is (S x) true _ (by omega) (rt_S x)).mono ?_
  rintro e w50 ⟨rfl, rfl⟩
  go_wp2_with fail
  refine (refRight_is (S y) true _ (by omega) (rt_S y)).mono ?_
  rintro e w51 ⟨rfl, rfl⟩
  go_wp2_with fail
  refine (refRight_is (S 0) true _ (by omega) (rt_S 0)).mono ?_
  rintro e w52 ⟨rfl, rfl⟩
  go_wp2_with fail
  refine (Compare_any x y _ (by omega) (by omega)).mono ?_
  rintro e w53 ⟨rfl, rfl⟩
  go_wp2_with fail
  refine (Add_any x 0 _ (by omega) (by omega)).mono ?_
  rintro e w54 ⟨rfl, h54⟩
  replace HB := HB.trans (h54.mono HB.size)
  go_wp2_with fail
  refine (Add_any y 0 _ (by omega) (by omega)).mono ?_
  rintro e w55 ⟨rfl, h55⟩
  replace HB := HB.trans (h55.mono HB.size)
  go_wp2_with fail
  refine (Compare_any (x + 0) (y + 0) _ (by omega) (by omega)).mono ?_
  rintro e w56 ⟨rfl, rfl⟩
  rw [sg_add x y 0]
  go_wp2_with fail
  refine (Mul_any x 0 _ (by omega) (by omega)).mono ?_
  rintro e w57 ⟨rfl, h57⟩
  replace HB := HB.trans (h57.mono HB.size)
  go_wp2_with fail
  refine (Mul_any y 0 _ (by omega) (by omega)).mono ?_
  rintro e w58 ⟨rfl, h58⟩
  replace HB := HB.trans (h58.mono HB.size)
  go_wp2_with fail
  refine (Compare_any (x * 0) (y * 0) _ (by omega) (by omega)).mono ?_
  rintro e w59 ⟨rfl, rfl⟩
  rw [sg_zero x y]
  go_wp2_with fail
  refine (Compare_any y 0 _ (by omega) (by omega)).mono ?_
  rintro e w60 ⟨rfl, rfl⟩
  go_wp2_with fail
  refine (Compare_any x 0 _ (by omega) (by omega)).mono ?_
  rintro e w61 ⟨rfl, rfl⟩
  have hi := HI.out
  go_wp2_with fail
  refine (awake_below _ _ HB).mono ?_
  rintro e w62 ⟨rfl, h62⟩
  go_wp2
  go_ret
  exact ⟨rfl, h62⟩

set_option maxRecDepth 100000 in
set_option maxHeartbeats 4000000 in
theorem order_az (x y z : Nat) (w : World) (t0 : tl x ≤ 120) (t1 : tl y ≤ 120) (t2 : tl z ≤ 120) (lx : tl x + tl y + tl z ≤ 180) (hk : 0 < sg x y) (hz : 0 < z) :
    Calls Try.prog 8 #[.string (S x), .string (S y), .string (S z)] w fun e w' => e = .returned (.bool true) ∧ Below w.heap.size w w' := by
  have q1 := tl_add x z
  have q2 := tl_add y z
  have q3 := tl_mul x z
  have q4 := tl_mul y z
  have e0 := eq0 z hz
  have HI : Hid _ := sg_iff x y
  have ls : (S x).size + (S y).size + (S z).size ≤ 180 := by rw [S_size, S_size, S_size]; exact lx
  have HB := (Below.refl w.heap.size w).alloc (Nat.le_refl _) (.cells #[.string (S x), .string (S y), .string (S z)] 9)
  have H0 : Hid _ := S_size x
  have z0 : (S x).size ≤ 120 := by rw [H0.out]; exact t0
  have H1 : Hid _ := S_size y
  have z1 : (S y).size ≤ 120 := by rw [H1.out]; exact t1
  have H2 : Hid _ := S_size z
  have z2 : (S z).size ≤ 120 := by rw [H2.out]; exact t2
  go_enter Try.func8, Try.ntmps8
  go_wp2_with fail
  refine (order_short (S x) (S y) (S z) w z0 z1 z2 _).mono ?_
  rintro e w63 ⟨rfl, rfl⟩
  go_wp2_with fail
  refine (refRight_is (S x) true _ (by omega) (rt_S x)).mono ?_
  rintro e w64 ⟨rfl, rfl⟩
  go_wp2_with fail
  refine (refRight_is (S y) true _ (by omega) (rt_S y)).mono ?_
  rintro e w65 ⟨rfl, rfl⟩
  go_wp2_with fail
  refine (refRight_is (S z) true _ (by omega) (rt_S z)).mono ?_
  rintro e w66 ⟨rfl, rfl⟩
  go_wp2_with fail
  refine (Compare_any x y _ (by omega) (by omega)).mono ?_
  rintro e w67 ⟨rfl, rfl⟩
  go_wp2_with fail
  refine (Add_any x z _ (by omega) (by omega)).mono ?_
  rintro e w68 ⟨rfl, h68⟩
  replace HB := HB.trans (h68.mono HB.size)
  go_wp2_with fail
  refine (Add_any y z _ (by omega) (by omega)).mono ?_
  rintro e w69 ⟨rfl, h69⟩
  replace HB := HB.trans (h69.mono HB.size)
  go_wp2_with fail
  refine (Compare_any (x + z) (y + z) _ (by omega) (by omega)).mono ?_
  rintro e w70 ⟨rfl, rfl⟩
  rw [sg_add x y z]
  go_wp2_with fail
  refine (Mul_any x z _ (by omega) (by omega)).mono ?_
  rintro e w71 ⟨rfl, h71⟩
  replace HB := HB.trans (h71.mono HB.size)
  go_wp2_with fail
  refine (Mul_any y z _ (by omega) (by omega)).mono ?_
  rintro e w72 ⟨rfl, h72⟩
  replace HB := HB.trans (h72.mono HB.size)
  go_wp2_with fail
  refine (Compare_any (x * z) (y * z) _ (by omega) (by omega)).mono ?_
  rintro e w73 ⟨rfl, rfl⟩
  rw [sg_mul x y z hz]
  go_wp2_with fail
  refine (Compare_any y z _ (by omega) (by omega)).mono ?_
  rintro e w74 ⟨rfl, rfl⟩
  go_wp2_with fail
  refine (Compare_any x z _ (by omega) (by omega)).mono ?_
  rintro e w75 ⟨rfl, rfl⟩
  have hi := HI.out
  go_wp2_with fail
  refine (awake_below _ _ HB).mono ?_
  rintro e w76 ⟨rfl, h76⟩
  go_wp2
  go_ret
  exact ⟨rfl, h76⟩

set_option maxRecDepth 100000 in
set_option maxHeartbeats 4000000 in
theorem order_bz (x y z : Nat) (w : World) (t0 : tl x ≤ 120) (t1 : tl y ≤ 120) (t2 : tl z ≤ 120) (lx : tl x + tl y + tl z ≤ 180) (hk : ¬ 0 < sg x y) (hl : 0 < sg y z) (hz : 0 < z) :
    Calls Try.prog 8 #[.string (S x), .string (S y), .string (S z)] w fun e w' => e = .returned (.bool true) ∧ Below w.heap.size w w' := by
  have q1 := tl_add x z
  have q2 := tl_add y z
  have q3 := tl_mul x z
  have q4 := tl_mul y z
  have e0 := eq0 z hz
  have HI : Hid _ := sg_iff x y
  have ls : (S x).size + (S y).size + (S z).size ≤ 180 := by rw [S_size, S_size, S_size]; exact lx
  have HB := (Below.refl w.heap.size w).alloc (Nat.le_refl _) (.cells #[.string (S x), .string (S y), .string (S z)] 9)
  have H0 : Hid _ := S_size x
  have z0 : (S x).size ≤ 120 := by rw [H0.out]; exact t0
  have H1 : Hid _ := S_size y
  have z1 : (S y).size ≤ 120 := by rw [H1.out]; exact t1
  have H2 : Hid _ := S_size z
  have z2 : (S z).size ≤ 120 := by rw [H2.out]; exact t2
  go_enter Try.func8, Try.ntmps8
  go_wp2_with fail
  refine (order_short (S x) (S y) (S z) w z0 z1 z2 _).mono ?_
  rintro e w77 ⟨rfl, rfl⟩
  go_wp2_with fail
  refine (refRight_is (S x) true _ (by omega) (rt_S x)).mono ?_
  rintro e w78 ⟨rfl, rfl⟩
  go_wp2_with fail
  refine (refRight_is (S y) true _ (by omega) (rt_S y)).mono ?_
  rintro e w79 ⟨rfl, rfl⟩
  go_wp2_with fail
  refine (refRight_is (S z) true _ (by omega) (rt_S z)).mono ?_
  rintro e w80 ⟨rfl, rfl⟩
  go_wp2_with fail
  refine (Compare_any x y _ (by omega) (by omega)).mono ?_
  rintro e w81 ⟨rfl, rfl⟩
  go_wp2_with fail
  refine (Add_any x z _ (by omega) (by omega)).mono ?_
  rintro e w82 ⟨rfl, h82⟩
  replace HB := HB.trans (h82.mono HB.size)
  go_wp2_with fail
  refine (Add_any y z _ (by omega) (by omega)).mono ?_
  rintro e w83 ⟨rfl, h83⟩
  replace HB := HB.trans (h83.mono HB.size)
  go_wp2_with fail
  refine (Compare_any (x + z) (y + z) _ (by omega) (by omega)).mono ?_
  rintro e w84 ⟨rfl, rfl⟩
  rw [sg_add x y z]
  go_wp2_with fail
  refine (Mul_any x z _ (by omega) (by omega)).mono ?_
  rintro e w85 ⟨rfl, h85⟩
  replace HB := HB.trans (h85.mono HB.size)
  go_wp2_with fail
  refine (Mul_any y z _ (by omega) (by omega)).mono ?_
  rintro e w86 ⟨rfl, h86⟩
  replace HB := HB.trans (h86.mono HB.size)
  go_wp2_with fail
  refine (Compare_any (x * z) (y * z) _ (by omega) (by omega)).mono ?_
  rintro e w87 ⟨rfl, rfl⟩
  rw [sg_mul x y z hz]
  go_wp2_with fail
  refine (Compare_any y z _ (by omega) (by omega)).mono ?_
  rintro e w88 ⟨rfl, rfl⟩
  go_wp2_with fail
  refine (Compare_any x z _ (by omega) (by omega)).mono ?_
  rintro e w89 ⟨rfl, rfl⟩
  have hi := HI.out
  go_wp2_with fail
  refine (awake_below _ _ HB).mono ?_
  rintro e w90 ⟨rfl, h90⟩
  go_wp2
  go_ret
  exact ⟨rfl, h90⟩

set_option maxRecDepth 100000 in
set_option maxHeartbeats 4000000 in
theorem order_cz (x y z : Nat) (w : World) (t0 : tl x ≤ 120) (t1 : tl y ≤ 120) (t2 : tl z ≤ 120) (lx : tl x + tl y + tl z ≤ 180) (hk : ¬ 0 < sg x y) (hl : ¬ 0 < sg y z) (ho : sg x z ≤ 0) (hz : 0 < z) :
    Calls Try.prog 8 #[.string (S x), .string (S y), .string (S z)] w fun e w' => e = .returned (.bool true) ∧ Below w.heap.size w w' := by
  have q1 := tl_add x z
  have q2 := tl_add y z
  have q3 := tl_mul x z
  have q4 := tl_mul y z
  have e0 := eq0 z hz
  have HI : Hid _ := sg_iff x y
  have ls : (S x).size + (S y).size + (S z).size ≤ 180 := by rw [S_size, S_size, S_size]; exact lx
  have HB := (Below.refl w.heap.size w).alloc (Nat.le_refl _) (.cells #[.string (S x), .string (S y), .string (S z)] 9)
  have H0 : Hid _ := S_size x
  have z0 : (S x).size ≤ 120 := by rw [H0.out]; exact t0
  have H1 : Hid _ := S_size y
  have z1 : (S y).size ≤ 120 := by rw [H1.out]; exact t1
  have H2 : Hid _ := S_size z
  have z2 : (S z).size ≤ 120 := by rw [H2.out]; exact t2
  go_enter Try.func8, Try.ntmps8
  go_wp2_with fail
  refine (order_short (S x) (S y) (S z) w z0 z1 z2 _).mono ?_
  rintro e w91 ⟨rfl, rfl⟩
  go_wp2_with fail
  refine (refRight_is (S x) true _ (by omega) (rt_S x)).mono ?_
  rintro e w92 ⟨rfl, rfl⟩
  go_wp2_with fail
  refine (refRight_is (S y) true _ (by omega) (rt_S y)).mono ?_
  rintro e w93 ⟨rfl, rfl⟩
  go_wp2_with fail
  refine (refRight_is (S z) true _ (by omega) (rt_S z)).mono ?_
  rintro e w94 ⟨rfl, rfl⟩
  go_wp2_with fail
  refine (Compare_any x y _ (by omega) (by omega)).mono ?_
  rintro e w95 ⟨rfl, rfl⟩
  go_wp2_with fail
  refine (Add_any x z _ (by omega) (by omega)).mono ?_
  rintro e w96 ⟨rfl, h96⟩
  replace HB := HB.trans (h96.mono HB.size)
  go_wp2_with fail
  refine (Add_any y z _ (by omega) (by omega)).mono ?_
  rintro e w97 ⟨rfl, h97⟩
  replace HB := HB.trans (h97.mono HB.size)
  go_wp2_with fail
  refine (Compare_any (x + z) (y + z) _ (by omega) (by omega)).mono ?_
  rintro e w98 ⟨rfl, rfl⟩
  rw [sg_add x y z]
  go_wp2_with fail
  refine (Mul_any x z _ (by omega) (by omega)).mono ?_
  rintro e w99 ⟨rfl, h99⟩
  replace HB := HB.trans (h99.mono HB.size)
  go_wp2_with fail
  refine (Mul_any y z _ (by omega) (by omega)).mono ?_
  rintro e w100 ⟨rfl, h100⟩
  replace HB := HB.trans (h100.mono HB.size)
  go_wp2_with fail
  refine (Compare_any (x * z) (y * z) _ (by omega) (by omega)).mono ?_
  rintro e w101 ⟨rfl, rfl⟩
  rw [sg_mul x y z hz]
  go_wp2_with fail
  refine (Compare_any y z _ (by omega) (by omega)).mono ?_
  rintro e w102 ⟨rfl, rfl⟩
  go_wp2_with fail
  refine (Compare_any x z _ (by omega) (by omega)).mono ?_
  rintro e w103 ⟨rfl, rfl⟩
  have hi := HI.out
  go_wp2_with fail
  refine (awake_below _ _ HB).mono ?_
  rintro e w104 ⟨rfl, h104⟩
  go_wp2
  go_ret
  exact ⟨rfl, h104⟩

theorem order_any (a0 a1 a2 : ByteArray) (w : World) :
    Calls Try.prog 8 #[.string a0, .string a1, .string a2] w fun e w' => e = .returned (.bool true) ∧ Below w.heap.size w w' := by
  by_cases l0 : 120 < a0.size
  · exact order_long0 a0 a1 a2 w  l0
  by_cases l1 : 120 < a1.size
  · exact order_long1 a0 a1 a2 w  l1
  by_cases l2 : 120 < a2.size
  · exact order_long2 a0 a1 a2 w  l2
  by_cases lx : 180 < a0.size + a1.size + a2.size
  · exact order_extra a0 a1 a2 w (by omega) (by omega) (by omega) lx
  by_cases r0 : rt a0.data.toList = true
  rotate_left
  · exact order_bad0 a0 a1 a2 w (by omega) (by omega) (by omega) lx  (by simpa using r0)
  by_cases r1 : rt a1.data.toList = true
  rotate_left
  · exact order_bad1 a0 a1 a2 w (by omega) (by omega) (by omega) lx r0 (by simpa using r1)
  by_cases r2 : rt a2.data.toList = true
  rotate_left
  · exact order_bad2 a0 a1 a2 w (by omega) (by omega) (by omega) lx r0 r1 (by simpa using r2)
  have e0 := S_of r0
  have b0 : tl (dv a0.data.toList) = a0.size := by rw [← S_size, ← e0]
  have e1 := S_of r1
  have b1 : tl (dv a1.data.toList) = a1.size := by rw [← S_size, ← e1]
  have e2 := S_of r2
  have b2 : tl (dv a2.data.toList) = a2.size := by rw [← S_size, ← e2]
  rw [e0, e1, e2]
  generalize dv a0.data.toList = x0 at *
  generalize dv a1.data.toList = x1 at *
  generalize dv a2.data.toList = x2 at *
  rcases Nat.eq_zero_or_pos x2 with cz | cz
  · subst cz
    by_cases hk : 0 < sg x0 x1
    · exact order_a0 x0 x1 w (by omega) (by omega) (by omega) (by omega) hk
    · by_cases hl : 0 < sg x1 (0 : Int)
      · exact order_b0 x0 x1 w (by omega) (by omega) (by omega) (by omega) hk hl
      · refine order_c0 x0 x1 w (by omega) (by omega) (by omega) (by omega) hk hl ?_
        have k1 : ¬ x1 < x0 := fun c => hk (sg_pos.2 c)
        have k2 : ¬ 0 < x1 := fun c => hl (by have := sg_pos.2 c; simpa using this)
        have k3 : ¬ 0 < sg x0 (0 : Int) := fun c => by have := sg_pos (x := x0) (y := 0) |>.1 (by simpa using c); omega
        omega
  · skip
    by_cases hk : 0 < sg x0 x1
    · exact order_az x0 x1 x2 w (by omega) (by omega) (by omega) (by omega) hk cz
    · by_cases hl : 0 < sg x1 x2
      · exact order_bz x0 x1 x2 w (by omega) (by omega) (by omega) (by omega) hk hl cz
      · refine order_cz x0 x1 x2 w (by omega) (by omega) (by omega) (by omega) hk hl ?_ cz
        have k1 : ¬ x1 < x0 := fun c => hk (sg_pos.2 c)
        have k2 : ¬ x2 < x1 := fun c => hl (by have := sg_pos.2 c; simpa using this)
        have k3 : ¬ 0 < sg x0 x2 := fun c => by have := sg_pos (x := x0) (y := x2) |>.1 (by simpa using c); omega
        omega

end Go.Proofs.Ythilcooanhinpaa
