/-
  TEXTS THAT ARE NO NATURALS ARE REFUSED; THE LAW NatSums: every call gives true; nothing that was there has turned. No conditions.
-/
import Derived.Test.YthilcooanhinpaaRefOps
namespace Go.Proofs.Ythilcooanhinpaa
open Go.RowKit Nm
set_option linter.unusedVariables false

set_option maxHeartbeats 400000 in
theorem Add_bad (a b : ByteArray) (w : World) (ha : a.size ≤ 1000) (hb : b.size ≤ 1000) (h : rt a.data.toList = false ∨ rt b.data.toList = false) :
    Calls Try.prog 16 #[.string a, .string b] w fun e w' => e = .returned (.tuple #[.string ⟨#[]⟩, .int .i64 2]) ∧ w' = w := by
  have H : Hid _ := h
  clear h
  go_enter Try.func16, Try.ntmps16
  go_wp2_with fail
  refine (bothRight_no a b _ (by omega) (by omega) H.out).mono ?_
  rintro e w1 ⟨rfl, rfl⟩
  go_wp2
  go_ret2
  exact ⟨rfl, rfl⟩

set_option maxHeartbeats 400000 in
theorem Mul_bad (a b : ByteArray) (w : World) (ha : a.size ≤ 1000) (hb : b.size ≤ 1000) (h : rt a.data.toList = false ∨ rt b.data.toList = false) :
    Calls Try.prog 17 #[.string a, .string b] w fun e w' => e = .returned (.tuple #[.string ⟨#[]⟩, .int .i64 2]) ∧ w' = w := by
  have H : Hid _ := h
  clear h
  go_enter Try.func17, Try.ntmps17
  go_wp2_with fail
  refine (bothRight_no a b _ (by omega) (by omega) H.out).mono ?_
  rintro e w1 ⟨rfl, rfl⟩
  go_wp2
  go_ret2
  exact ⟨rfl, rfl⟩

set_option maxHeartbeats 400000 in
theorem Sub_bad (a b : ByteArray) (w : World) (ha : a.size ≤ 1000) (hb : b.size ≤ 1000) (h : rt a.data.toList = false ∨ rt b.data.toList = false) :
    Calls Try.prog 18 #[.string a, .string b] w fun e w' => e = .returned (.tuple #[.string ⟨#[]⟩, .int .i64 2]) ∧ w' = w := by
  have H : Hid _ := h
  clear h
  go_enter Try.func18, Try.ntmps18
  go_wp2_with fail
  refine (bothRight_no a b _ (by omega) (by omega) H.out).mono ?_
  rintro e w1 ⟨rfl, rfl⟩
  go_wp2
  go_ret2
  exact ⟨rfl, rfl⟩

set_option maxHeartbeats 400000 in
theorem Compare_bad (a b : ByteArray) (w : World) (ha : a.size ≤ 1000) (hb : b.size ≤ 1000) (h : rt a.data.toList = false ∨ rt b.data.toList = false) :
    Calls Try.prog 19 #[.string a, .string b] w fun e w' => e = .returned (.tuple #[.int .i64 0, .int .i64 2]) ∧ w' = w := by
  have H : Hid _ := h
  clear h
  go_enter Try.func19, Try.ntmps19
  go_wp2_with fail
  refine (bothRight_no a b _ (by omega) (by omega) H.out).mono ?_
  rintro e w1 ⟨rfl, rfl⟩
  go_wp2
  go_ret2
  exact ⟨rfl, rfl⟩

set_option maxHeartbeats 400000 in
theorem Div_bad (a b : ByteArray) (w : World) (ha : a.size ≤ 1000) (hb : b.size ≤ 1000) (h : rt a.data.toList = false ∨ rt b.data.toList = false) :
    Calls Try.prog 26 #[.string a, .string b] w fun e w' => e = .returned (.tuple #[.string ⟨#[]⟩, .string ⟨#[]⟩, .int .i64 2]) ∧ w' = w := by
  have H : Hid _ := h
  clear h
  go_enter Try.func26, Try.ntmps26
  go_wp2_with fail
  refine (bothRight_no a b _ (by omega) (by omega) H.out).mono ?_
  rintro e w1 ⟨rfl, rfl⟩
  go_wp2
  go_ret3
  exact ⟨rfl, rfl⟩

set_option maxHeartbeats 400000 in
theorem Gcd_bad (a b : ByteArray) (w : World) (ha : a.size ≤ 1000) (hb : b.size ≤ 1000) (h : rt a.data.toList = false ∨ rt b.data.toList = false) :
    Calls Try.prog 27 #[.string a, .string b] w fun e w' => e = .returned (.tuple #[.string ⟨#[]⟩, .int .i64 2]) ∧ w' = w := by
  have H : Hid _ := h
  clear h
  go_enter Try.func27, Try.ntmps27
  go_wp2_with fail
  refine (bothRight_no a b _ (by omega) (by omega) H.out).mono ?_
  rintro e w1 ⟨rfl, rfl⟩
  go_wp2
  go_ret2
  exact ⟨rfl, rfl⟩

set_option maxRecDepth 100000 in
set_option maxHeartbeats 1000000 in
theorem sums_long0 (a0 a1 : ByteArray) (w : World) (h : 120 < a0.size) :
    Calls Try.prog 3 #[.string a0, .string a1] w fun e w' => e = .returned (.bool true) ∧ Below w.heap.size w w' := by
  have HB := (Below.refl w.heap.size w).alloc (Nat.le_refl _) (.cells #[.string a0, .string a1] 9)
  have HS : Hid (∀ cap, Calls Try.prog 14 #[.slice (some ⟨w.heap.size, 0, none⟩) 2 cap] (w.alloc (.cells #[.string a0, .string a1] 9)) fun e w' => e = .returned (.bool false) ∧ w' = w.alloc (.cells #[.string a0, .string a1] 9)) := fun cap => short_no w.heap.size 2 cap 0 _ _ (by omega) (two_cells w a0 a1) (by omega) (by simpa using h)
  clear h
  go_enter Try.func3, Try.ntmps3
  go_wp2_with fail
  refine (HS.out _).mono ?_
  rintro e w1 ⟨rfl, rfl⟩
  go_wp2_with fail
  refine (awake_below _ _ HB).mono ?_
  rintro e w2 ⟨rfl, h2⟩
  go_wp2
  go_ret
  exact ⟨rfl, h2⟩

set_option maxRecDepth 100000 in
set_option maxHeartbeats 1000000 in
theorem sums_long1 (a0 a1 : ByteArray) (w : World) (h : 120 < a1.size) :
    Calls Try.prog 3 #[.string a0, .string a1] w fun e w' => e = .returned (.bool true) ∧ Below w.heap.size w w' := by
  have HB := (Below.refl w.heap.size w).alloc (Nat.le_refl _) (.cells #[.string a0, .string a1] 9)
  have HS : Hid (∀ cap, Calls Try.prog 14 #[.slice (some ⟨w.heap.size, 0, none⟩) 2 cap] (w.alloc (.cells #[.string a0, .string a1] 9)) fun e w' => e = .returned (.bool false) ∧ w' = w.alloc (.cells #[.string a0, .string a1] 9)) := fun cap => short_no w.heap.size 2 cap 1 _ _ (by omega) (two_cells w a0 a1) (by omega) (by simpa using h)
  clear h
  go_enter Try.func3, Try.ntmps3
  go_wp2_with fail
  refine (HS.out _).mono ?_
  rintro e w3 ⟨rfl, rfl⟩
  go_wp2_with fail
  refine (awake_below _ _ HB).mono ?_
  rintro e w4 ⟨rfl, h4⟩
  go_wp2
  go_ret
  exact ⟨rfl, h4⟩

theorem sums_short (a0 a1 : ByteArray) (w : World) (l0 : a0.size ≤ 120) (l1 : a1.size ≤ 120) (cap : Nat) : Calls Try.prog 14 #[.slice (some ⟨w.heap.size, 0, none⟩) 2 cap] (w.alloc (.cells #[.string a0, .string a1] 9)) fun e w' => e = .returned (.bool true) ∧ w' = w.alloc (.cells #[.string a0, .string a1] 9) := by
  refine short_yes w.heap.size 2 cap _ _ (by omega) (two_cells w a0 a1) ?_
  intro i hi
  (repeat' split) <;> omega

set_option maxRecDepth 100000 in
set_option maxHeartbeats 1000000 in
theorem sums_bad0 (a0 a1 : ByteArray) (w : World) (l0 : a0.size ≤ 120) (l1 : a1.size ≤ 120) (h : rt a0.data.toList = false) :
    Calls Try.prog 3 #[.string a0, .string a1] w fun e w' => e = .returned (.bool true) ∧ Below w.heap.size w w' := by
  have HB := (Below.refl w.heap.size w).alloc (Nat.le_refl _) (.cells #[.string a0, .string a1] 9)
  have HH : Hid (rt a0.data.toList = false ∨ rt a1.data.toList = false) := Or.inl h
  have R0 : Hid _ := h
  clear h
  go_enter Try.func3, Try.ntmps3
  go_wp2_with fail
  refine (sums_short a0 a1 w l0 l1 _).mono ?_
  rintro e w5 ⟨rfl, rfl⟩
  go_wp2_with fail
  refine (Add_bad a0 a1 _ (by omega) (by omega) HH.out).mono ?_
  rintro e w6 ⟨rfl, rfl⟩
  go_wp2_with fail
  refine (Mul_bad a0 a1 _ (by omega) (by omega) HH.out).mono ?_
  rintro e w7 ⟨rfl, rfl⟩
  go_wp2_with fail
  refine (Sub_bad a0 a1 _ (by omega) (by omega) HH.out).mono ?_
  rintro e w8 ⟨rfl, rfl⟩
  go_wp2_with fail
  refine (Compare_bad a0 a1 _ (by omega) (by omega) HH.out).mono ?_
  rintro e w9 ⟨rfl, rfl⟩
  go_wp2_with fail
  refine (refRight_is a0 false _ (by omega) R0.out).mono ?_
  rintro e w10 ⟨rfl, rfl⟩
  go_wp2_with fail
  refine (awake_below _ _ HB).mono ?_
  rintro e w11 ⟨rfl, h11⟩
  go_wp2
  go_ret
  exact ⟨rfl, h11⟩

set_option maxRecDepth 100000 in
set_option maxHeartbeats 1000000 in
theorem sums_bad1 (a0 a1 : ByteArray) (w : World) (l0 : a0.size ≤ 120) (l1 : a1.size ≤ 120) (r : rt a0.data.toList = true) (h : rt a1.data.toList = false) :
    Calls Try.prog 3 #[.string a0, .string a1] w fun e w' => e = .returned (.bool true) ∧ Below w.heap.size w w' := by
  have HB := (Below.refl w.heap.size w).alloc (Nat.le_refl _) (.cells #[.string a0, .string a1] 9)
  have HH : Hid (rt a0.data.toList = false ∨ rt a1.data.toList = false) := Or.inr h
  have R0 : Hid _ := r
  have R1 : Hid _ := h
  clear h r
  go_enter Try.func3, Try.ntmps3
  go_wp2_with fail
  refine (sums_short a0 a1 w l0 l1 _).mono ?_
  rintro e w12 ⟨rfl, rfl⟩
  go_wp2_with fail
  refine (Add_bad a0 a1 _ (by omega) (by omega) HH.out).mono ?_
  rintro e w13 ⟨rfl, rfl⟩
  go_wp2_with fail
  refine (Mul_bad a0 a1 _ (by omega) (by omega) HH.out).mono ?_
  rintro e w14 ⟨rfl, rfl⟩
  go_wp2_with fail
  refine (Sub_bad a0 a1 _ (by omega) (by omega) HH.out).mono ?_
  rintro e w15 ⟨rfl, rfl⟩
  go_wp2_with fail
  refine (Compare_bad a0 a1 _ (by omega) (by omega) HH.out).mono ?_
  rintro e w16 ⟨rfl, rfl⟩
  go_wp2_with fail
  refine (refRight_is a0 true _ (by omega) R0.out).mono ?_
  rintro e w17 ⟨rfl, rfl⟩
  go_wp2_with fail
  refine (refRight_is a1 false _ (by omega) R1.out).mono ?_
  rintro e w18 ⟨rfl, rfl⟩
  go_wp2_with fail
  refine (awake_below _ _ HB).mono ?_
  rintro e w19 ⟨rfl, h19⟩
  go_wp2
  go_ret
  exact ⟨rfl, h19⟩

set_option maxRecDepth 100000 in
set_option maxHeartbeats 2000000 in
theorem sums_less (x y : Nat) (w : World) (t0 : tl x ≤ 120) (t1 : tl y ≤ 120) (hxy : x < y) :
    Calls Try.prog 3 #[.string (S x), .string (S y)] w fun e w' => e = .returned (.bool true) ∧ Below w.heap.size w w' := by
  have HB := (Below.refl w.heap.size w).alloc (Nat.le_refl _) (.cells #[.string (S x), .string (S y)] 9)
  have H0 : Hid _ := S_size x
  have z0 : (S x).size ≤ 120 := by rw [H0.out]; exact t0
  have H1 : Hid _ := S_size y
  have z1 : (S y).size ≤ 120 := by rw [H1.out]; exact t1
  have hsg : sg x y < 0 := by rw [sg_lt (by omega)]; omega
  go_enter Try.func3, Try.ntmps3
  go_wp2_with fail
  refine (sums_short (S x) (S y) w z0 z1 _).mono ?_
  rintro e w20 ⟨rfl, rfl⟩
  go_wp2_with fail
  refine (Add_any x y _ (by omega) (by omega)).mono ?_
  rintro e w21 ⟨rfl, h21⟩
  replace HB := HB.trans (h21.mono HB.size)
  go_wp2_with fail
  refine (Mul_any x y _ (by omega) (by omega)).mono ?_
  rintro e w22 ⟨rfl, h22⟩
  replace HB := HB.trans (h22.mono HB.size)
  go_wp2_with fail
  refine (Sub_no x y _ (by omega) (by omega) hxy).mono ?_
  rintro e w23 ⟨rfl, h23⟩
  replace HB := HB.trans (h23.mono HB.size)
  go_wp2_with fail
  refine (Compare_any x y _ (by omega) (by omega)).mono ?_
  rintro e w24 ⟨rfl, rfl⟩
  go_wp2_with fail
  refine (refRight_is (S x) true _ (by omega) (rt_S x)).mono ?_
  rintro e w25 ⟨rfl, rfl⟩
  go_wp2_with fail
  refine (refRight_is (S y) true _ (by omega) (rt_S y)).mono ?_
  rintro e w26 ⟨rfl, rfl⟩
  go_wp2_with fail
  refine (refAdd_any x y _ (by omega) (by omega)).mono ?_
  rintro e w27 ⟨rfl, h27⟩
  replace HB := HB.trans (h27.mono HB.size)
  go_wp2_with fail
  refine (refMul_any x y _ (by omega) (by omega)).mono ?_
  rintro e w28 ⟨rfl, h28⟩
  replace HB := HB.trans (h28.mono HB.size)
  go_wp2_with fail
  refine (refCompare_any x y _ (by omega) (by omega)).mono ?_
  rintro e w29 ⟨rfl, rfl⟩
  go_wp2_with fail
  refine (awake_below _ _ HB).mono ?_
  rintro e w30 ⟨rfl, h30⟩
  go_wp2
  go_ret
  exact ⟨rfl, h30⟩

set_option maxRecDepth 100000 in
set_option maxHeartbeats 2000000 in
theorem sums_more (x y : Nat) (w : World) (t0 : tl x ≤ 120) (t1 : tl y ≤ 120) (hxy : y ≤ x) :
    Calls Try.prog 3 #[.string (S x), .string (S y)] w fun e w' => e = .returned (.bool true) ∧ Below w.heap.size w w' := by
  have HB := (Below.refl w.heap.size w).alloc (Nat.le_refl _) (.cells #[.string (S x), .string (S y)] 9)
  have H0 : Hid _ := S_size x
  have z0 : (S x).size ≤ 120 := by rw [H0.out]; exact t0
  have H1 : Hid _ := S_size y
  have z1 : (S y).size ≤ 120 := by rw [H1.out]; exact t1
  have hsg : ¬ sg x y < 0 := sg_nonneg (by omega)
  go_enter Try.func3, Try.ntmps3
  go_wp2_with fail
  refine (sums_short (S x) (S y) w z0 z1 _).mono ?_
  rintro e w31 ⟨rfl, rfl⟩
  go_wp2_with fail
  refine (Add_any x y _ (by omega) (by omega)).mono ?_
  rintro e w32 ⟨rfl, h32⟩
  replace HB := HB.trans (h32.mono HB.size)
  go_wp2_with fail
  refine (Mul_any x y _ (by omega) (by omega)).mono ?_
  rintro e w33 ⟨rfl, h33⟩
  replace HB := HB.trans (h33.mono HB.size)
  go_wp2_with fail
  refine (Sub_yes x y _ (by omega) (by omega) hxy).mono ?_
  rintro e w34 ⟨rfl, h34⟩
  replace HB := HB.trans (h34.mono HB.size)
  go_wp2_with fail
  refine (Compare_any x y _ (by omega) (by omega)).mono ?_
  rintro e w35 ⟨rfl, rfl⟩
  go_wp2_with fail
  refine (refRight_is (S x) true _ (by omega) (rt_S x)).mono ?_
  rintro e w36 ⟨rfl, rfl⟩
  go_wp2_with fail
  refine (refRight_is (S y) true _ (by omega) (rt_S y)).mono ?_
  rintro e w37 ⟨rfl, rfl⟩
  go_wp2_with fail
  refine (refAdd_any x y _ (by omega) (by omega)).mono ?_
  rintro e w38 ⟨rfl, h38⟩
  replace HB := HB.trans (h38.mono HB.size)
  go_wp2_with fail
  refine (refMul_any x y _ (by omega) (by omega)).mono ?_
  rintro e w39 ⟨rfl, h39⟩
  replace HB := HB.trans (h39.mono HB.size)
  go_wp2_with fail
  refine (refCompare_any x y _ (by omega) (by omega)).mono ?_
  rintro e w40 ⟨rfl, rfl⟩
  go_wp2_with fail
  refine (refSub_any x y _ (by omega) (by omega) hxy).mono ?_
  rintro e w41 ⟨rfl, h41⟩
  replace HB := HB.trans (h41.mono HB.size)
  go_wp2_with fail
  refine (right_is (S x) true _ (by omega) (rt_S x)).mono ?_
  rintro e w42 ⟨rfl, rfl⟩
  go_wp2_with fail
  refine (awake_below _ _ HB).mono ?_
  rintro e w43 ⟨rfl, h43⟩
  go_wp2
  go_ret
  exact ⟨rfl, h43⟩

theorem sums_any (a0 a1 : ByteArray) (w : World) :
    Calls Try.prog 3 #[.string a0, .string a1] w fun e w' => e = .returned (.bool true) ∧ Below w.heap.size w w' := by
  by_cases l0 : 120 < a0.size
  · exact sums_long0 a0 a1 w  l0
  by_cases l1 : 120 < a1.size
  · exact sums_long1 a0 a1 w  l1
  by_cases r0 : rt a0.data.toList = true
  rotate_left
  · exact sums_bad0 a0 a1 w (by omega) (by omega)   (by simpa using r0)
  by_cases r1 : rt a1.data.toList = true
  rotate_left
  · exact sums_bad1 a0 a1 w (by omega) (by omega)  r0 (by simpa using r1)
  have e0 := S_of r0
  have b0 : tl (dv a0.data.toList) = a0.size := by rw [← S_size, ← e0]
  have e1 := S_of r1
  have b1 : tl (dv a1.data.toList) = a1.size := by rw [← S_size, ← e1]
  rw [e0, e1]
  generalize dv a0.data.toList = x0 at *
  generalize dv a1.data.toList = x1 at *
  rcases Nat.lt_or_ge x0 x1 with c | c
  · exact sums_less x0 x1 w (by omega) (by omega) c
  · exact sums_more x0 x1 w (by omega) (by omega) c
end Go.Proofs.Ythilcooanhinpaa
