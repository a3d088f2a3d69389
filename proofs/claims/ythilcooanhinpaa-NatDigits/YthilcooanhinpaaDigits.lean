/-
  THE LAW NatDigits: every call gives true; nothing that was there has turned. No conditions.
-/
import Derived.Test.YthilcooanhinpaaPlain
namespace Go.Proofs.Ythilcooanhinpaa
open Go.RowKit Nm
set_option linter.unusedVariables false

set_option maxRecDepth 100000 in
set_option maxHeartbeats 1000000 in
theorem digits_long0 (a0 : ByteArray) (w : World)  (h : 100 < a0.size) :
    Calls Try.prog 9 #[.string a0] w fun e w' => e = .returned (.bool true) ∧ Below w.heap.size w w' := by
  have HB := Below.refl w.heap.size w
  go_enter Try.func9, Try.ntmps9
  go_wp2_with fail
  refine (awake_below _ _ HB).mono ?_
  rintro e w1 ⟨rfl, h1⟩
  go_wp2
  go_ret
  exact ⟨rfl, h1⟩

set_option maxRecDepth 100000 in
set_option maxHeartbeats 1000000 in
theorem digits_bad0 (a0 : ByteArray) (w : World) (l0 : a0.size ≤ 100)  (h : rt a0.data.toList = false) :
    Calls Try.prog 9 #[.string a0] w fun e w' => e = .returned (.bool true) ∧ Below w.heap.size w w' := by
  have HB := Below.refl w.heap.size w
  have RH : Hid _ := h
  clear h
  go_enter Try.func9, Try.ntmps9
  go_wp2_with fail
  refine (refRight_is a0 false _ (by omega) RH.out).mono ?_
  rintro e w2 ⟨rfl, rfl⟩
  go_wp2_with fail
  refine (awake_below _ _ HB).mono ?_
  rintro e w3 ⟨rfl, h3⟩
  go_wp2
  go_ret
  exact ⟨rfl, h3⟩

theorem S10 : S 10 = ⟨#[49, 48]⟩ := S_lit (l := [49, 48]) (by decide) (by decide)
theorem tl10 : tl 10 ≤ 2 := tl_le (by decide) (by decide)
theorem mul10 (x : Nat) (w : World) (hx : tl x ≤ 9000) : Calls Try.prog 17 #[.string (S x), .string ⟨#[49, 48]⟩] w fun e w' => e = .returned (.tuple #[.string (S (x * 10)), .int .i64 0]) ∧ Below w.heap.size w w' := by
  have t := tl10
  have h := Mul_any x 10 w (by omega) (by omega)
  rw [S10] at h
  exact h
theorem div10 (x : Nat) (w : World) (hx : tl x ≤ 9000) : Calls Try.prog 26 #[.string (S x), .string ⟨#[49, 48]⟩] w fun e w' => e = .returned (.tuple #[.string (S (x / 10)), .string (S (x % 10)), .int .i64 0]) ∧ Below w.heap.size w w' := by
  have h := Div_short x 10 w (by omega) (by omega) (by omega)
  rw [S10] at h
  exact h

theorem app_data (s : ByteArray) : (s ++ ⟨#[48]⟩).data.toList = s.data.toList ++ [48] := by simp [ByteArray.data_append]

theorem last_of (x : Nat) : ((S x).extract ((S x).size - 1) (S x).size) = S (x % 10) := by
  have hl := len_data (S x)
  have hp := tl_pos x
  have hz := S_size x
  have hne : (S x).data.toList ≠ [] := fun e => by rw [e] at hl; simp at hl; omega
  obtain ⟨m, c, hc⟩ : ∃ m c, (S x).data.toList = m ++ [c] := ⟨_, _, (List.dropLast_concat_getLast hne).symm⟩
  have hd := rt_dg (rt_S x)
  have hv := dv_S x
  rw [hc] at hd hv hl
  rw [dv_snoc] at hv
  have hm := hd c (by simp)
  rw [List.length_append, List.length_singleton] at hl
  have he : ((S x).extract ((S x).size - 1) (S x).size).data.toList = [c] := by
    rw [Lib.extract_data, hc, ← hl, Nat.add_sub_cancel, List.drop_left]
    simp
  have hr : rt [c] = true := (rt_iff _).2 ⟨fun d hd => by simp at hd; subst hd; exact hm, Or.inl rfl⟩
  have h1 : dv [c] = x % 10 := by
    have : dv [c] = c.toNat - 48 := by simp [dv]
    rw [this]; omega
  rw [S_of (s := (S x).extract ((S x).size - 1) (S x).size) (by rw [he]; exact hr), he, h1]

theorem plain10 (x : Nat) (w : World) (hx : tl x ≤ 1000) : Calls Try.prog 30 #[.string (S x ++ ⟨#[48]⟩)] w fun e w' => e = .returned (.string (S (x * 10))) ∧ w' = w := by
  have h := plain_any (S x ++ ⟨#[48]⟩) w (by rw [← len_data, app_data, List.length_append, len_data, S_size]; simp; omega) (by rw [app_data]; intro c hc; rcases List.mem_append.1 hc with k | k; exact rt_dg (rt_S x) c k; simp at k; subst k; decide)
  rw [app_data, dv_snoc, dv_S, show (48 : UInt8).toNat - 48 = 0 by decide, Nat.add_zero] at h
  exact h

set_option maxRecDepth 100000 in
set_option maxHeartbeats 400000 in
theorem digits_good (x : Nat) (w : World) (t0 : tl x ≤ 100) :
    Calls Try.prog 9 #[.string (S x)] w fun e w' => e = .returned (.bool true) ∧ Below w.heap.size w w' := by
  have q1 := tl_mul x 10
  have q0 := tl10
  have q2 : tl (x / 10) ≤ tl x := tl_mono (by omega)
  have q3 : tl (x % 10) ≤ tl x := tl_mono (by omega)
  have q4 := tl_mul (x / 10) 10
  have HE : Hid (x / 10 * 10 + x % 10 = x) := by show _ = x; omega
  have hp : 0 < (S x).size := by rw [S_size]; exact tl_pos x
  have HB := Below.refl w.heap.size w
  have H0 : Hid _ := S_size x
  have z0 : (S x).size ≤ 100 := by rw [H0.out]; exact t0
  go_enter Try.func9, Try.ntmps9
  go_wp2_with fail
  refine (refRight_is (S x) true _ (by omega) (rt_S x)).mono ?_
  rintro e w4 ⟨rfl, rfl⟩
  go_wp2_with fail
  refine (mul10 x _ (by omega)).mono ?_
  rintro e w5 ⟨rfl, h5⟩
  replace HB := HB.trans (h5.mono HB.size)
  go_wp2_with fail
  refine (div10 x _ (by omega)).mono ?_
  rintro e w6 ⟨rfl, h6⟩
  replace HB := HB.trans (h6.mono HB.size)
  go_wp2_with fail
  refine (mul10 (x / 10) _ (by omega)).mono ?_
  rintro e w7 ⟨rfl, h7⟩
  replace HB := HB.trans (h7.mono HB.size)
  go_wp2_with fail
  refine (Add_any (x / 10 * 10) (x % 10) _ (by omega) (by omega)).mono ?_
  rintro e w8 ⟨rfl, h8⟩
  replace HB := HB.trans (h8.mono HB.size)
  rw [HE.out]
  have hlast := last_of x
  go_wp2_with fail
  refine (plain10 x _ (by omega)).mono ?_
  rintro e w9 ⟨rfl, rfl⟩
  go_wp2_with fail
  refine (awake_below _ _ HB).mono ?_
  rintro e w10 ⟨rfl, h10⟩
  go_wp2
  go_ret
  exact ⟨rfl, h10⟩

theorem digits_any (a0 : ByteArray) (w : World) :
    Calls Try.prog 9 #[.string a0] w fun e w' => e = .returned (.bool true) ∧ Below w.heap.size w w' := by
  by_cases l0 : 100 < a0.size
  · exact digits_long0 a0 w  l0
  by_cases r0 : rt a0.data.toList = true
  rotate_left
  · exact digits_bad0 a0 w (by omega)   (by simpa using r0)
  have e0 := S_of r0
  have b0 : tl (dv a0.data.toList) = a0.size := by rw [← S_size, ← e0]
  rw [e0]
  generalize dv a0.data.toList = x0 at *
  exact digits_good x0 w (by omega)
end Go.Proofs.Ythilcooanhinpaa
