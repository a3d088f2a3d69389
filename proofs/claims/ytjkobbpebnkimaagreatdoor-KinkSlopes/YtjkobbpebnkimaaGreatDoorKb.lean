/-
  ONE NUMBER, BENT: what a call of kink's bent gives, operation by operation. Conditions: sizes; the library's table of powers of ten stands where it was laid.
-/
import Derived.Test.YtjkobbpebnkimaaGreatDoorKi
import Derived.Test.YtjkobbpebnkimaaGreatDoorKq
import Derived.Test.YtjkobbpebnkimaaGreatDoorKr
import Derived.Test.YtjkobbpebnkimaaGreatDoorKs
namespace Go.Proofs.YtjkobbpebnkimaaGreatDoor.Tn
set_option maxRecDepth 100000
open Go.RowKit Nm
set_option linter.unusedVariables false

theorem lm1 : R (-1) = ⟨#[45, 49]⟩ := by decide +kernel
set_option maxHeartbeats 2000000 in
theorem bent_relu_m (x y : ByteArray) (w : World) (hS : Calls Tryz.prog 74 #[.string x] w fun e w' => e = .returned (.tuple #[.int .i64 (-1), .int .i64 0]) ∧ Below w.heap.size w w') :
    Calls Tryz.prog 54 #[.int .i64 0, .string x] w fun e w' => e = .returned (.string ⟨#[48]⟩) ∧ Below w.heap.size w w' := by
  go_enter Tryz.func54, Tryz.ntmps54
  go_wp2_with fail
  refine hS.mono ?_
  rintro e w1 ⟨rfl, h1⟩
  have H1 : Hid _ := h1
  clear h1 hS
  go_wp2
  go_ret
  exact ⟨rfl, H1.out⟩
set_option maxHeartbeats 2000000 in
theorem bent_relu_z (x y : ByteArray) (w : World) (hS : Calls Tryz.prog 74 #[.string x] w fun e w' => e = .returned (.tuple #[.int .i64 (0), .int .i64 0]) ∧ Below w.heap.size w w') :
    Calls Tryz.prog 54 #[.int .i64 0, .string x] w fun e w' => e = .returned (.string x) ∧ Below w.heap.size w w' := by
  go_enter Tryz.func54, Tryz.ntmps54
  go_wp2_with fail
  refine hS.mono ?_
  rintro e w1 ⟨rfl, h1⟩
  have H1 : Hid _ := h1
  clear h1 hS
  go_wp2
  go_ret
  exact ⟨rfl, H1.out⟩
set_option maxHeartbeats 2000000 in
theorem bent_relu_p (x y : ByteArray) (w : World) (hS : Calls Tryz.prog 74 #[.string x] w fun e w' => e = .returned (.tuple #[.int .i64 (1), .int .i64 0]) ∧ Below w.heap.size w w') :
    Calls Tryz.prog 54 #[.int .i64 0, .string x] w fun e w' => e = .returned (.string x) ∧ Below w.heap.size w w' := by
  go_enter Tryz.func54, Tryz.ntmps54
  go_wp2_with fail
  refine hS.mono ?_
  rintro e w1 ⟨rfl, h1⟩
  have H1 : Hid _ := h1
  clear h1 hS
  go_wp2
  go_ret
  exact ⟨rfl, H1.out⟩
set_option maxHeartbeats 2000000 in
theorem bent_abs_m (x y : ByteArray) (w : World) (hS : Calls Tryz.prog 74 #[.string x] w fun e w' => e = .returned (.tuple #[.int .i64 (-1), .int .i64 0]) ∧ Below w.heap.size w w') (hN : ∀ v, Calls Tryz.prog 76 #[.string x] v fun e w' => e = .returned (.tuple #[.string y, .int .i64 0]) ∧ Below v.heap.size v w') :
    Calls Tryz.prog 54 #[.int .i64 1, .string x] w fun e w' => e = .returned (.string y) ∧ Below w.heap.size w w' := by
  go_enter Tryz.func54, Tryz.ntmps54
  go_wp2_with fail
  refine hS.mono ?_
  rintro e w1 ⟨rfl, h1⟩
  have H1 : Hid _ := h1
  clear h1 hS
  go_wp2_with fail
  refine (hN _).mono ?_
  rintro e w2 ⟨rfl, h2⟩
  replace H1 : Hid _ := bl_trans H1.out h2
  clear h2 hN
  go_wp2
  go_ret
  exact ⟨rfl, H1.out⟩
set_option maxHeartbeats 2000000 in
theorem bent_abs_z (x y : ByteArray) (w : World) (hS : Calls Tryz.prog 74 #[.string x] w fun e w' => e = .returned (.tuple #[.int .i64 (0), .int .i64 0]) ∧ Below w.heap.size w w') :
    Calls Tryz.prog 54 #[.int .i64 1, .string x] w fun e w' => e = .returned (.string x) ∧ Below w.heap.size w w' := by
  go_enter Tryz.func54, Tryz.ntmps54
  go_wp2_with fail
  refine hS.mono ?_
  rintro e w1 ⟨rfl, h1⟩
  have H1 : Hid _ := h1
  clear h1 hS
  go_wp2
  go_ret
  exact ⟨rfl, H1.out⟩
set_option maxHeartbeats 2000000 in
theorem bent_abs_p (x y : ByteArray) (w : World) (hS : Calls Tryz.prog 74 #[.string x] w fun e w' => e = .returned (.tuple #[.int .i64 (1), .int .i64 0]) ∧ Below w.heap.size w w') :
    Calls Tryz.prog 54 #[.int .i64 1, .string x] w fun e w' => e = .returned (.string x) ∧ Below w.heap.size w w' := by
  go_enter Tryz.func54, Tryz.ntmps54
  go_wp2_with fail
  refine hS.mono ?_
  rintro e w1 ⟨rfl, h1⟩
  have H1 : Hid _ := h1
  clear h1 hS
  go_wp2
  go_ret
  exact ⟨rfl, H1.out⟩
set_option maxHeartbeats 2000000 in
theorem bent_step_m (x y : ByteArray) (w : World) (hS : Calls Tryz.prog 74 #[.string x] w fun e w' => e = .returned (.tuple #[.int .i64 (-1), .int .i64 0]) ∧ Below w.heap.size w w') :
    Calls Tryz.prog 54 #[.int .i64 2, .string x] w fun e w' => e = .returned (.string ⟨#[48]⟩) ∧ Below w.heap.size w w' := by
  go_enter Tryz.func54, Tryz.ntmps54
  go_wp2_with fail
  refine hS.mono ?_
  rintro e w1 ⟨rfl, h1⟩
  have H1 : Hid _ := h1
  clear h1 hS
  go_wp2_with fail
  refine (itoa_0 _).mono ?_
  rintro e w2 ⟨rfl, h2⟩
  replace H1 : Hid _ := bl_trans H1.out h2
  clear h2
  go_wp2
  go_ret
  exact ⟨rfl, H1.out⟩
set_option maxHeartbeats 2000000 in
theorem bent_step_z (x y : ByteArray) (w : World) (hS : Calls Tryz.prog 74 #[.string x] w fun e w' => e = .returned (.tuple #[.int .i64 (0), .int .i64 0]) ∧ Below w.heap.size w w') :
    Calls Tryz.prog 54 #[.int .i64 2, .string x] w fun e w' => e = .returned (.string ⟨#[48]⟩) ∧ Below w.heap.size w w' := by
  go_enter Tryz.func54, Tryz.ntmps54
  go_wp2_with fail
  refine hS.mono ?_
  rintro e w1 ⟨rfl, h1⟩
  have H1 : Hid _ := h1
  clear h1 hS
  go_wp2_with fail
  refine (itoa_0 _).mono ?_
  rintro e w2 ⟨rfl, h2⟩
  replace H1 : Hid _ := bl_trans H1.out h2
  clear h2
  go_wp2
  go_ret
  exact ⟨rfl, H1.out⟩
set_option maxHeartbeats 2000000 in
theorem bent_step_p (x y : ByteArray) (w : World) (hS : Calls Tryz.prog 74 #[.string x] w fun e w' => e = .returned (.tuple #[.int .i64 (1), .int .i64 0]) ∧ Below w.heap.size w w') :
    Calls Tryz.prog 54 #[.int .i64 2, .string x] w fun e w' => e = .returned (.string ⟨#[49]⟩) ∧ Below w.heap.size w w' := by
  go_enter Tryz.func54, Tryz.ntmps54
  go_wp2_with fail
  refine hS.mono ?_
  rintro e w1 ⟨rfl, h1⟩
  have H1 : Hid _ := h1
  clear h1 hS
  go_wp2_with fail
  refine (itoa_1 _).mono ?_
  rintro e w2 ⟨rfl, h2⟩
  replace H1 : Hid _ := bl_trans H1.out h2
  clear h2
  go_wp2
  go_ret
  exact ⟨rfl, H1.out⟩
set_option maxHeartbeats 2000000 in
theorem bent_sign_m (x y : ByteArray) (w : World) (hS : Calls Tryz.prog 74 #[.string x] w fun e w' => e = .returned (.tuple #[.int .i64 (-1), .int .i64 0]) ∧ Below w.heap.size w w') (ht : w.cell? ⟨4, 0, none⟩ = some (.int .u64 1)) :
    Calls Tryz.prog 54 #[.int .i64 3, .string x] w fun e w' => e = .returned (.string ⟨#[45, 49]⟩) ∧ Below w.heap.size w w' := by
  have HT : Hid _ := ht
  clear ht
  go_enter Tryz.func54, Tryz.ntmps54
  go_wp2_with fail
  refine hS.mono ?_
  rintro e w1 ⟨rfl, h1⟩
  have H1 : Hid _ := h1
  clear h1 hS
  go_wp2_with fail
  refine (itoa_m _ (cell_below H1.out HT.out)).mono ?_
  rintro e w2 ⟨rfl, h2⟩
  replace H1 : Hid _ := bl_trans H1.out h2
  clear h2
  go_wp2
  go_ret
  exact ⟨rfl, H1.out⟩
set_option maxHeartbeats 2000000 in
theorem bent_sign_z (x y : ByteArray) (w : World) (hS : Calls Tryz.prog 74 #[.string x] w fun e w' => e = .returned (.tuple #[.int .i64 (0), .int .i64 0]) ∧ Below w.heap.size w w') :
    Calls Tryz.prog 54 #[.int .i64 3, .string x] w fun e w' => e = .returned (.string ⟨#[48]⟩) ∧ Below w.heap.size w w' := by
  go_enter Tryz.func54, Tryz.ntmps54
  go_wp2_with fail
  refine hS.mono ?_
  rintro e w1 ⟨rfl, h1⟩
  have H1 : Hid _ := h1
  clear h1 hS
  go_wp2_with fail
  refine (itoa_0 _).mono ?_
  rintro e w2 ⟨rfl, h2⟩
  replace H1 : Hid _ := bl_trans H1.out h2
  clear h2
  go_wp2
  go_ret
  exact ⟨rfl, H1.out⟩
set_option maxHeartbeats 2000000 in
theorem bent_sign_p (x y : ByteArray) (w : World) (hS : Calls Tryz.prog 74 #[.string x] w fun e w' => e = .returned (.tuple #[.int .i64 (1), .int .i64 0]) ∧ Below w.heap.size w w') :
    Calls Tryz.prog 54 #[.int .i64 3, .string x] w fun e w' => e = .returned (.string ⟨#[49]⟩) ∧ Below w.heap.size w w' := by
  go_enter Tryz.func54, Tryz.ntmps54
  go_wp2_with fail
  refine hS.mono ?_
  rintro e w1 ⟨rfl, h1⟩
  have H1 : Hid _ := h1
  clear h1 hS
  go_wp2_with fail
  refine (itoa_1 _).mono ?_
  rintro e w2 ⟨rfl, h2⟩
  replace H1 : Hid _ := bl_trans H1.out h2
  clear h2
  go_wp2
  go_ret
  exact ⟨rfl, H1.out⟩
theorem bent_relu (q : Rat) (w : World) (hq : (R q).size ≤ 50000) (ht : w.cell? ⟨4, 0, none⟩ = some (.int .u64 1)) :
    Calls Tryz.prog 54 #[.int .i64 0, .string (R q)] w fun e w' => e = .returned (.string (R (kRelu q))) ∧ Below w.heap.size w w' := by
  have hS := Sign_R q w hq
  rcases rat_cases q with h | h | h
  · rw [sign_lt h] at hS
    have e : kRelu q = 0 := by unfold kRelu; grind
    rw [e, show R 0 = ⟨#[48]⟩ by decide +kernel]
    exact bent_relu_m (R q) ⟨#[]⟩ w hS
  · rw [sign_eq h] at hS
    have e : kRelu q = q := by unfold kRelu; grind
    rw [e]
    exact bent_relu_z (R q) ⟨#[]⟩ w hS
  · rw [sign_gt h] at hS
    have e : kRelu q = q := by unfold kRelu; grind
    rw [e]
    exact bent_relu_p (R q) ⟨#[]⟩ w hS
theorem bent_abs (q : Rat) (w : World) (hq : (R q).size ≤ 50000) (ht : w.cell? ⟨4, 0, none⟩ = some (.int .u64 1)) :
    Calls Tryz.prog 54 #[.int .i64 1, .string (R q)] w fun e w' => e = .returned (.string (R (kAbs q))) ∧ Below w.heap.size w w' := by
  have hS := Sign_R q w hq
  rcases rat_cases q with h | h | h
  · rw [sign_lt h] at hS
    have e : kAbs q = -q := by unfold kAbs; grind
    rw [e]
    exact bent_abs_m (R q) (R (-q)) w hS (fun v => Neg_R q v hq)
  · rw [sign_eq h] at hS
    have e : kAbs q = q := by unfold kAbs; grind
    rw [e]
    exact bent_abs_z (R q) ⟨#[]⟩ w hS
  · rw [sign_gt h] at hS
    have e : kAbs q = q := by unfold kAbs; grind
    rw [e]
    exact bent_abs_p (R q) ⟨#[]⟩ w hS
theorem bent_step (q : Rat) (w : World) (hq : (R q).size ≤ 50000) (ht : w.cell? ⟨4, 0, none⟩ = some (.int .u64 1)) :
    Calls Tryz.prog 54 #[.int .i64 2, .string (R q)] w fun e w' => e = .returned (.string (R (kStep q))) ∧ Below w.heap.size w w' := by
  have hS := Sign_R q w hq
  rcases rat_cases q with h | h | h
  · rw [sign_lt h] at hS
    have e : kStep q = 0 := by unfold kStep; grind
    rw [e, show R 0 = ⟨#[48]⟩ by decide +kernel]
    exact bent_step_m (R q) ⟨#[]⟩ w hS
  · rw [sign_eq h] at hS
    have e : kStep q = 0 := by unfold kStep; grind
    rw [e, show R 0 = ⟨#[48]⟩ by decide +kernel]
    exact bent_step_z (R q) ⟨#[]⟩ w hS
  · rw [sign_gt h] at hS
    have e : kStep q = 1 := by unfold kStep; grind
    rw [e, show R 1 = ⟨#[49]⟩ by decide +kernel]
    exact bent_step_p (R q) ⟨#[]⟩ w hS
theorem bent_sign (q : Rat) (w : World) (hq : (R q).size ≤ 50000) (ht : w.cell? ⟨4, 0, none⟩ = some (.int .u64 1)) :
    Calls Tryz.prog 54 #[.int .i64 3, .string (R q)] w fun e w' => e = .returned (.string (R (kSign q))) ∧ Below w.heap.size w w' := by
  have hS := Sign_R q w hq
  rcases rat_cases q with h | h | h
  · rw [sign_lt h] at hS
    have e : kSign q = -1 := by unfold kSign; grind
    rw [e, lm1]
    exact bent_sign_m (R q) ⟨#[]⟩ w hS ht
  · rw [sign_eq h] at hS
    have e : kSign q = 0 := by unfold kSign; grind
    rw [e, show R 0 = ⟨#[48]⟩ by decide +kernel]
    exact bent_sign_z (R q) ⟨#[]⟩ w hS
  · rw [sign_gt h] at hS
    have e : kSign q = 1 := by unfold kSign; grind
    rw [e, show R 1 = ⟨#[49]⟩ by decide +kernel]
    exact bent_sign_p (R q) ⟨#[]⟩ w hS
end Go.Proofs.YtjkobbpebnkimaaGreatDoor.Tn
