/-
  CALLS WITH FIXED NUMBERS, and how signs and order go with sums and products. Conditions: sizes.
-/
import Derived.Test.YtmmhekjnijjbnaaAw
namespace Go.Proofs.Ytmmhekjnijjbnaa
open Go.RowKit Nm
set_option linter.unusedVariables false

theorem ok_W {z : Int} (h : (W z).size ≤ 100) : ok (W z) = true := by unfold ok; rw [wh_W, decide_eq_true h]; rfl
theorem ok_of {s : ByteArray} (h : ok s = true) : ∃ z, s = W z ∧ (W z).size ≤ 100 := by
  unfold ok at h
  simp only [Bool.and_eq_true, decide_eq_true_eq] at h
  obtain ⟨z, rfl⟩ := W_of h.2
  exact ⟨z, rfl, h.1⟩
theorem tl1 : tl (1 : Int).natAbs ≤ 5000 := Nat.le_trans (tl_small (n := 1) (by omega)) (by omega)
theorem tlm : tl (-1 : Int).natAbs ≤ 5000 := Nat.le_trans (tl_small (n := 1) (by omega)) (by omega)
theorem tl0 : tl (0 : Int).natAbs ≤ 5000 := Nat.le_trans (tl_small (n := 0) (by omega)) (by omega)
theorem tl2 : tl (2 : Int).natAbs ≤ 5000 := Nat.le_trans (tl_small (n := 2) (by omega)) (by omega)
theorem W0 : W 0 = ⟨#[48]⟩ := W_lit (l := [48]) (n := 0) (by decide) (by decide)
theorem W1 : W 1 = ⟨#[49]⟩ := W_lit (l := [49]) (n := 1) (by decide) (by decide)
theorem W2 : W 2 = ⟨#[50]⟩ := W_lit (l := [50]) (n := 2) (by decide) (by decide)
theorem Wm : W (-1) = ⟨#[45, 49]⟩ := W_nlit (l := [49]) (n := 1) (by decide) (by decide) (by omega)
theorem is0W : ((W 0).toList == [48]) = true := by rw [W_zero]; exact is00
theorem mul_1 (x : Int) (w : World) (hx : tl x.natAbs ≤ 5000) : Calls Try.prog 15 #[.string (W x), .string ⟨#[49]⟩] w fun e w' => e = .returned (.tuple #[.string (W x), .int .i64 0]) ∧ Below w.heap.size w w' := by
  have h := Mulw_W x 1 w hx tl1
  rw [W1, Int.mul_one] at h; exact h
theorem mul_m (x : Int) (w : World) (hx : tl x.natAbs ≤ 5000) : Calls Try.prog 15 #[.string ⟨#[45, 49]⟩, .string (W x)] w fun e w' => e = .returned (.tuple #[.string (W (-x)), .int .i64 0]) ∧ Below w.heap.size w w' := by
  have h := Mulw_W (-1) x w tlm hx
  rw [Wm, Int.neg_mul, Int.one_mul] at h; exact h
theorem mul_0 (x : Int) (w : World) (hx : tl x.natAbs ≤ 5000) : Calls Try.prog 15 #[.string (W x), .string ⟨#[48]⟩] w fun e w' => e = .returned (.tuple #[.string (W 0), .int .i64 0]) ∧ Below w.heap.size w w' := by
  have h := Mulw_W x 0 w hx tl0
  rw [Int.mul_zero] at h
  have e : (Value.string (W 0)) = .string ⟨#[48]⟩ := by rw [W0]
  rw [show #[Value.string (W x), Value.string (W 0)] = #[Value.string (W x), Value.string ⟨#[48]⟩] from by rw [e]] at h
  exact h
theorem mul_2 (x : Int) (w : World) (hx : tl x.natAbs ≤ 5000) : Calls Try.prog 15 #[.string (W x), .string ⟨#[50]⟩] w fun e w' => e = .returned (.tuple #[.string (W (x * 2)), .int .i64 0]) ∧ Below w.heap.size w w' := by
  have h := Mulw_W x 2 w hx tl2
  rw [W2] at h; exact h
theorem add_0 (x : Int) (w : World) (hx : tl x.natAbs ≤ 5000) : Calls Try.prog 13 #[.string ⟨#[48]⟩, .string (W x)] w fun e w' => e = .returned (.tuple #[.string (W x), .int .i64 0]) ∧ Below w.heap.size w w' := by
  have h := Addw_W 0 x w tl0 hx
  rw [W0, Int.zero_add] at h; exact h
theorem right_W (z : Int) (w : World) (h : tl z.natAbs ≤ 5000) : Calls Try.prog 23 #[.string (W z)] w fun e w' => e = .returned (.bool true) ∧ Below w.heap.size w w' := by
  have := Rightw_is (W z) w (by have := W_size z; omega)
  rw [wh_W] at this; exact this
theorem sgw_add (x y z : Int) : sg (x + z) (y + z) = sg x y := by
  unfold sg
  have h1 : x + z < y + z ↔ x < y := by omega
  have h2 : y + z < x + z ↔ y < x := by omega
  simp only [h1, h2]
theorem sgw_neg (x y : Int) : sg (-x) (-y) = -sg x y := by
  rcases Int.lt_trichotomy x y with c | c | c
  · rw [sg_lt c, sg_gt (by omega)]; rfl
  · subst c; rw [sg_eq rfl, sg_eq rfl]; rfl
  · rw [sg_gt c, sg_lt (by omega)]
theorem sgw_turn (x y : Int) : sg x y = -sg y x := by
  rcases Int.lt_trichotomy x y with c | c | c
  · rw [sg_lt c, sg_gt c]
  · subst c; rw [sg_eq rfl]; rfl
  · rw [sg_gt c, sg_lt c]; rfl
theorem sgw_sign (x y : Int) : (x + -y).sign = sg x y := by
  rcases Int.lt_trichotomy x y with c | c | c
  · rw [sg_lt c, Int.sign_eq_neg_one_of_neg (by omega)]
  · subst c; rw [sg_eq rfl, show x + -x = 0 from by omega]; rfl
  · rw [sg_gt c, Int.sign_eq_one_of_pos (by omega)]
theorem sgw_pos {x y : Int} : 0 < sg x y ↔ y < x := by
  rcases Int.lt_trichotomy x y with c | c | c
  · rw [sg_lt c]; omega
  · subst c; rw [sg_eq rfl]; omega
  · rw [sg_gt c]; omega
theorem sn_add {x y : Int} (h : x.sign = y.sign) : (x + y).sign = x.sign := by
  rcases Int.lt_trichotomy x 0 with a | a | a
  · rw [Int.sign_eq_neg_one_of_neg a] at h ⊢
    have b : y < 0 := Int.sign_eq_neg_one_iff_neg.1 h.symm
    exact Int.sign_eq_neg_one_of_neg (by omega)
  · subst a
    have b : y = 0 := Int.sign_eq_zero_iff_zero.1 (by rw [← h]; rfl)
    subst b; rfl
  · rw [Int.sign_eq_one_of_pos a] at h ⊢
    have b : 0 < y := Int.sign_eq_one_iff_pos.1 h.symm
    exact Int.sign_eq_one_of_pos (by omega)
theorem sqw (x y : Int) : x * x + y * y - x * y - x * y = (x - y) * (x - y) := by
  rw [Int.sub_mul, Int.mul_sub, Int.mul_sub, Int.mul_comm y x]; omega
theorem sqw_pos {x y : Int} (h : x ≠ y) : ((x - y) * (x - y)).sign = 1 := by
  rw [Int.sign_mul]
  rcases Int.lt_or_lt_of_ne h with c | c
  · rw [Int.sign_eq_neg_one_of_neg (by omega)]; rfl
  · rw [Int.sign_eq_one_of_pos (by omega)]; rfl

end Go.Proofs.Ytmmhekjnijjbnaa
