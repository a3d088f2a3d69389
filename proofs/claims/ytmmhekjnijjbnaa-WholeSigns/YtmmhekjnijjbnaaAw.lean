/-
  WHAT A CALL OF short AND OF awake GIVES. Conditions: sizes.
-/
import Derived.Test.YtmmhekjnijjbnaaRefW
namespace Go.Proofs.Ytmmhekjnijjbnaa
open Go.RowKit Nm
set_option linter.unusedVariables false

/-- short enough, and a whole number -/
def ok (s : ByteArray) : Bool := decide (s.size ≤ 100) && wh s

set_option maxHeartbeats 400000 in
theorem shortw_yes (b n cap : Nat) (ss : Nat → ByteArray) (w : World) (hn : n ≤ 100) (hc : ∀ i, i < n → w.cell? ⟨b, i, none⟩ = some (.string (ss i))) (hs : ∀ i, i < n → ok (ss i) = true) :
    Calls Try.prog 16 #[.slice (some ⟨b, 0, none⟩) n cap] w fun e w' => e = .returned (.bool true) ∧ w' = w := by
  have HC : Hid _ := hc
  have HS : Hid _ := hs
  clear hc hs
  go_enter Try.func16, Try.ntmps16
  go_wp2_with fail
  go_loop [7] (fun i => ∃ k : Nat, k ≤ n ∧ i = .int .i64 (k : Nat)) (fun i => n - (intOf i).toNat)
  case atStart => exact ⟨0, by omega, rfl⟩
  case round =>
    obtain ⟨k, hk, rfl⟩ := hrel
    by_cases hlt : k < n
    · have c1 := HC.out k hlt
      have c2 := HS.out k hlt
      have c3 : (ss k).size ≤ 100 := by unfold ok at c2; simp at c2; exact c2.1
      have C4 : Hid (wh (ss k) = true) := by unfold Hid; unfold ok at c2; simp at c2; exact c2.2
      clear c2
      generalize ss k = t at *
      go_wp2_with fail
      refine (refRightw_is t true _ (by omega) C4.out).mono ?_
      rintro e w1 ⟨rfl, rfl⟩
      go_wp2
      go_round
      case rel => exact ⟨k + 1, by omega, by go_num⟩
      case measure => simp [intOf]; omega
    · go_wp2
      go_ret
      exact ⟨rfl, rfl⟩

set_option maxHeartbeats 400000 in
theorem shortw_no (b n cap j : Nat) (ss : Nat → ByteArray) (w : World) (hn : n ≤ 100) (hc : ∀ i, i < n → w.cell? ⟨b, i, none⟩ = some (.string (ss i))) (hj : j < n) (hs : ok (ss j) = false) :
    Calls Try.prog 16 #[.slice (some ⟨b, 0, none⟩) n cap] w fun e w' => e = .returned (.bool false) ∧ w' = w := by
  have HC : Hid _ := hc
  have HS : Hid _ := hs
  clear hc hs
  go_enter Try.func16, Try.ntmps16
  go_wp2_with fail
  go_loop [7] (fun i => ∃ k : Nat, k ≤ j ∧ i = .int .i64 (k : Nat)) (fun i => n - (intOf i).toNat)
  case atStart => exact ⟨0, by omega, rfl⟩
  case round =>
    obtain ⟨k, hk, rfl⟩ := hrel
    have c1 := HC.out k (by omega)
    by_cases c2 : 100 < (ss k).size
    · generalize ss k = t at *
      go_wp2
      go_ret
      exact ⟨rfl, rfl⟩
    · by_cases c4 : wh (ss k) = true
      · have c3 : k ≠ j := fun e => by
          have := HS.out
          rw [← e] at this
          unfold ok at this
          rw [c4, decide_eq_true (by omega)] at this
          cases this
        have C4 : Hid _ := c4
        clear c4
        generalize ss k = t at *
        go_wp2_with fail
        refine (refRightw_is t true _ (by omega) C4.out).mono ?_
        rintro e w1 ⟨rfl, rfl⟩
        go_wp2
        go_round
        case rel => exact ⟨k + 1, by omega, by go_num⟩
        case measure => simp [intOf]; omega
      · have C4 : Hid (wh (ss k) = false) := by unfold Hid; simpa using c4
        clear c4
        generalize ss k = t at *
        go_wp2_with fail
        refine (refRightw_is t false _ (by omega) C4.out).mono ?_
        rintro e w1 ⟨rfl, rfl⟩
        go_wp2
        go_ret
        exact ⟨rfl, rfl⟩

theorem W_lit {l : List UInt8} {n : Nat} (h : rt l = true) (e : dv l = n) : W n = ⟨l.toArray⟩ := by
  rw [W_nn (by omega), Int.natAbs_natCast]; exact S_lit h e
theorem W_nlit {l : List UInt8} {n : Nat} (h : rt l = true) (e : dv l = n) (h0 : 0 < n) : W (-(n : Int)) = ⟨(45 :: l).toArray⟩ := by
  rw [W_ng (by omega), Int.natAbs_neg, Int.natAbs_natCast, S_lit h e]
  apply ba_ext; rw [ma_data]

theorem tl_small {n : Nat} (h : n < 10) : tl n ≤ 1 := tl_le (by simpa using h) (by omega)

theorem sub_lit (w : World) : Calls Try.prog 14 #[.string ⟨#[51]⟩, .string ⟨#[53]⟩] w fun e w' => e = .returned (.tuple #[.string ⟨#[45, 50]⟩, .int .i64 0]) ∧ Below w.heap.size w w' := by
  have h := Subw_W 3 5 w (by have := tl_small (n := 3) (by omega); exact Nat.le_trans this (by omega)) (by have := tl_small (n := 5) (by omega); exact Nat.le_trans this (by omega))
  rw [show W 3 = ⟨#[51]⟩ from W_lit (l := [51]) (n := 3) (by decide) (by decide), show W 5 = ⟨#[53]⟩ from W_lit (l := [53]) (n := 5) (by decide) (by decide), show W (3 - 5) = ⟨#[45, 50]⟩ from W_nlit (l := [50]) (n := 2) (by decide) (by decide) (by omega)] at h
  exact h
theorem mul_litw (w : World) : Calls Try.prog 15 #[.string ⟨#[45, 50]⟩, .string ⟨#[45, 51]⟩] w fun e w' => e = .returned (.tuple #[.string ⟨#[54]⟩, .int .i64 0]) ∧ Below w.heap.size w w' := by
  have h := Mulw_W (-2) (-3) w (by have := tl_small (n := 2) (by omega); exact Nat.le_trans this (by omega)) (by have := tl_small (n := 3) (by omega); exact Nat.le_trans this (by omega))
  rw [show W (-2) = ⟨#[45, 50]⟩ from W_nlit (l := [50]) (n := 2) (by decide) (by decide) (by omega), show W (-3) = ⟨#[45, 51]⟩ from W_nlit (l := [51]) (n := 3) (by decide) (by decide) (by omega), show W (-2 * -3) = ⟨#[54]⟩ from W_lit (l := [54]) (n := 6) (by decide) (by decide)] at h
  exact h

theorem wh7 : wh ⟨#[45, 55]⟩ = true := by
  rw [← show W (-7) = ⟨#[45, 55]⟩ from W_nlit (l := [55]) (n := 7) (by decide) (by decide) (by omega)]; exact wh_W _
theorem wh0 : wh ⟨#[45, 48]⟩ = false := by
  rw [wh_sz]
  rw [show ((⟨#[45, 48]⟩ : ByteArray).toList == [45, 48]) = true from by rw [toList_data]; rfl]
  simp

set_option maxRecDepth 100000 in
set_option maxHeartbeats 1000000 in
theorem awakew_any (w : World) : Calls Try.prog 12 #[] w fun e w' => e = .returned (.bool true) ∧ Below w.heap.size w w' := by
  have HA : Hid _ := wh7
  have HC : Hid _ := wh0
  go_enter Try.func12, Try.ntmps12
  go_wp2_with fail
  refine (sub_lit _).mono ?_
  rintro e w1 ⟨rfl, b1⟩
  go_wp2_with fail
  refine (mul_litw _).mono ?_
  rintro e w2 ⟨rfl, b2⟩
  go_wp2_with fail
  refine (Rightw_is _ _ (by simp [ByteArray.size])).mono ?_
  rintro e w3 ⟨rfl, b3⟩
  rw [HA.out]
  go_wp2_with fail
  refine (Rightw_is _ _ (by simp [ByteArray.size])).mono ?_
  rintro e w4 ⟨rfl, b4⟩
  rw [HC.out]
  go_wp2
  go_ret
  exact ⟨rfl, bl_trans (bl_trans (bl_trans b1 b2) b3) b4⟩

theorem awakew_below (w0 w : World) (h : Below w0.heap.size w0 w) : Calls Try.prog 12 #[] w fun e w' => e = .returned (.bool true) ∧ Below w0.heap.size w0 w' := by
  refine (awakew_any w).mono ?_
  rintro e w' ⟨rfl, hb⟩
  exact ⟨rfl, bl_trans h hb⟩

theorem tw_add (x y : Int) : tl (x + y).natAbs ≤ tl x.natAbs + tl y.natAbs :=
  Nat.le_trans (tl_mono (Int.natAbs_add_le x y)) (tl_add _ _)
theorem tw_sub (x y : Int) : tl (x - y).natAbs ≤ tl x.natAbs + tl y.natAbs :=
  Nat.le_trans (tl_mono (Int.natAbs_sub_le x y)) (tl_add _ _)
theorem tw_mul (x y : Int) : tl (x * y).natAbs ≤ tl x.natAbs + tl y.natAbs := by rw [Int.natAbs_mul]; exact tl_mul _ _
theorem tw_neg (x : Int) : tl (-x).natAbs = tl x.natAbs := by rw [Int.natAbs_neg]
theorem tw_of {z : Int} (h : (W z).size ≤ 100) : tl z.natAbs ≤ 100 := Nat.le_trans (tl_W z) h
end Go.Proofs.Ytmmhekjnijjbnaa
