/-
  THE FIXED ANSWER: a call of awake gives true. No conditions. And what a call of short gives.
-/
import Derived.Test.YthilcooanhinpaaQuot
namespace Go.Proofs.Ythilcooanhinpaa
open Go.RowKit Nm
set_option linter.unusedVariables false

theorem S_lit {l : List UInt8} {n : Nat} (h : rt l = true) (e : dv l = n) : S n = ⟨l.toArray⟩ := by
  unfold S; rw [tx_of h e]

theorem mul_lit (w : World) : Calls Try.prog 17 #[.string ⟨#[57, 57, 57, 57, 57, 57, 57, 57, 57, 57, 57]⟩, .string ⟨#[57, 57, 57, 57, 57, 57, 57, 57, 57, 57, 57]⟩] w fun e w' => e = .returned (.tuple #[.string ⟨#[57, 57, 57, 57, 57, 57, 57, 57, 57, 57, 56, 48, 48, 48, 48, 48, 48, 48, 48, 48, 48, 49]⟩, .int .i64 0]) ∧ Below w.heap.size w w' := by
  have e1 : S 99999999999 = ⟨#[57, 57, 57, 57, 57, 57, 57, 57, 57, 57, 57]⟩ := S_lit (l := [57, 57, 57, 57, 57, 57, 57, 57, 57, 57, 57]) (by decide) (by decide)
  have e2 : S (99999999999 * 99999999999) = ⟨#[57, 57, 57, 57, 57, 57, 57, 57, 57, 57, 56, 48, 48, 48, 48, 48, 48, 48, 48, 48, 48, 49]⟩ := S_lit (l := [57, 57, 57, 57, 57, 57, 57, 57, 57, 57, 56, 48, 48, 48, 48, 48, 48, 48, 48, 48, 48, 49]) (by decide) (by decide)
  have ht : tl 99999999999 ≤ 11 := tl_le (by decide) (by decide)
  have h := Mul_any 99999999999 99999999999 w (by omega) (by omega)
  rw [e1, e2] at h
  exact h

theorem div_lit (w : World) : Calls Try.prog 26 #[.string ⟨#[49, 48, 48]⟩, .string ⟨#[55]⟩] w fun e w' => e = .returned (.tuple #[.string ⟨#[49, 52]⟩, .string ⟨#[50]⟩, .int .i64 0]) ∧ Below w.heap.size w w' := by
  have e1 : S 100 = ⟨#[49, 48, 48]⟩ := S_lit (l := [49, 48, 48]) (by decide) (by decide)
  have e2 : S 7 = ⟨#[55]⟩ := S_lit (l := [55]) (by decide) (by decide)
  have e3 : S (100 / 7) = ⟨#[49, 52]⟩ := S_lit (l := [49, 52]) (by decide) (by decide)
  have e4 : S (100 % 7) = ⟨#[50]⟩ := S_lit (l := [50]) (by decide) (by decide)
  have ht : tl 100 ≤ 3 := tl_le (by decide) (by decide)
  have h := Div_short 100 7 w (by omega) (by omega) (by omega)
  rw [e1, e2, e3, e4] at h
  exact h

set_option maxHeartbeats 1000000 in
theorem awake_any (w : World) : Calls Try.prog 15 #[] w fun e w' => e = .returned (.bool true) ∧ Below w.heap.size w w' := by
  have HA : Hid (rt (⟨#[48, 49]⟩ : ByteArray).data.toList = false) := by unfold Hid; decide
  have HB : Hid (rt (⟨#[48]⟩ : ByteArray).data.toList = true) := by unfold Hid; decide
  go_enter Try.func15, Try.ntmps15
  go_wp2_with fail
  refine (mul_lit _).mono ?_
  rintro e w1 ⟨rfl, b1⟩
  go_wp2_with fail
  refine (div_lit _).mono ?_
  rintro e w2 ⟨rfl, b2⟩
  go_wp2_with fail
  refine (right_is _ false _ (by simp [ByteArray.size]) HA.out).mono ?_
  rintro e w3 ⟨rfl, rfl⟩
  go_wp2_with fail
  refine (right_is _ true _ (by simp [ByteArray.size]) HB.out).mono ?_
  rintro e w4 ⟨rfl, rfl⟩
  go_wp2
  go_ret
  exact ⟨rfl, b1.trans (b2.mono b1.size)⟩

set_option maxHeartbeats 400000 in
theorem short_yes (b n cap : Nat) (ss : Nat → ByteArray) (w : World) (hn : n ≤ 100) (hc : ∀ i, i < n → w.cell? ⟨b, i, none⟩ = some (.string (ss i))) (hs : ∀ i, i < n → (ss i).size ≤ 120) :
    Calls Try.prog 14 #[.slice (some ⟨b, 0, none⟩) n cap] w fun e w' => e = .returned (.bool true) ∧ w' = w := by
  have HC : Hid _ := hc
  have HS : Hid _ := hs
  clear hc hs
  go_enter Try.func14, Try.ntmps14
  go_wp2_with fail
  go_loop [7] (fun i => ∃ k : Nat, k ≤ n ∧ i = .int .i64 (k : Nat)) (fun i => n - (intOf i).toNat)
  case atStart => exact ⟨0, by omega, rfl⟩
  case round =>
    obtain ⟨k, hk, rfl⟩ := hrel
    by_cases hlt : k < n
    · have c1 := HC.out k hlt
      have c2 := HS.out k hlt
      generalize ss k = t at *
      go_wp2
      go_round
      case rel => exact ⟨k + 1, by omega, by go_num⟩
      case measure => simp [intOf]; omega
    · go_wp2
      go_ret
      exact ⟨rfl, rfl⟩

set_option maxHeartbeats 400000 in
theorem short_no (b n cap j : Nat) (ss : Nat → ByteArray) (w : World) (hn : n ≤ 100) (hc : ∀ i, i < n → w.cell? ⟨b, i, none⟩ = some (.string (ss i))) (hj : j < n) (hs : 120 < (ss j).size) :
    Calls Try.prog 14 #[.slice (some ⟨b, 0, none⟩) n cap] w fun e w' => e = .returned (.bool false) ∧ w' = w := by
  have HC : Hid _ := hc
  have HS : Hid _ := hs
  clear hc hs
  go_enter Try.func14, Try.ntmps14
  go_wp2_with fail
  go_loop [7] (fun i => ∃ k : Nat, k ≤ j ∧ i = .int .i64 (k : Nat)) (fun i => n - (intOf i).toNat)
  case atStart => exact ⟨0, by omega, rfl⟩
  case round =>
    obtain ⟨k, hk, rfl⟩ := hrel
    have c1 := HC.out k (by omega)
    by_cases c2 : 120 < (ss k).size
    · generalize ss k = t at *
      go_wp2
      go_ret
      exact ⟨rfl, rfl⟩
    · have c3 : k ≠ j := fun e => c2 (by rw [e]; exact HS.out)
      generalize ss k = t at *
      go_wp2
      go_round
      case rel => exact ⟨k + 1, by omega, by go_num⟩
      case measure => simp [intOf]; omega

theorem eqS {x y : Nat} (h : x ≠ y) : ((S x).toList == (S y).toList) = false := by
  rw [toList_data, toList_data, S_data, S_data]
  apply beq_eq_false_iff_ne.2
  exact fun e => h (tx_inj e)

theorem awake_below (w0 w : World) (h : Below w0.heap.size w0 w) : Calls Try.prog 15 #[] w fun e w' => e = .returned (.bool true) ∧ Below w0.heap.size w0 w' := by
  refine (awake_any w).mono ?_
  rintro e w' ⟨rfl, hb⟩
  exact ⟨rfl, h.trans (hb.mono h.size)⟩

/-- two texts in a new block -/
theorem two_cells (w : World) (a b : ByteArray) : ∀ i, i < 2 → (w.alloc (.cells #[.string a, .string b] 9)).cell? ⟨w.heap.size, i, none⟩ = some (.string (if i = 0 then a else b)) := by
  intro i hi
  rw [World.cell?_alloc_new]
  match i, hi with
  | 0, _ => rfl
  | 1, _ => rfl

theorem three_cells (w : World) (a b c : ByteArray) : ∀ i, i < 3 → (w.alloc (.cells #[.string a, .string b, .string c] 9)).cell? ⟨w.heap.size, i, none⟩ = some (.string (if i = 0 then a else if i = 1 then b else c)) := by
  intro i hi
  rw [World.cell?_alloc_new]
  match i, hi with
  | 0, _ => rfl
  | 1, _ => rfl
  | 2, _ => rfl

theorem one_cell (w : World) (a : ByteArray) : ∀ i, i < 1 → (w.alloc (.cells #[.string a] 9)).cell? ⟨w.heap.size, i, none⟩ = some (.string a) := by
  intro i hi
  rw [World.cell?_alloc_new]
  match i, hi with
  | 0, _ => rfl
end Go.Proofs.Ythilcooanhinpaa
