/-
  WHAT THE LAWS' LOOPS COUNT: whether one is 0, whether all are, how many are not. No conditions but the lists' lengths.
-/
import Derived.Test.YtjkobbpebnkimaaGreatDoorAw7
namespace Go.Proofs.YtjkobbpebnkimaaGreatDoor.Tn
set_option maxRecDepth 100000
open Go.RowKit Nm
set_option linter.unusedVariables false
set_option linter.unusedSimpArgs false

theorem zeros_snoc (qs : List Rat) {k : Nat} (h : k < qs.length) : zeros (qs.take (k + 1)) = (zeros (qs.take k) && decide (qs.getD k 0 = 0)) := by
  rw [take_snoc qs h]; simp [zeros]
theorem zero_snoc (qs : List Rat) {k : Nat} (h : k < qs.length) : zero (qs.take (k + 1)) = (zero (qs.take k) || decide (qs.getD k 0 = 0)) := by
  rw [take_snoc qs h]; simp [zero]
theorem many_snoc (qs : List Rat) {k : Nat} (h : k < qs.length) : many (qs.take (k + 1)) = many (qs.take k) + (if decide (qs.getD k 0 = 0) = true then 0 else 1) := by
  rw [take_snoc qs h]
  unfold many
  rw [List.countP_append]
  by_cases c : qs.getD k 0 = 0 <;> simp [c]
theorem take_all (qs : List Rat) {k n : Nat} (h : qs.length = n) (hk : ¬ k < n) : qs.take k = qs := List.take_of_length_le (by omega)
theorem eq0 (q : Rat) : ((R q).toList == [48]) = decide (q = 0) := by
  by_cases h : q = 0
  · subst h; decide +kernel
  · have h1 : (R q).toList ≠ [48] := fun c => h ((R_zero_iff q).1 (by
      rw [toList_data] at c
      cases hR : R q with
      | mk d => rw [hR] at c; cases d; simp at c; rw [c]))
    rw [decide_eq_false h]
    exact beq_false_of_ne h1
theorem tot_eq0 (qs : List Rat) : ((R (tot (qs.map kAbs))).toList == [48]) = zeros qs := by
  rw [eq0]
  have := tot_abs qs
  cases h : zeros qs with
  | true => rw [decide_eq_true (this.2 h)]
  | false => rw [decide_eq_false (fun c => by rw [this.1 c] at h; cases h)]
/-- a number below 100, in two digits, and without the first one if it is a nought -/
def dd (m : Nat) : ByteArray := if m < 10 then ⟨#[UInt8.ofNat (48 + m % 10)]⟩ else ⟨#[UInt8.ofNat (48 + m / 10), UInt8.ofNat (48 + m % 10)]⟩
theorem dd_all : ((List.range 65).all fun m => decide (R ((m : Nat) : Rat) = dd m)) = true := by decide +kernel
theorem dd_R {m : Nat} (h : m ≤ 64) : R ((m : Nat) : Rat) = dd m := by
  have := List.all_eq_true.1 dd_all m (List.mem_range.2 (by omega))
  simpa using this
end Go.Proofs.YtjkobbpebnkimaaGreatDoor.Tn
