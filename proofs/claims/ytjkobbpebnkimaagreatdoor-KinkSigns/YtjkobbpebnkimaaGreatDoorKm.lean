/-
  TWO DIGITS, as KinkSigns writes them. Conditions: the number is below 65.
-/
import Derived.Test.YtjkobbpebnkimaaGreatDoorKl
namespace Go.Proofs.YtjkobbpebnkimaaGreatDoor.Tn
set_option maxRecDepth 100000
open Go.RowKit Nm
set_option linter.unusedVariables false

/-- a number below 100, in two digits -/
def two2 (m : Nat) : ByteArray := ⟨#[UInt8.ofNat (48 + m / 10), UInt8.ofNat (48 + m % 10)]⟩
theorem two2_of (m : Nat) : strOfNums [48 + (m : Int) / 10, 48 + (m : Int) % 10] = two2 m := by
  have h1 : (48 + (m : Int) / 10).toNat = 48 + m / 10 := by omega
  have h2 : (48 + (m : Int) % 10).toNat = 48 + m % 10 := by omega
  simp [strOfNums, two2, h1, h2]
theorem dd_big {m : Nat} (h : ¬ m < 10) : dd m = two2 m := by unfold dd two2; rw [if_neg h]
theorem dd_small {m : Nat} (h : m < 10) : dd m = (two2 m).extract 1 2 := by
  have : ((List.range 10).all fun m => decide (dd m = (two2 m).extract 1 2)) = true := by decide +kernel
  have := List.all_eq_true.1 this m (List.mem_range.2 h)
  simpa using this
theorem two2_size (m : Nat) : (two2 m).size = 2 := rfl
theorem wrap_dd {m : Nat} (h : m ≤ 64) : wrap64 (48 + wrap64 ((m : Int) / 10)) % 256 = 48 + (m : Int) / 10 := by unfold wrap64; omega
end Go.Proofs.YtjkobbpebnkimaaGreatDoor.Tn
