/-
  THE DOCUMENT'S RATIONALS. Conditions: each theorem's own.
-/
import Derived.Test.YtadgnafafdfioaaDoorApi
import Derived.Test.YtadgnafafdfioaaDoorBoth
import Derived.Test.YtadgnafafdfioaaDoorRef
import Derived.BigRegion
namespace Go.Proofs.YtadgnafafdfioaaDoor
section
set_option maxRecDepth 100000
open Go.RowKit Nm
set_option linter.unusedVariables false

theorem Bd.pow {{a : Rat}} {{n : Nat}} (h : Bd a n) (h1 : 1 ≤ n) (k : Nat) : Bd (a ^ k) (k * n + 1) :=
  ⟨by rw [Rat.num_pow, Int.natAbs_pow]; exact tl_pow _ k n h.1 h1, by rw [Rat.den_pow]; exact tl_pow _ k n h.2 h1⟩
end
end Go.Proofs.YtadgnafafdfioaaDoor
namespace Go.Proofs.YtadgnafafdfioaaDoor
section
set_option maxRecDepth 100000
open Go.RowKit Nm
set_option linter.unusedVariables false

/-- where the first stroke stands, from a place on -/
def spot (s : ByteArray) (k : Nat) : Nat := k + (ahead (s.data.toList.drop k)).length
theorem spot_end (s : ByteArray) : spot s s.size = s.size := by
  unfold spot
  rw [List.drop_of_length_le (by rw [len_data]; exact Nat.le_refl _)]; rfl
theorem at_data (s : ByteArray) (k : Nat) (h : k < s.size) : s.data.toList.drop k = s[k] :: s.data.toList.drop (k + 1) := by
  have hl : k < s.data.toList.length := by rw [len_data]; exact h
  rw [List.drop_eq_getElem_cons hl]
  congr 1
theorem spot_yes (s : ByteArray) (k : Nat) (h : k < s.size) (e : s[k].toNat = 47) : spot s k = k := by
  unfold spot ahead
  rw [at_data s k h, List.takeWhile_cons]
  have : s[k] = 47 := UInt8.toNat.inj e
  simp [this]
theorem spot_no (s : ByteArray) (k : Nat) (h : k < s.size) (e : s[k].toNat ≠ 47) : spot s k = spot s (k + 1) := by
  unfold spot ahead
  rw [at_data s k h, List.takeWhile_cons]
  have : (s[k] == 47) = false := by
    apply beq_eq_false_iff_ne.2
    intro c; apply e; rw [c]; rfl
  simp [this]
  omega
theorem spot_le (s : ByteArray) (k : Nat) (h : k ≤ s.size) : spot s k ≤ s.size := by
  unfold spot ahead
  have := (List.takeWhile_sublist (l := s.data.toList.drop k) (fun c => !(c == 47))).length_le
  rw [List.length_drop, len_data] at this
  omega
theorem all_of (s : ByteArray) : s.extract 0 s.size = s := ba_ext (by
  rw [ByteArray.data_extract, Array.toList_extract, List.extract_eq_take_drop, List.drop_zero]
  exact List.take_of_length_le (by rw [len_data]; omega))

end
end Go.Proofs.YtadgnafafdfioaaDoor
namespace Go.Proofs.YtadgnafafdfioaaDoor
section
set_option maxRecDepth 100000
open Go.RowKit Nm
set_option linter.unusedVariables false

theorem by_self (r : Rat) : by' r.num (r.den : Int) = r := by
  have := R_parts r
  unfold by'
  rw [show (((r.den : Int) : Rat)) = (r.den : Rat) from rfl]
  exact this.symm
theorem spot_none {s : ByteArray} (h : stroke s.data.toList = false) : spot s 0 = s.size := by
  unfold spot
  rw [List.drop_zero, ahead_none (none_of h), len_data]; omega
theorem spot_some {s : ByteArray} : spot s 0 = (ahead s.data.toList).length := by
  unfold spot; rw [List.drop_zero]; omega
end
end Go.Proofs.YtadgnafafdfioaaDoor
