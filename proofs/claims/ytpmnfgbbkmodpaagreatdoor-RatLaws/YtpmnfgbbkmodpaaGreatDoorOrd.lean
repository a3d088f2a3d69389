/-
  WHICH OF TWO IS LESS: what a call of cmp.Compare, strings.Compare and compareTexts gives. Conditions: sizes.
-/
import Derived.Test.YtpmnfgbbkmodpaaGreatDoorForm
import Derived.Lib.Strings
import Derived.Lib.Slices
import Derived.Lib.Walk
import Derived.Lib.Bytealg
namespace Go.Proofs.YtpmnfgbbkmodpaaGreatDoor
set_option maxRecDepth 100000
open Go.RowKit Nm
set_option linter.unusedVariables false

/-- -1, 0, 1 -/
def sg (a b : Int) : Int := if a < b then -1 else if b < a then 1 else 0

set_option maxHeartbeats 400000 in
theorem cmpInt_any (a b : Int) (w : World) :
    Calls Tryz.prog 101 #[.int .i64 a, .int .i64 b] w fun e w' => e = .returned (.int .i64 (sg a b)) ∧ w' = w := by
  by_cases h : a < b
  · have hr : sg a b = -1 := by simp [sg, h]
    have HR : Hid _ := hr
    clear hr
    go_enter Tryz.func101, Tryz.ntmps101
    go_wp2
    all_goals go_ret
    all_goals exact ⟨by rw [HR.out]; rfl, rfl⟩
  · by_cases h2 : b < a
    · have hr : sg a b = 1 := by simp [sg, h, h2]
      have HR : Hid _ := hr
      clear hr
      go_enter Tryz.func101, Tryz.ntmps101
      go_wp2
      all_goals go_ret
      all_goals exact ⟨by rw [HR.out]; rfl, rfl⟩
    · have hr : sg a b = 0 := by simp [sg, h, h2]
      have HR : Hid _ := hr
      clear hr
      go_enter Tryz.func101, Tryz.ntmps101
      go_wp2
      all_goals go_ret
      all_goals exact ⟨by rw [HR.out]; rfl, rfl⟩

set_option maxHeartbeats 400000 in
theorem cmpInt64_any (a b : Int) (w : World) :
    Calls Tryz.prog 138 #[.int .i64 a, .int .i64 b] w fun e w' => e = .returned (.int .i64 (sg a b)) ∧ w' = w := by
  by_cases h : a < b
  · have hr : sg a b = -1 := by simp [sg, h]
    have HR : Hid _ := hr
    clear hr
    go_enter Tryz.func138, Tryz.ntmps138
    go_wp2
    all_goals go_ret
    all_goals exact ⟨by rw [HR.out]; rfl, rfl⟩
  · by_cases h2 : b < a
    · have hr : sg a b = 1 := by simp [sg, h, h2]
      have HR : Hid _ := hr
      clear hr
      go_enter Tryz.func138, Tryz.ntmps138
      go_wp2
      all_goals go_ret
      all_goals exact ⟨by rw [HR.out]; rfl, rfl⟩
    · have hr : sg a b = 0 := by simp [sg, h, h2]
      have HR : Hid _ := hr
      clear hr
      go_enter Tryz.func138, Tryz.ntmps138
      go_wp2
      all_goals go_ret
      all_goals exact ⟨by rw [HR.out]; rfl, rfl⟩

set_option maxHeartbeats 1000000 in
set_option maxRecDepth 100000 in
theorem cmpString_any (a b : ByteArray) (w : World) :
    Calls Tryz.prog 150 #[.string a, .string b] w fun e w' => e = .returned (.int .i64 (Lib.compareBytes a.data.toList b.data.toList)) ∧ w' = w := by
  go_enter Tryz.func150, Tryz.ntmps150
  go_wp2
  rw [run_callFunc_extern Tryz.func152 (by kernel_rfl) (by kernel_rfl) (by kernel_rfl) (e := Extern.BytealgCompare.compare) (by kernel_rfl), Lib.run_compareString]
  simp only [Result.andThen]
  rw [Oper.upon_value]
  go_wp2
  go_ret
  exact ⟨rfl, rfl⟩

set_option maxHeartbeats 400000 in
theorem stringsCompare_any (a b : ByteArray) (w : World) :
    Calls Tryz.prog 137 #[.string a, .string b] w fun e w' => e = .returned (.int .i64 (Lib.compareBytes a.data.toList b.data.toList)) ∧ w' = w := by
  go_enter Tryz.func137, Tryz.ntmps137
  go_wp2_with fail
  refine (cmpString_any a b _).mono ?_
  rintro e w2 ⟨rfl, rfl⟩
  go_wp2
  go_ret
  exact ⟨rfl, rfl⟩
end Go.Proofs.YtpmnfgbbkmodpaaGreatDoor
