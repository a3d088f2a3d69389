/-
  A TEXT, CUT AT ITS FIRST STROKE; A WHOLE NUMBER'S SIGN AND SIZE: what strings.Cut, HasPrefix, TrimPrefix and rat's below and size give. Conditions: sizes.
-/
import Derived.Test.YtpmnfgbbkmodpaaGreatDoorRt
import Derived.Test.YtpmnfgbbkmodpaaGreatDoorRefW
import Derived.Lib.Bytealg
namespace Go.Proofs.YtpmnfgbbkmodpaaGreatDoor
set_option maxRecDepth 100000
open Go.RowKit Nm
set_option linter.unusedVariables false

theorem idx_no {l : List UInt8} (h : stroke l = false) : Lib.indexByte l 47 = -1 := by
  induction l with
  | nil => rfl
  | cons c l ih =>
    unfold stroke at h ih
    simp only [List.any_cons, Bool.or_eq_false_iff] at h
    unfold Lib.indexByte
    rw [h.1, ih h.2]; rfl
theorem idx_yes {l : List UInt8} (h : stroke l = true) : Lib.indexByte l 47 = ((ahead l).length : Nat) := by
  induction l with
  | nil => cases h
  | cons c l ih =>
    unfold Lib.indexByte
    by_cases hc : c = 47
    · subst hc; simp [ahead]
    · have h1 : (c == 47) = false := by simp [hc]
      unfold stroke at h ih
      simp only [List.any_cons, h1, Bool.false_or] at h
      rw [h1, ih h]
      unfold ahead
      rw [List.takeWhile_cons, h1]
      simp
theorem cut_front {s : ByteArray} (h : stroke s.data.toList = true) : s.extract 0 (ahead s.data.toList).length = bt (ahead s.data.toList) := by
  apply ba_ext
  rw [bt_data]
  have e := app_of h
  have : (s.extract 0 (ahead s.data.toList).length).data.toList = s.data.toList.take (ahead s.data.toList).length := by simp [ByteArray.data_extract]
  rw [this]
  generalize ahead s.data.toList = a at *
  rw [e]; simp
theorem cut_back {s : ByteArray} (h : stroke s.data.toList = true) : s.extract ((ahead s.data.toList).length + 1) s.size = bt (behind s.data.toList) := by
  apply ba_ext
  rw [bt_data]
  have e := app_of h
  have e2 : (s.extract ((ahead s.data.toList).length + 1) s.size).data.toList = s.data.toList.drop ((ahead s.data.toList).length + 1) := by
    rw [ByteArray.data_extract, Array.toList_extract, List.extract_eq_take_drop]
    exact List.take_of_length_le (by rw [List.length_drop, len_data]; omega)
  rw [e2]
  generalize ahead s.data.toList = a at *
  generalize behind s.data.toList = b at *
  rw [e]; simp
theorem ahead_len {s : ByteArray} (h : stroke s.data.toList = true) : (ahead s.data.toList).length + 1 ≤ s.size := by
  have e := congrArg List.length (app_of h)
  rw [len_data] at e
  simp at e; omega
theorem ahead_le (s : ByteArray) : (bt (ahead s.data.toList)).size ≤ s.size := by
  have h : (bt (ahead s.data.toList)).size = (ahead s.data.toList).length := by simp [bt, ByteArray.size]
  rw [h, ← len_data s]; unfold ahead; exact (List.takeWhile_sublist _).length_le
theorem behind_le (s : ByteArray) : (bt (behind s.data.toList)).size ≤ s.size := by
  have h : (bt (behind s.data.toList)).size = (behind s.data.toList).length := by simp [bt, ByteArray.size]
  rw [h, ← len_data s]; unfold behind
  rw [List.length_drop]
  have := (List.dropWhile_sublist (l := s.data.toList) (fun c => !(c == 47))).length_le
  omega
theorem behind_none {l : List UInt8} (h : stroke l = false) : behind l = [] := by
  have := drop_none (none_of h) []
  unfold behind; rw [List.append_nil] at this; rw [this]; rfl

set_option maxHeartbeats 400000 in
theorem indexByte_any (s : ByteArray) (w : World) :
    Calls Tryz.prog 133 #[.string s, .int .u8 47] w fun e w' => e = .returned (.int .i64 (Lib.indexByte s.data.toList 47)) ∧ w' = w := by
  go_enter Tryz.func133, Tryz.ntmps133
  go_wp2
  rw [run_callFunc_extern Tryz.func148 (by kernel_rfl) (by kernel_rfl) (by kernel_rfl) (e := Extern.BytealgIndexByte.indexByte) (by kernel_rfl), Lib.run_indexByteString]
  simp only [Result.andThen]
  rw [Oper.upon_value]
  go_wp2
  go_ret
  exact ⟨rfl, rfl⟩

set_option maxHeartbeats 1000000 in
theorem indexOf_any (s : ByteArray) (w : World) :
    Calls Tryz.prog 113 #[.string s, .string ⟨#[47]⟩] w fun e w' => e = .returned (.int .i64 (Lib.indexByte s.data.toList 47)) ∧ w' = w := by
  by_cases h : s = ⟨#[47]⟩
  · subst h
    go_enter Tryz.func113, Tryz.ntmps113
    go_wp2
    go_ret
    exact ⟨rfl, rfl⟩
  · have hq : (([47] : List UInt8) == s.toList) = false := by
      apply beq_eq_false_iff_ne.2
      intro e
      apply h
      apply ba_ext
      rw [← toList_data, ← e]
    go_enter Tryz.func113, Tryz.ntmps113
    go_wp2_with (first | (go_at_call 133; refine (indexByte_any s _).mono ?_; rintro e w1 ⟨rfl, rfl⟩) | go_in)
    go_ret
    exact ⟨rfl, rfl⟩

set_option maxHeartbeats 1000000 in
theorem cutIn_any (s : ByteArray) (w : World) (hs : s.size ≤ 100000) :
    Calls Tryz.prog 93 #[.string s, .string ⟨#[47]⟩] w fun e w' => e = .returned (.tuple #[.string (bt (ahead s.data.toList)), .string (bt (behind s.data.toList)), .bool (stroke s.data.toList)]) ∧ Below w.heap.size w w' := by
  have HB : Hid _ := Below.refl w.heap.size w
  cases h : stroke s.data.toList with
  | false =>
    rw [show bt (ahead s.data.toList) = s by rw [ahead_none (none_of h), bt_of], show bt (behind s.data.toList) = ⟨#[]⟩ by rw [behind_none h]; rfl]
    have hi := idx_no h
    go_enter Tryz.func93, Tryz.ntmps93
    go_wp2_with (first | (go_at_call 113; refine (indexOf_any s _).mono ?_; rintro e w1 ⟨rfl, rfl⟩; rw [hi]) | go_in)
    go_ret3
    exact ⟨rfl, HB.out⟩
  | true =>
    have hi := idx_yes h
    have hl := ahead_len h
    rw [← cut_front h, ← cut_back h]
    generalize (ahead s.data.toList).length = k at *
    go_enter Tryz.func93, Tryz.ntmps93
    go_wp2_with (first | (go_at_call 113; refine (indexOf_any s _).mono ?_; rintro e w1 ⟨rfl, rfl⟩; rw [hi]) | go_in)
    go_region
    all_goals go_wp2
    all_goals go_ret3
    all_goals exact ⟨rfl, bl_drew HB.out⟩

set_option maxHeartbeats 1000000 in
theorem cut_any (s : ByteArray) (w : World) (hs : s.size ≤ 100000) :
    Calls Tryz.prog 73 #[.string s, .string ⟨#[47]⟩] w fun e w' => e = .returned (.tuple #[.string (bt (ahead s.data.toList)), .string (bt (behind s.data.toList)), .bool (stroke s.data.toList)]) ∧ Below w.heap.size w w' := by
  go_enter Tryz.func73, Tryz.ntmps73
  go_wp2_with fail
  refine (cutIn_any s _ hs).mono ?_
  rintro e w1 ⟨rfl, h1⟩
  have H1 : Hid _ := h1
  clear h1
  go_wp2
  go_ret3
  exact ⟨rfl, H1.out⟩

set_option maxHeartbeats 1000000 in
theorem below_any (s : ByteArray) (w : World) (hs : s.size ≤ 100000) :
    Calls Tryz.prog 67 #[.string s] w fun e w' => e = .returned (.bool (mn s)) ∧ w' = w := by
  go_enter Tryz.func67, Tryz.ntmps67
  go_wp2_with (first | (go_at_call 112; refine (has_any s _ hs).mono ?_; rintro e w1 ⟨rfl, rfl⟩) | go_in)
  go_ret
  exact ⟨rfl, rfl⟩

set_option maxHeartbeats 1000000 in
theorem size_any (s : ByteArray) (w : World) (hs : s.size ≤ 100000) :
    Calls Tryz.prog 64 #[.string s] w fun e w' => e = .returned (.string (sz s)) ∧ w' = w := by
  cases h : mn s with
  | false =>
    have HR : Hid (sz s = s) := by unfold Hid sz; rw [h]; rfl
    have HM : Hid _ := h
    clear h
    go_enter Tryz.func64, Tryz.ntmps64
    go_wp2_with (first | (go_at_call 112; refine (has_any s _ hs).mono ?_; rintro e w1 ⟨rfl, rfl⟩; rw [show mn s = false from HM.out]) | go_in)
    go_ret
    exact ⟨by rw [HR.out]; rfl, rfl⟩
  | true =>
    have h1 : 1 ≤ s.size := by unfold mn at h; simp at h; exact h.1
    have HR : Hid (sz s = rest s) := by unfold Hid sz; rw [h]; rfl
    have HM : Hid _ := h
    clear h
    go_enter Tryz.func64, Tryz.ntmps64
    go_wp2_with (first | (go_at_call 112; refine (has_any s _ hs).mono ?_; rintro e w1 ⟨rfl, rfl⟩; rw [show mn s = true from HM.out]) | go_in)
    go_ret
    exact ⟨by rw [HR.out]; rfl, rfl⟩
end Go.Proofs.YtpmnfgbbkmodpaaGreatDoor
