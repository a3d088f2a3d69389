/-
  FRACTIONS: the small calls of package rat. Conditions: each theorem's own.
-/
import Derived.Test.YtadgnafafdfioaaGreatDoorRt
import Derived.Test.YtadgnafafdfioaaGreatDoorRefW
import Derived.Lib.Bytealg
import Derived.Test.YtadgnafafdfioaaGreatDoorCommon
namespace Go.Proofs.YtadgnafafdfioaaGreatDoor
section
set_option maxRecDepth 100000
open Go.RowKit Nm
set_option linter.unusedVariables false

theorem idx_no {l : List UInt8} (h : stroke l = false) : Lib.indexByte l 47 = -1 := by
  induction l with
  | nil => rfl
  | cons c l ih =>
    unfold stroke at h ih
    simp only [List.any_cons, Bool.or_eq_false_iff] at h
    unfold Lib.indexByte
    rw [h.1, ih h.2]; rfl
theorem idx_yes {l : List UInt8} (h : stroke l = true) : Lib.indexByte l 47 = ((ahead l).length : Nat) := by
  induction l with
  | nil => cases h
  | cons c l ih =>
    unfold Lib.indexByte
    by_cases hc : c = 47
    · subst hc; simp [ahead]
    · have h1 : (c == 47) = false := by simp [hc]
      unfold stroke at h ih
      simp only [List.any_cons, h1, Bool.false_or] at h
      rw [h1, ih h]
      unfold ahead
      rw [List.takeWhile_cons, h1]
      simp
theorem cut_front {s : ByteArray} (h : stroke s.data.toList = true) : s.extract 0 (ahead s.data.toList).length = bt (ahead s.data.toList) := by
  apply ba_ext
  rw [bt_data]
  have e := app_of h
  have : (s.extract 0 (ahead s.data.toList).length).data.toList = s.data.toList.take (ahead s.data.toList).length := by simp [ByteArray.data_extract]
  rw [this]
  generalize ahead s.data.toList = a at *
  rw [e]; simp
theorem cut_back {s : ByteArray} (h : stroke s.data.toList = true) : s.extract ((ahead s.data.toList).length + 1) s.size = bt (behind s.data.toList) := by
  apply ba_ext
  rw [bt_data]
  have e := app_of h
  have e2 : (s.extract ((ahead s.data.toList).length + 1) s.size).data.toList = s.data.toList.drop ((ahead s.data.toList).length + 1) := by
    rw [ByteArray.data_extract, Array.toList_extract, List.extract_eq_take_drop]
    exact List.take_of_length_le (by rw [List.length_drop, len_data]; omega)
  rw [e2]
  generalize ahead s.data.toList = a at *
  generalize behind s.data.toList = b at *
  rw [e]; simp
theorem ahead_len {s : ByteArray} (h : stroke s.data.toList = true) : (ahead s.data.toList).length + 1 ≤ s.size := by
  have e := congrArg List.length (app_of h)
  rw [len_data] at e
  simp at e; omega
theorem ahead_le (s : ByteArray) : (bt (ahead s.data.toList)).size ≤ s.size := by
  have h : (bt (ahead s.data.toList)).size = (ahead s.data.toList).length := by simp [bt, ByteArray.size]
  rw [h, ← len_data s]; unfold ahead; exact (List.takeWhile_sublist _).length_le
theorem behind_le (s : ByteArray) : (bt (behind s.data.toList)).size ≤ s.size := by
  have h : (bt (behind s.data.toList)).size = (behind s.data.toList).length := by simp [bt, ByteArray.size]
  rw [h, ← len_data s]; unfold behind
  rw [List.length_drop]
  have := (List.dropWhile_sublist (l := s.data.toList) (fun c => !(c == 47))).length_le
  omega
theorem behind_none {l : List UInt8} (h : stroke l = false) : behind l = [] := by
  have := drop_none (none_of h) []
  unfold behind; rw [List.append_nil] at this; rw [this]; rfl

set_option maxHeartbeats 400000 in
theorem indexByte_any (s : ByteArray) (w : World) :
    Calls Tryz.prog 87 #[.string s, .int .u8 47] w fun e w' => e = .returned (.int .i64 (Lib.indexByte s.data.toList 47)) ∧ w' = w := by
  go_enter Tryz.func87, Tryz.ntmps87
  go_wp2
  rw [run_callFunc_extern Tryz.func96 (by kernel_rfl) (by kernel_rfl) (by kernel_rfl) (e := Extern.BytealgIndexByte.indexByte) (by kernel_rfl), Lib.run_indexByteString]
  simp only [Result.andThen]
  rw [Oper.upon_value]
  go_wp2
  go_ret
  exact ⟨rfl, rfl⟩

set_option maxHeartbeats 1000000 in
theorem indexOf_any (s : ByteArray) (w : World) :
    Calls Tryz.prog 74 #[.string s, .string ⟨#[47]⟩] w fun e w' => e = .returned (.int .i64 (Lib.indexByte s.data.toList 47)) ∧ w' = w := by
  by_cases h : s = ⟨#[47]⟩
  · subst h
    go_enter Tryz.func74, Tryz.ntmps74
    go_wp2
    go_ret
    exact ⟨rfl, rfl⟩
  · have hq : (([47] : List UInt8) == s.toList) = false := by
      apply beq_eq_false_iff_ne.2
      intro e
      apply h
      apply ba_ext
      rw [← toList_data, ← e]
    go_enter Tryz.func74, Tryz.ntmps74
    go_wp2_with (first | (go_at_call 87; refine (indexByte_any s _).mono ?_; rintro e w1 ⟨rfl, rfl⟩) | go_in)
    go_ret
    exact ⟨rfl, rfl⟩

set_option maxHeartbeats 1000000 in
theorem cutIn_any (s : ByteArray) (w : World) (hs : s.size ≤ 5000000) :
    Calls Tryz.prog 56 #[.string s, .string ⟨#[47]⟩] w fun e w' => e = .returned (.tuple #[.string (bt (ahead s.data.toList)), .string (bt (behind s.data.toList)), .bool (stroke s.data.toList)]) ∧ Below w.heap.size w w' := by
  have HB : Hid _ := Below.refl w.heap.size w
  cases h : stroke s.data.toList with
  | false =>
    rw [show bt (ahead s.data.toList) = s by rw [ahead_none (none_of h), bt_of], show bt (behind s.data.toList) = ⟨#[]⟩ by rw [behind_none h]; rfl]
    have hi := idx_no h
    go_enter Tryz.func56, Tryz.ntmps56
    go_wp2_with (first | (go_at_call 74; refine (indexOf_any s _).mono ?_; rintro e w1 ⟨rfl, rfl⟩; rw [hi]) | go_in)
    go_ret3
    exact ⟨rfl, HB.out⟩
  | true =>
    have hi := idx_yes h
    have hl := ahead_len h
    rw [← cut_front h, ← cut_back h]
    generalize (ahead s.data.toList).length = k at *
    go_enter Tryz.func56, Tryz.ntmps56
    go_wp2_with (first | (go_at_call 74; refine (indexOf_any s _).mono ?_; rintro e w1 ⟨rfl, rfl⟩; rw [hi]) | go_in)
    go_region
    all_goals go_wp2
    all_goals go_ret3
    all_goals exact ⟨rfl, bl_drew HB.out⟩

set_option maxHeartbeats 1000000 in
theorem cut_any (s : ByteArray) (w : World) (hs : s.size ≤ 5000000) :
    Calls Tryz.prog 44 #[.string s, .string ⟨#[47]⟩] w fun e w' => e = .returned (.tuple #[.string (bt (ahead s.data.toList)), .string (bt (behind s.data.toList)), .bool (stroke s.data.toList)]) ∧ Below w.heap.size w w' := by
  go_enter Tryz.func44, Tryz.ntmps44
  go_wp2_with fail
  refine (cutIn_any s _ hs).mono ?_
  rintro e w1 ⟨rfl, h1⟩
  have H1 : Hid _ := h1
  clear h1
  go_wp2
  go_ret3
  exact ⟨rfl, H1.out⟩

set_option maxHeartbeats 1000000 in
theorem size_any (s : ByteArray) (w : World) (hs : s.size ≤ 5000000) :
    Calls Tryz.prog 84 #[.string s] w fun e w' => e = .returned (.string (sz s)) ∧ w' = w := by
  cases h : mn s with
  | false =>
    have HR : Hid (sz s = s) := by unfold Hid sz; rw [h]; rfl
    have HM : Hid _ := h
    clear h
    go_enter Tryz.func84, Tryz.ntmps84
    go_wp2_with (first | (go_at_call 119; refine (has_any s _ hs).mono ?_; rintro e w1 ⟨rfl, rfl⟩; rw [show mn s = false from HM.out]) | go_in)
    go_ret
    exact ⟨by rw [HR.out]; rfl, rfl⟩
  | true =>
    have h1 : 1 ≤ s.size := by unfold mn at h; simp at h; exact h.1
    have HR : Hid (sz s = rest s) := by unfold Hid sz; rw [h]; rfl
    have HM : Hid _ := h
    clear h
    go_enter Tryz.func84, Tryz.ntmps84
    go_wp2_with (first | (go_at_call 119; refine (has_any s _ hs).mono ?_; rintro e w1 ⟨rfl, rfl⟩; rw [show mn s = true from HM.out]) | go_in)
    go_ret
    exact ⟨by rw [HR.out]; rfl, rfl⟩
end
end Go.Proofs.YtadgnafafdfioaaGreatDoor
namespace Go.Proofs.YtadgnafafdfioaaGreatDoor
section
set_option maxRecDepth 100000
open Go.RowKit Nm
set_option linter.unusedVariables false

/-- a rational, as package rat keeps it -/
abbrev fr (r : Rat) : Value := .agg #[.string (W r.num), .string (S r.den)]

set_option maxHeartbeats 1000000 in
theorem gcd_S (a b : Nat) (w : World) (ha : tl a ≤ 500000) (hb : tl b ≤ 500000) :
    Calls Tryz.prog 83 #[.string (S a), .string (S b)] w fun e w' => e = .returned (.string (S (Nat.gcd a b))) ∧ Below w.heap.size w w' := by
  go_enter Tryz.func83, Tryz.ntmps83
  go_wp2_with fail
  refine (Gcd_any a b _ ha hb).mono ?_
  rintro e w1 ⟨rfl, h1⟩
  have H1 : Hid _ := h1
  clear h1
  go_wp2
  go_ret
  exact ⟨rfl, H1.out⟩

theorem S1 : S 1 = ⟨#[49]⟩ := by decide
theorem S0 : S 0 = ⟨#[48]⟩ := by decide
theorem is1 {n : Nat} (h : n ≠ 1) : ((S n).toList == [49]) = false := by
  have := eqS h; rw [S1, toList_data ⟨#[49]⟩] at this; exact this

/-- what two new blocks hold behind a call that leaves them -/
theorem own2 {w v : World} {a b : Array Value} {r s : TypeId} (h : Below ((w.alloc (.cells a r)).alloc (.cells b s)).heap.size ((w.alloc (.cells a r)).alloc (.cells b s)) v) :
    (∀ i, v.cell? ⟨w.heap.size, i, none⟩ = a[i]?) ∧ (∀ i, v.cell? ⟨w.heap.size + 1, i, none⟩ = b[i]?) ∧ (∀ i, v.frozen? ⟨w.heap.size, i, none⟩ = false) ∧ (∀ i, v.frozen? ⟨w.heap.size + 1, i, none⟩ = false) ∧ Below w.heap.size w v := by
  have hs : ((w.alloc (.cells a r)).alloc (.cells b s)).heap.size = w.heap.size + 1 + 1 := by simp
  rw [hs] at h
  have e1 : ((w.alloc (.cells a r)).alloc (.cells b s)).heap[w.heap.size]? = some (.cells a r) := by
    rw [Below.heap_alloc _ _ _ (by simp)]; exact heap_alloc_new w _
  have e2 : ((w.alloc (.cells a r)).alloc (.cells b s)).heap[w.heap.size + 1]? = some (.cells b s) := by
    have := heap_alloc_new (w.alloc (.cells a r)) (.cells b s); simpa using this
  have f1 : v.heap[w.heap.size]? = some (.cells a r) := by rw [h.block _ (by omega)]; exact e1
  have f2 : v.heap[w.heap.size + 1]? = some (.cells b s) := by rw [h.block _ (by omega)]; exact e2
  refine ⟨fun i => ?_, fun i => ?_, fun i => ?_, fun i => ?_, bl_trans (bl_alloc (bl_alloc (Below.refl _ w) _) _) (by rw [hs]; exact h)⟩
  · simp [World.cell?, f1]
  · simp [World.cell?, f2]
  · simp [World.frozen?, f1]
  · simp [World.frozen?, f2]
theorem own3 {w v : World} {a b c : Array Value} {r s t : TypeId} (h : Below (((w.alloc (.cells a r)).alloc (.cells b s)).alloc (.cells c t)).heap.size (((w.alloc (.cells a r)).alloc (.cells b s)).alloc (.cells c t)) v) :
    (∀ i, v.cell? ⟨w.heap.size, i, none⟩ = a[i]?) ∧ (∀ i, v.cell? ⟨w.heap.size + 1, i, none⟩ = b[i]?) ∧ (∀ i, v.cell? ⟨w.heap.size + 1 + 1, i, none⟩ = c[i]?) ∧ (∀ i, v.frozen? ⟨w.heap.size + 1 + 1, i, none⟩ = false) ∧ Below w.heap.size w v := by
  have K := own2 (w := w.alloc (.cells a r)) h
  have hs : (((w.alloc (.cells a r)).alloc (.cells b s)).alloc (.cells c t)).heap.size = w.heap.size + 1 + 1 + 1 := by simp
  have e1 : v.heap[w.heap.size]? = some (.cells a r) := by
    rw [h.block _ (by rw [hs]; omega), Below.heap_alloc _ _ _ (by simp; omega), Below.heap_alloc _ _ _ (by simp)]; exact heap_alloc_new w _
  refine ⟨fun i => by simp [World.cell?, e1], fun i => ?_, fun i => ?_, fun i => ?_, bl_trans (bl_alloc (Below.refl _ w) _) K.2.2.2.2⟩
  · have := K.1 i; simpa using this
  · have := K.2.1 i; simpa using this
  · have := K.2.2.2.1 i; simpa using this

end
end Go.Proofs.YtadgnafafdfioaaGreatDoor
