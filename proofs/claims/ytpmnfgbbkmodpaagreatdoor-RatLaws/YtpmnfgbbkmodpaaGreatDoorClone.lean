/-
  A TEXT, COPIED: what a call of strings.Clone gives. Conditions: sizes.
-/
import Derived.Test.YtpmnfgbbkmodpaaGreatDoorNum
import Derived.Lib.BufferWrite
namespace Go.Proofs.YtpmnfgbbkmodpaaGreatDoor
set_option maxRecDepth 100000
open Go.RowKit Nm
set_option linter.unusedVariables false

/-- a row of n bytes is made -/
theorem bytes_made (n : Nat) (hn : n ≤ 100000) : ∃ M : Array Value, M.size = n ∧ ∀ V : World, (Instr.makeSlice 80 (.int .i64 (n : Int)) (.int .i64 (n : Int))).run Tryz.prog V = .ok (.slice (some ⟨V.heap.size, 0, none⟩) n n) (V.alloc (.cells M 5)) := by
  obtain ⟨i0, hi, h0, h1, h2⟩ := info_parts Tryz.info5
  refine ⟨madeCells (Value.int .u8 0).cells (n * i0.size), by rw [size_madeCells, h1]; simp, fun V => ?_⟩
  rw [run_make V 80 5 i0 (.int .u8 0) Tryz.underlying80 hi h0 .i64 .i64 n n (by omega) (Int.le_refl _) (by rw [h2]; omega) (by omega), Int.toNat_natCast]

/-- the bytes of a text are laid into a row of that length -/
theorem bytes_laid (V : World) (g : Nat) (s : ByteArray) (M : Array Value) (hM : M.size = s.size) (hg : V.heap[g]? = some (.cells M 5)) :
    Sem.run Tryz.prog (Builtin.copy_ #[80, 9] 3 #[.slice (some ⟨g, 0, none⟩) s.size s.size, .string s]) V = .ok (goInt s.size) (V.setRow g (Lib.byteCells s.data.toList).toArray) := by
  obtain ⟨i0, hi, _, h1, _⟩ := info_parts Tryz.info5
  rw [Lib.run_copy_row_string V 80 9 3 5 g 0 s.size s.size s M 5 Tryz.underlying80 (by rw [hi]; exact congrArg some h1) hg (Nat.le_refl _) (by omega)]
  have e : M.toList.drop (0 + s.size) = [] := List.drop_of_length_le (by rw [Array.length_toList]; omega)
  rw [e, List.take_zero, List.nil_append, List.append_nil]

/-- such a row, told as a text -/
theorem bytes_told (V : World) (g : Nat) (s : ByteArray) (h0 : 0 < s.size) (hs : s.size ≤ 100000) (hg : V.heap[g]? = some (.cells (Lib.byteCells s.data.toList).toArray 5)) :
    Sem.run Tryz.prog (Builtin.unsafeString_ #[151, 3] 9 #[.pointer (some ⟨g, 0, none⟩), .int .i64 (s.size : Int)]) V = .ok (.string s) (V.freeze ⟨g, 0, none⟩ s.size) := by
  obtain ⟨i0, hi, _, h1, _⟩ := info_parts Tryz.info5
  have hl : s.data.toList.length = s.size := len_data s
  have hc : (Lib.byteCells s.data.toList).toArray.size = s.size := by rw [List.size_toArray, Lib.byteCells_length, hl]
  have h := Lib.run_unsafeString_row (P := Tryz.prog) V 151 3 9 5 Tryz.underlying151 (by unfold Program.cellsOf; rw [hi]; exact h1) g s.size (by unfold World.shape?; rw [hg]; simp only [hc]) s.data.toList
    (by intro c; rw [c] at hl; simp at hl; omega) (by omega) (by omega)
    (fun j x hx => Lib.cells_of_row hg s.size j _ (by rw [List.take_of_length_le (by rw [List.toList_toArray, Lib.byteCells_length]; omega), List.toList_toArray]; simp [Lib.byteCells, hx]))
  rw [hl] at h
  exact h

set_option maxHeartbeats 2000000 in
set_option maxRecDepth 100000 in
theorem cloneIn_any (s : ByteArray) (w : World) (hs : s.size ≤ 100000) (h0 : 0 < s.size) :
    Calls Tryz.prog 116 #[.string s] w fun e w' => e = .returned (.string s) ∧ Below w.heap.size w w' := by
  obtain ⟨M, hM, hmake⟩ := bytes_made s.size hs
  have hg := heap_alloc_new w (.cells M 5)
  have hcopy := bytes_laid (w.alloc (.cells M 5)) w.heap.size s M hM hg
  have htell := bytes_told ((w.alloc (.cells M 5)).setRow w.heap.size (Lib.byteCells s.data.toList).toArray) w.heap.size s h0 hs (setRow_heap _ _ M _ 5 (0, 0) hg)
  have hq : ((s.size : Int) == 0) = false := beq_eq_false_iff_ne.2 (by omega)
  have HB : Hid (Below w.heap.size w ((w.alloc (.cells M 5)).setRow w.heap.size (Lib.byteCells s.data.toList).toArray)) :=
    ((Below.refl _ w).alloc (Nat.le_refl _) _).trans ⟨rfl, rfl, rfl, by simp, fun k hk => setRow_other _ _ _ _ (by omega)⟩
  generalize (Lib.byteCells s.data.toList).toArray = Y at *
  clear hg
  go_enter Tryz.func116, Tryz.ntmps116
  go_wp2
  go_ret
  exact ⟨rfl, Lib.below_freeze HB.out (Nat.le_refl _) _⟩

set_option maxHeartbeats 1000000 in
theorem cloneStr_any (s : ByteArray) (w : World) (hs : s.size ≤ 100000) (h0 : 0 < s.size) :
    Calls Tryz.prog 97 #[.string s] w fun e w' => e = .returned (.string s) ∧ Below w.heap.size w w' := by
  go_enter Tryz.func97, Tryz.ntmps97
  go_wp2_with fail
  refine (cloneIn_any s _ hs h0).mono ?_
  rintro e w1 ⟨rfl, HB⟩
  go_wp2
  go_ret
  exact ⟨rfl, HB⟩
end Go.Proofs.YtpmnfgbbkmodpaaGreatDoor
