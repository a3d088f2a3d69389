/-
  THE FIXED ANSWER OF STAGE 5. Conditions: the package's errors stand where they were laid.
-/
import Derived.Test.YtfblgaffkflenaaGreatDoorTq
namespace Go.Proofs.YtfblgaffkflenaaGreatDoor.Tn
set_option maxRecDepth 100000
open Go.RowKit Nm
set_option linter.unusedVariables false

theorem rgt2 : Sp.Rgt [2] := by decide
theorem sz2 : Sp.szI [2] = 2 := by decide
theorem Tr.small {zs : List Int} {qs : List Rat} {n : Nat} (hr : Sp.Rgt zs) (hl : qs.length = Sp.szI zs) (h : qs.all (fun q => decide ((R q).size ≤ n)) = true) : Tr zs qs n :=
  ⟨hr, hl, fun q hq => Bd.of_size (by simpa using List.all_eq_true.1 h q hq)⟩
theorem trA : Tr [2] [1, 2] 10 := Tr.small rgt2 sz2.symm (by decide +kernel)
theorem trB : Tr [2] [1 / 2, 3] 10 := Tr.small rgt2 sz2.symm (by decide +kernel)
theorem strA : ([1, 2] : List Rat).map R = [⟨#[49]⟩, ⟨#[50]⟩] := by decide +kernel
theorem strB : ([1 / 2, 3] : List Rat).map R = [⟨#[49, 47, 50]⟩, ⟨#[51]⟩] := by decide +kernel
theorem strC : (List.zipWith (· + ·) ([1, 2] : List Rat) [1 / 2, 3]).map R = [⟨#[51, 47, 50]⟩, ⟨#[53]⟩] := by decide +kernel

theorem row_of {w : World} {b : Nat} {vs : List Value} {t : TypeId} (h : w.heap[b]? = some (.cells vs.toArray t (0, 0))) : Row w (some ⟨b, 0, none⟩) vs := by
  intro i v hi
  refine ⟨b, 0, rfl, ?_⟩
  have : (vs.toArray)[i]? = some v := by simpa using hi
  simp [World.cell?, h, this]

theorem four_blocks {w v : World} {a b c d : Array Value} {p q r s : TypeId} (h : v = (((w.alloc (.cells a p)).alloc (.cells b q)).alloc (.cells c r)).alloc (.cells d s)) :
    v.heap[w.heap.size]? = some (.cells a p (0, 0)) ∧ v.heap[w.heap.size + 1]? = some (.cells b q (0, 0)) ∧ v.heap[w.heap.size + 1 + 1]? = some (.cells c r (0, 0)) ∧ v.heap[w.heap.size + 1 + 1 + 1]? = some (.cells d s (0, 0)) := by
  subst h
  have n1 := heap_alloc_new (w.alloc (.cells a p)) (.cells b q)
  have n2 := heap_alloc_new ((w.alloc (.cells a p)).alloc (.cells b q)) (.cells c r)
  have n3 := heap_alloc_new (((w.alloc (.cells a p)).alloc (.cells b q)).alloc (.cells c r)) (.cells d s)
  rw [show (w.alloc (.cells a p)).heap.size = w.heap.size + 1 by simp] at n1
  rw [show ((w.alloc (.cells a p)).alloc (.cells b q)).heap.size = w.heap.size + 1 + 1 by simp] at n2
  rw [show (((w.alloc (.cells a p)).alloc (.cells b q)).alloc (.cells c r)).heap.size = w.heap.size + 1 + 1 + 1 by simp] at n3
  exact ⟨(heap_alloc_old _ _ (by simp <;> omega)).trans ((heap_alloc_old _ _ (by simp <;> omega)).trans ((heap_alloc_old _ _ (by simp)).trans (heap_alloc_new w _))),
    (heap_alloc_old _ _ (by simp)).trans ((heap_alloc_old _ _ (by simp)).trans n1), (heap_alloc_old _ _ (by simp)).trans n2, n3⟩

set_option maxHeartbeats 2000000 in
theorem awake_any (aF aZ : Addr) (w : World) (hE : Er w aF aZ) : Calls Tryz.prog 13 #[] w fun e w' => e = .returned (.bool true) ∧ Below w.heap.size w w' := by
  obtain ⟨w0, hw0⟩ : ∃ w0, w0 = (((w.alloc (.cells #[.int .i64 2] 3)).alloc (.cells #[.string ⟨#[49]⟩, .string ⟨#[50]⟩] 9)).alloc (.cells #[.int .i64 2] 3)).alloc (.cells #[.string ⟨#[49, 47, 50]⟩, .string ⟨#[51]⟩] 9) := ⟨_, rfl⟩
  have hb0 : Below w.heap.size w w0 := by subst hw0; exact bl_alloc (bl_alloc (bl_alloc (bl_alloc (Below.refl _ _) _) _) _) _
  obtain ⟨q0, q1, q2, q3⟩ := four_blocks hw0
  have hA : Tm w0 0 (some ⟨w.heap.size, 0, none⟩) (some ⟨w.heap.size + 1, 0, none⟩) [2] (([1, 2] : List Rat).map R) := ⟨row_sl (row_of q0), by rw [strA]; exact row_of q1, fun _ _ _ _ => Nat.zero_le _, fun _ _ _ _ => Nat.zero_le _⟩
  have hB : Tm w0 0 (some ⟨w.heap.size + 1 + 1, 0, none⟩) (some ⟨w.heap.size + 1 + 1 + 1, 0, none⟩) [2] (([1 / 2, 3] : List Rat).map R) := ⟨row_sl (row_of q2), by rw [strB]; exact row_of q3, fun _ _ _ _ => Nat.zero_le _, fun _ _ _ _ => Nat.zero_le _⟩
  have k := Zip_add _ _ _ _ 1 2 1 2 0 0 10 [2] [1, 2] [1 / 2, 3] aF aZ w0 (hE.below hb0) hA hB trA trB (by omega)
  unfold Ans at k
  rw [strA, strB, strC] at k
  simp only [List.length_cons, List.length_nil, Nat.zero_add] at k
  rw [hw0] at k
  have HB0 : Hid _ := hb0
  rw [hw0] at HB0
  clear hA hB q0 q1 q2 q3 hw0 hb0 hE
  go_enter Tryz.func13, Tryz.ntmps13
  go_wp2_with fail
  refine k.mono ?_
  rintro e w1 ⟨⟨a3, c3, b3, d3, rfl, hT⟩, hb⟩
  obtain ⟨p, q, e3, x0⟩ := row_str hT.r (i := 0) (by simp)
  obtain ⟨p', q', e4, x1⟩ := row_str hT.r (i := 1) (by simp)
  subst e3
  cases e4
  have HB : Hid _ := bl_trans HB0.out hb
  clear hb hT k HB0
  simp only [List.getD, List.getElem?_cons_zero, List.getElem?_cons_succ, Option.getD_some, Nat.add_zero] at x0 x1
  have hp : p < w1.heap.size := row_lt x0
  have y0 : (w1.alloc (.cells #[.slice a3 1 c3, .slice (some ⟨p, q, none⟩) 2 d3] 25)).cell? ⟨p, q, none⟩ = some (.string ⟨#[51, 47, 50]⟩) := cell_below ((Below.refl _ _).alloc (Nat.le_refl _) _) x0
  have y1 : (w1.alloc (.cells #[.slice a3 1 c3, .slice (some ⟨p, q, none⟩) 2 d3] 25)).cell? ⟨p, q + 1, none⟩ = some (.string ⟨#[53]⟩) := cell_below ((Below.refl _ _).alloc (Nat.le_refl _) _) x1
  clear hp x0 x1
  go_wp2
  go_ret
  exact ⟨rfl, bl_alloc HB.out _⟩
end Go.Proofs.YtfblgaffkflenaaGreatDoor.Tn
