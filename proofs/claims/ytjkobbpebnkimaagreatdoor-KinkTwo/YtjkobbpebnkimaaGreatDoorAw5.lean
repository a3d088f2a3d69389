/-
  THE FIXED ANSWER OF STAGE 5. Conditions: the package's errors stand where they were laid.
-/
import Derived.Test.YtjkobbpebnkimaaGreatDoorTq
namespace Go.Proofs.YtjkobbpebnkimaaGreatDoor.Tn
set_option maxRecDepth 100000
open Go.RowKit Nm
set_option linter.unusedVariables false

theorem rgt2 : Sp.Rgt [2] := by decide
theorem sz2 : Sp.szI [2] = 2 := by decide
theorem Tr.small {zs : List Int} {qs : List Rat} {n : Nat} (hr : Sp.Rgt zs) (hl : qs.length = Sp.szI zs) (h : qs.all (fun q => decide ((R q).size ≤ n)) = true) : Tr zs qs n :=
  ⟨hr, hl, fun q hq => Bd.of_size (by simpa using List.all_eq_true.1 h q hq)⟩
theorem trA : Tr [2] [1, 2] 10 := Tr.small rgt2 sz2.symm (by decide +kernel)
theorem trB : Tr [2] [1 / 2, 3] 10 := Tr.small rgt2 sz2.symm (by decide +kernel)
theorem strA : ([1, 2] : List Rat).map R = [⟨#[49]⟩, ⟨#[50]⟩] := by decide +kernel
theorem strB : ([1 / 2, 3] : List Rat).map R = [⟨#[49, 47, 50]⟩, ⟨#[51]⟩] := by decide +kernel
theorem strC : (List.zipWith (· + ·) ([1, 2] : List Rat) [1 / 2, 3]).map R = [⟨#[51, 47, 50]⟩, ⟨#[53]⟩] := by decide +kernel

theorem row_of {w : World} {b : Nat} {vs : List Value} {t : TypeId} (h : w.heap[b]? = some (.cells vs.toArray t (0, 0))) : Row w (some ⟨b, 0, none⟩) vs := by
  intro i v hi
  refine ⟨b, 0, rfl, ?_⟩
  have : (vs.toArray)[i]? = some v := by simpa using hi
  simp [World.cell?, h, this]

theorem four_blocks {w v : World} {a b c d : Array Value} {p q r s : TypeId} (h : v = (((w.alloc (.cells a p)).alloc (.cells b q)).alloc (.cells c r)).alloc (.cells d s)) :
    v.heap[w.heap.size]? = some (.cells a p (0, 0)) ∧ v.heap[w.heap.size + 1]? = some (.cells b q (0, 0)) ∧ v.heap[w.heap.size + 1 + 1]? = some (.cells c r (0, 0)) ∧ v.heap[w.heap.size + 1 + 1 + 1]? = some (.cells d s (0, 0)) := by
  subst h
  have n1 := heap_alloc_new (w.alloc (.cells a p)) (.cells b q)
  have n2 := heap_alloc_new ((w.alloc (.cells a p)).alloc (.cells b q)) (.cells c r)
  have n3 := heap_alloc_new (((w.alloc (.cells a p)).alloc (.cells b q)).alloc (.cells c r)) (.cells d s)
  rw [show (w.alloc (.cells a p)).heap.size = w.heap.size + 1 by simp] at n1
  rw [show ((w.alloc (.cells a p)).alloc (.cells b q)).heap.size = w.heap.size + 1 + 1 by simp] at n2
  rw [show (((w.alloc (.cells a p)).alloc (.cells b q)).alloc (.cells c r)).heap.size = w.heap.size + 1 + 1 + 1 by simp] at n3
  exact ⟨(heap_alloc_old _ _ (by simp <;> omega)).trans ((heap_alloc_old _ _ (by simp <;> omega)).trans ((heap_alloc_old _ _ (by simp)).trans (heap_alloc_new w _))),
    (heap_alloc_old _ _ (by simp)).trans ((heap_alloc_old _ _ (by simp)).trans n1), (heap_alloc_old _ _ (by simp)).trans n2, n3⟩

end Go.Proofs.YtjkobbpebnkimaaGreatDoor.Tn
