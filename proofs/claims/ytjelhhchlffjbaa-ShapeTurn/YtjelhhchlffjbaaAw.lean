/-
  THE FIXED ANSWER: it is true. No conditions.
-/
import Derived.Test.YtjelhhchlffjbaaNx
namespace Go.Proofs.Ytjelhhchlffjbaa
set_option maxRecDepth 100000
open Go.RowKit
set_option linter.unusedVariables false

theorem Sl.two {w : World} {b : Nat} {x y : Int} (h0 : w.cell? ⟨b, 0, none⟩ = some (.int .i64 x)) (h1 : w.cell? ⟨b, 1, none⟩ = some (.int .i64 y)) : Sl w (some ⟨b, 0, none⟩) [x, y] := by
  refine Sl.mk fun i hi => ?_
  match i, hi with
  | 0, _ => exact h0
  | 1, _ => exact h1
theorem Sl.one {w : World} {b : Nat} {x : Int} (h0 : w.cell? ⟨b, 0, none⟩ = some (.int .i64 x)) : Sl w (some ⟨b, 0, none⟩) [x] := by
  refine Sl.mk fun i hi => ?_
  match i, hi with
  | 0, _ => exact h0

set_option maxHeartbeats 1000000 in
theorem awake_any (w : World) : Calls Try.prog 10 #[] w fun e w' => e = .returned (.bool true) ∧ Below w.heap.size w w' := by
  go_enter Try.func10, Try.ntmps10
  go_wp2_with fail
  refine (offset_any (some ⟨w.heap.size, 0, none⟩) (some ⟨w.heap.size + 1, 0, none⟩) [2, 3] [1, 2] 2 2 _ (by decide) (by decide) (Sl.two (by simp) (by simp)) (Sl.two (by simp) (by simp))).mono ?_
  rintro e w1 ⟨rfl, rfl⟩
  have e1 : offs [2, 3] [1, 2] = 5 := by decide +kernel
  have e2 : decide (Rgt [2, 3] ∧ Inn [2, 3] [1, 2]) = true := by decide +kernel
  rw [e1, e2]
  clear e1 e2
  go_wp2_with fail
  refine (place_any (some ⟨w.heap.size + 1 + 1, 0, none⟩) [2, 3] 2 5 _ (by decide) (Sl.two (by go_simp) (by go_simp))).mono ?_
  have e1 : plcI [2, 3] 5 = [1, 2] := by decide +kernel
  have e2 : decide (0 ≤ (5 : Int) ∧ (5 : Int) < szI [2, 3]) = true := by decide +kernel
  rw [e1, e2]
  clear e1 e2
  rintro e w2 ⟨ao, cap, rfl, hSl, hB⟩
  have hB2 : Below w.heap.size w w2 := ((((Below.refl _ _).alloc (Nat.le_refl _) _).alloc (by simp) _).alloc (by simp; omega) _).trans (hB.mono (by simp; omega))
  have H2 : Hid (Sl w2 ao [1, 2] ∧ Below w.heap.size w w2) := ⟨hSl, hB2⟩
  clear hSl hB hB2
  go_wp2_with fail
  refine (refSame_any ao (some ⟨w2.heap.size, 0, none⟩) [1, 2] [1, 2] cap 2 _ (by decide) (by decide) (H2.out.1.below ((Below.refl _ _).alloc (Nat.le_refl _) _)) (Sl.two (by simp) (by simp))).mono ?_
  rintro e w3 ⟨rfl, hm⟩
  have hB3 : Below w.heap.size w w3 := ((H2.out.2.alloc H2.out.2.size _)).trans (hm.below _)
  have H3 : Hid (Below w.heap.size w w3) := hB3
  clear hB3 hm H2
  rw [decide_eq_true rfl]
  go_wp2_with fail
  refine (size_any none [] 0 w3 (by decide) (Sl.nil _ _)).mono ?_
  rintro e w4 ⟨rfl, rfl⟩
  have e1 : szI [] = 1 := by decide +kernel
  rw [e1]
  clear e1
  go_wp2_with fail
  refine (right_any (some ⟨w4.heap.size, 0, none⟩) [65] 1 _ (by decide) (Sl.one (by simp))).mono ?_
  rintro e w5 ⟨rfl, rfl⟩
  have e1 : decide (Rgt [65]) = false := by decide +kernel
  rw [e1]
  clear e1
  go_wp2
  go_ret
  exact ⟨rfl, H3.out.alloc H3.out.size _⟩
end Go.Proofs.Ytjelhhchlffjbaa
