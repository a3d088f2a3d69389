/-
  THE FIXED ANSWER OF STAGE 7. Conditions: the package's errors and the library's table stand where they were laid.
-/
import Derived.Test.YtjkobbpebnkimaaGreatDoorKe
namespace Go.Proofs.YtjkobbpebnkimaaGreatDoor.Tn
set_option maxRecDepth 100000
open Go.RowKit Nm
set_option linter.unusedVariables false

theorem tA7 : Tr [2] [-1, 2] 10 := Tr.small rgt2 sz2.symm (by decide +kernel)
theorem sA7 : ([-1, 2] : List Rat).map R = [⟨#[45, 49]⟩, ⟨#[50]⟩] := by decide +kernel
theorem sB7 : (([-1, 2] : List Rat).map kRelu).map R = [⟨#[48]⟩, ⟨#[50]⟩] := by decide +kernel
theorem zero7 : zero [0] = true := by decide +kernel
theorem R07 : R 0 = ⟨#[48]⟩ := by decide +kernel
theorem R17 : R 1 = ⟨#[49]⟩ := by decide +kernel

set_option maxHeartbeats 4000000 in
theorem awake_any (aF aZ : Addr) (w : World) (hE : Er w aF aZ) : Calls Tryz.prog 12 #[] w fun e w' => e = .returned (.bool true) ∧ Below w.heap.size w w' := by
  obtain ⟨w0, hw0⟩ : ∃ w0, w0 = (w.alloc (.cells #[.int .i64 2] 3)).alloc (.cells #[.string ⟨#[45, 49]⟩, .string ⟨#[50]⟩] 9) := ⟨_, rfl⟩
  have hb0 : Below w.heap.size w w0 := by subst hw0; exact bl_alloc (bl_alloc (Below.refl _ _) _) _
  have q0 : w0.heap[w.heap.size]? = some (.cells #[.int .i64 2] 3 (0, 0)) := by subst hw0; exact (heap_alloc_old _ _ (by simp)).trans (heap_alloc_new w _)
  have q1 : w0.heap[w.heap.size + 1]? = some (.cells #[.string ⟨#[45, 49]⟩, .string ⟨#[50]⟩] 9 (0, 0)) := by
    have n1 := heap_alloc_new (w.alloc (.cells #[.int .i64 2] 3)) (.cells #[.string ⟨#[45, 49]⟩, .string ⟨#[50]⟩] 9)
    rw [show (w.alloc (.cells #[.int .i64 2] 3)).heap.size = w.heap.size + 1 by simp] at n1
    rw [hw0]; exact n1
  have hA : Tt w0 0 (some ⟨w.heap.size, 0, none⟩) (some ⟨w.heap.size + 1, 0, none⟩) [2] 1 2 [-1, 2] 10 := ⟨⟨row_sl (row_of q0), by rw [sA7]; exact row_of q1, fun _ _ _ _ => Nat.zero_le _, fun _ _ _ _ => Nat.zero_le _⟩, tA7, rfl, rfl⟩
  have k := zrelu 1 2 (hE.below hb0) hA (by omega)
  rw [hw0] at k
  have HE : Hid _ := hE
  have HB0 : Hid _ := hb0
  rw [hw0] at HB0
  clear hA q0 q1 hw0 hb0 hE
  go_enter Tryz.func12, Tryz.ntmps12
  go_wp2_with fail
  refine k.mono ?_
  rintro e w1 ⟨a3, c3, b3, d3, rfl, hT, hb⟩
  have hr := hT.tm.r
  rw [sB7] at hr
  obtain ⟨p, q, e3, x0⟩ := row_str hr (i := 0) (by simp)
  subst e3
  obtain ⟨p', q', e4, x1⟩ := row_str hr (i := 1) (by simp)
  cases e4
  simp only [List.getD, List.getElem?_cons_zero, List.getElem?_cons_succ, Option.getD_some, Nat.add_zero] at x0 x1
  have HB : Hid _ := bl_trans HB0.out hb
  clear hb hT k HB0 hr
  obtain ⟨w2, hw2⟩ : ∃ w2, w2 = (w1.alloc (.cells #[.slice a3 1 c3, .slice (some ⟨p, q, none⟩) 2 d3] 25)).alloc (.cells #[.string ⟨#[48]⟩] 9) := ⟨_, rfl⟩
  have hb1 : Below w1.heap.size w1 w2 := by subst hw2; exact bl_alloc (bl_alloc (Below.refl _ _) _) _
  have c9 : w2.cell? ⟨w1.heap.size + 1, 0, none⟩ = some (.string (R 0)) := by subst hw2; rw [R07]; simp
  have y0 := cell_below hb1 x0
  have y1 := cell_below hb1 x1
  have y2 : w2.cell? ⟨w1.heap.size, 0, none⟩ = some (.slice a3 1 c3) := by subst hw2; simp
  have y3 : w2.cell? ⟨w1.heap.size, 1, none⟩ = some (.slice (some ⟨p, q, none⟩) 2 d3) := by subst hw2; simp
  have k := zflat 0 1 (HE.out.below (bl_trans HB.out hb1)) (Tt.one (B := 0) (k := 1) c9 (Nat.zero_le _) (bd0 (Nat.le_refl 1))) (by omega)
  rw [zero7] at k
  have H2 : Hid _ := bl_trans HB.out hb1
  have HY : Hid _ := And.intro y0 (And.intro y1 (And.intro y2 y3))
  rw [hw2] at k HY H2
  clear HB hb1 c9 y0 y1 y2 y3 hw2 x0 x1
  go_wp2_with fail
  refine k.mono ?_
  rintro e w3 ⟨rfl, hb⟩
  have y0 := cell_below hb HY.out.1
  have y1 := cell_below hb HY.out.2.1
  have y2 := cell_below hb HY.out.2.2.1
  have y3 := cell_below hb HY.out.2.2.2
  have H3 : Hid _ := bl_trans H2.out hb
  clear hb k HY H2
  go_wp2
  go_ret
  exact ⟨rfl, H3.out⟩
end Go.Proofs.YtjkobbpebnkimaaGreatDoor.Tn
