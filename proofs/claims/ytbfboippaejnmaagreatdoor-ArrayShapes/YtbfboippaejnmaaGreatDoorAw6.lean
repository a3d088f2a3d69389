/-
  THE FIXED ANSWER OF STAGE 6. Conditions: the package's errors stand where they were laid.
-/
import Derived.Test.YtbfboippaejnmaaGreatDoorAy
namespace Go.Proofs.YtbfboippaejnmaaGreatDoor.Tn
set_option maxRecDepth 100000
open Go.RowKit Nm
set_option linter.unusedVariables false

theorem rA : Sp.Rgt [((1 : Nat) : Int), ((2 : Nat) : Int)] := (rgt_two 1 2).2 (by omega)
theorem rB : Sp.Rgt [((2 : Nat) : Int), ((1 : Nat) : Int)] := (rgt_two 2 1).2 (by omega)
theorem tA : Tr [((1 : Nat) : Int), ((2 : Nat) : Int)] [1, 2] 10 := Tr.small rA (by rw [sz_two rA]; rfl) (by decide +kernel)
theorem tB : Tr [((2 : Nat) : Int), ((1 : Nat) : Int)] [3, 4] 10 := Tr.small rB (by rw [sz_two rB]; rfl) (by decide +kernel)
theorem sA : ([1, 2] : List Rat).map R = [⟨#[49]⟩, ⟨#[50]⟩] := by decide +kernel
theorem sB : ([3, 4] : List Rat).map R = [⟨#[51]⟩, ⟨#[52]⟩] := by decide +kernel
theorem sC : (mm 1 2 1 [1, 2] [3, 4]).map R = [⟨#[49, 49]⟩] := by decide +kernel

set_option maxHeartbeats 2000000 in
theorem awake_any (aF aZ : Addr) (w : World) (hE : Er w aF aZ) : Calls Tryz.prog 13 #[] w fun e w' => e = .returned (.bool true) ∧ Below w.heap.size w w' := by
  obtain ⟨w0, hw0⟩ : ∃ w0, w0 = (((w.alloc (.cells #[.int .i64 1, .int .i64 2] 3)).alloc (.cells #[.string ⟨#[49]⟩, .string ⟨#[50]⟩] 9)).alloc (.cells #[.int .i64 2, .int .i64 1] 3)).alloc (.cells #[.string ⟨#[51]⟩, .string ⟨#[52]⟩] 9) := ⟨_, rfl⟩
  have hb0 : Below w.heap.size w w0 := by subst hw0; exact bl_alloc (bl_alloc (bl_alloc (bl_alloc (Below.refl _ _) _) _) _) _
  obtain ⟨q0, q1, q2, q3⟩ := four_blocks hw0
  have hA : Tt w0 0 (some ⟨w.heap.size, 0, none⟩) (some ⟨w.heap.size + 1, 0, none⟩) [((1 : Nat) : Int), ((2 : Nat) : Int)] 2 2 [1, 2] 10 := ⟨⟨row_sl (row_of q0), by rw [sA]; exact row_of q1, fun _ _ _ _ => Nat.zero_le _, fun _ _ _ _ => Nat.zero_le _⟩, tA, rfl, rfl⟩
  have hB : Tt w0 0 (some ⟨w.heap.size + 1 + 1, 0, none⟩) (some ⟨w.heap.size + 1 + 1 + 1, 0, none⟩) [((2 : Nat) : Int), ((1 : Nat) : Int)] 2 2 [3, 4] 10 := ⟨⟨row_sl (row_of q2), by rw [sB]; exact row_of q3, fun _ _ _ _ => Nat.zero_le _, fun _ _ _ _ => Nat.zero_le _⟩, tB, rfl, rfl⟩
  have k := zmm (N := 1) 2 2 2 2 (hE.below hb0) hA hB (by omega) rfl (by omega)
  rw [hw0] at k
  have HB0 : Hid _ := hb0
  rw [hw0] at HB0
  clear hA hB q0 q1 q2 q3 hw0 hb0 hE
  go_enter Tryz.func13, Tryz.ntmps13
  go_wp2_with fail
  refine k.mono ?_
  rintro e w1 ⟨a3, c3, b3, d3, rfl, hT, hb⟩
  have hr := hT.tm.r
  rw [sC] at hr
  obtain ⟨p, q, e3, x0⟩ := row_str hr (i := 0) (by simp)
  subst e3
  have HB : Hid _ := bl_trans HB0.out hb
  clear hb hT k HB0 hr
  simp only [List.getD, List.getElem?_cons_zero, Option.getD_some, Nat.add_zero] at x0
  have y0 : (w1.alloc (.cells #[.slice a3 2 c3, .slice (some ⟨p, q, none⟩) 1 d3] 25)).cell? ⟨p, q, none⟩ = some (.string ⟨#[49, 49]⟩) := cell_below ((Below.refl _ _).alloc (Nat.le_refl _) _) x0
  clear x0
  go_wp2
  go_ret
  exact ⟨rfl, bl_alloc HB.out _⟩
end Go.Proofs.YtbfboippaejnmaaGreatDoor.Tn
