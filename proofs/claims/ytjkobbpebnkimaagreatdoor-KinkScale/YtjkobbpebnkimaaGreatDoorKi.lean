/-
  THE NUMERALS OF -1, 0 AND 1, as strconv.Itoa gives them. Conditions: the library's table of powers of ten stands where it was laid.
-/
import Derived.Test.YtjkobbpebnkimaaGreatDoorKr
import Derived.Test.YtjkobbpebnkimaaGreatDoorNm
namespace Go.Proofs.YtjkobbpebnkimaaGreatDoor.Tn
set_option maxRecDepth 100000
open Go.RowKit Nm
set_option linter.unusedVariables false

set_option maxHeartbeats 2000000 in
theorem len64_1 (w : World) : Calls Tryz.prog 176 #[.int .u64 1] w fun e w' => e = .returned (.int .i64 1) ∧ w' = w := by
  go_enter Tryz.func176, Tryz.ntmps176
  go_wp2
  all_goals (go_ret; exact ⟨by kernel_rfl, rfl⟩)
set_option maxHeartbeats 2000000 in
theorem digits_1 (w : World) (ht : w.cell? ⟨4, 0, none⟩ = some (.int .u64 1)) : Calls Tryz.prog 145 #[.int .u64 1] w fun e w' => e = .returned (.int .i64 1) ∧ w' = w := by
  go_enter Tryz.func145, Tryz.ntmps145
  go_wp2_with (first
    | (go_at_call 176; refine (len64_1 _).mono ?_; rintro e w' ⟨rfl, rfl⟩)
    | go_in)
  all_goals (go_ret; exact ⟨by first | rfl | kernel_rfl, rfl⟩)
set_option maxHeartbeats 4000000 in
theorem itoa_0 (w : World) : Calls Tryz.prog 75 #[.int .i64 0] w fun e w' => e = .returned (.string ⟨#[48]⟩) ∧ Below w.heap.size w w' := by
  go_enter Tryz.func75, Tryz.ntmps75
  go_wp2
  all_goals (go_ret; exact ⟨by first | rfl | kernel_rfl, Below.refl _ _⟩)
set_option maxHeartbeats 4000000 in
theorem itoa_1 (w : World) : Calls Tryz.prog 75 #[.int .i64 1] w fun e w' => e = .returned (.string ⟨#[49]⟩) ∧ Below w.heap.size w w' := by
  go_enter Tryz.func75, Tryz.ntmps75
  go_wp2
  all_goals (go_ret; exact ⟨by first | rfl | kernel_rfl, Below.refl _ _⟩)
set_option maxHeartbeats 4000000 in
theorem fmt_1 (b c : Nat) (w : World) (hc : w.cell? ⟨b, 1, none⟩ = some (.int .u8 0)) (hf : w.frozen? ⟨b, 1, none⟩ = false) :
    Calls Tryz.prog 146 #[.slice (some ⟨b, 1, none⟩) 1 c, .int .u64 1] w fun e w' => (∃ v, e = .returned v) ∧ w' = w.setCell ⟨b, 1, none⟩ (.int .u8 49) := by
  go_enter Tryz.func146, Tryz.ntmps146
  go_wp2_with fail
  refine wp_loop_rounds 1 ?_
  rw [rounds_succ]
  go_wp2
  exact bodyPost_end (results_none rfl _ _ _) rfl ⟨⟨_, rfl⟩, rfl⟩
set_option maxHeartbeats 4000000 in
theorem format_m (w : World) (ht : w.cell? ⟨4, 0, none⟩ = some (.int .u64 1)) : Calls Tryz.prog 118 #[.int .i64 (-1), .int .i64 10] w fun e w' => e = .returned (.string ⟨#[45, 49]⟩) ∧ Below w.heap.size w w' := by
  have hw : IntKind.u64.wrap (-IntKind.u64.wrap (-1)) = 1 := by decide
  have HT : Hid _ := cell_below (bl_alloc (Below.refl w.heap.size w) (.cells #[.int .u8 0, .int .u8 0, .int .u8 0, .int .u8 0, .int .u8 0, .int .u8 0, .int .u8 0, .int .u8 0, .int .u8 0, .int .u8 0, .int .u8 0, .int .u8 0, .int .u8 0, .int .u8 0, .int .u8 0, .int .u8 0, .int .u8 0, .int .u8 0, .int .u8 0, .int .u8 0, .int .u8 0, .int .u8 0, .int .u8 0, .int .u8 0] 150)) ht
  have HB : Hid _ := bl_alloc (Below.refl w.heap.size w) (.cells #[.int .u8 0, .int .u8 0, .int .u8 0, .int .u8 0, .int .u8 0, .int .u8 0, .int .u8 0, .int .u8 0, .int .u8 0, .int .u8 0, .int .u8 0, .int .u8 0, .int .u8 0, .int .u8 0, .int .u8 0, .int .u8 0, .int .u8 0, .int .u8 0, .int .u8 0, .int .u8 0, .int .u8 0, .int .u8 0, .int .u8 0, .int .u8 0] 150)
  clear ht
  go_enter Tryz.func118, Tryz.ntmps118
  go_wp2_with fail
  go_at_call 145
  refine (digits_1 _ HT.out).mono ?_
  rintro e w1 ⟨rfl, rfl⟩
  go_wp2_with fail
  go_at_call 146
  refine (fmt_1 _ _ _ (by simp) (by simp)).mono ?_
  rintro e w1 ⟨⟨v, rfl⟩, rfl⟩
  have hcv := run_convert_bytes_arg (P := Tryz.prog) (w.alloc (.cells #[.int .u8 45, .int .u8 49, .int .u8 0, .int .u8 0, .int .u8 0, .int .u8 0, .int .u8 0, .int .u8 0, .int .u8 0, .int .u8 0, .int .u8 0, .int .u8 0, .int .u8 0, .int .u8 0, .int .u8 0, .int .u8 0, .int .u8 0, .int .u8 0, .int .u8 0, .int .u8 0, .int .u8 0, .int .u8 0, .int .u8 0, .int .u8 0] 150)) 43 5 Tryz.underlying43 Tryz.underlying5 w.heap.size 0 2 24 [45, 49] rfl (fun i hi => by
    rcases (by omega : i = 0 ∨ i = 1) with rfl | rfl <;> simp) 9 Tryz.underlying9
  have e1 : (⟨([45, 49].map fun (z : Int) => UInt8.ofNat z.toNat).toArray⟩ : ByteArray) = ⟨#[45, 49]⟩ := rfl
  go_wp2
  go_ret
  exact ⟨by first | rfl | (simp; done) | kernel_rfl, bl_alloc (Below.refl _ _) _⟩
set_option maxHeartbeats 4000000 in
theorem itoa_m (w : World) (ht : w.cell? ⟨4, 0, none⟩ = some (.int .u64 1)) : Calls Tryz.prog 75 #[.int .i64 (-1)] w fun e w' => e = .returned (.string ⟨#[45, 49]⟩) ∧ Below w.heap.size w w' := by
  have hf := format_m w ht
  clear ht
  go_enter Tryz.func75, Tryz.ntmps75
  go_wp2_with (first
    | (go_at_call 118; refine hf.mono ?_; rintro e w1 ⟨rfl, hb⟩)
    | go_in)
  go_ret
  exact ⟨rfl, hb⟩
end Go.Proofs.YtjkobbpebnkimaaGreatDoor.Tn
