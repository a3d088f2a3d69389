/-
  WHAT A CALL OF short AND OF awake GIVES. Conditions: sizes.
-/
import Derived.Test.YtpmnfgbbkmodpaaGreatDoorRefW
namespace Go.Proofs.YtpmnfgbbkmodpaaGreatDoor
set_option maxRecDepth 100000
open Go.RowKit Nm
set_option linter.unusedVariables false

/-- short enough, and a whole number -/
def ok (s : ByteArray) : Bool := decide (s.size ≤ 100) && wh s

theorem W_lit {l : List UInt8} {n : Nat} (h : rt l = true) (e : dv l = n) : W n = ⟨l.toArray⟩ := by
  rw [W_nn (by omega), Int.natAbs_natCast]; exact S_lit h e
theorem W_nlit {l : List UInt8} {n : Nat} (h : rt l = true) (e : dv l = n) (h0 : 0 < n) : W (-(n : Int)) = ⟨(45 :: l).toArray⟩ := by
  rw [W_ng (by omega), Int.natAbs_neg, Int.natAbs_natCast, S_lit h e]
  apply ba_ext; rw [ma_data]

theorem tl_small {n : Nat} (h : n < 10) : tl n ≤ 1 := tl_le (by simpa using h) (by omega)

theorem mul_litw (w : World) : Calls Tryz.prog 84 #[.string ⟨#[45, 50]⟩, .string ⟨#[45, 51]⟩] w fun e w' => e = .returned (.tuple #[.string ⟨#[54]⟩, .int .i64 0]) ∧ Below w.heap.size w w' := by
  have h := Mulw_W (-2) (-3) w (by have := tl_small (n := 2) (by omega); exact Nat.le_trans this (by omega)) (by have := tl_small (n := 3) (by omega); exact Nat.le_trans this (by omega))
  rw [show W (-2) = ⟨#[45, 50]⟩ from W_nlit (l := [50]) (n := 2) (by decide) (by decide) (by omega), show W (-3) = ⟨#[45, 51]⟩ from W_nlit (l := [51]) (n := 3) (by decide) (by decide) (by omega), show W (-2 * -3) = ⟨#[54]⟩ from W_lit (l := [54]) (n := 6) (by decide) (by decide)] at h
  exact h

theorem wh7 : wh ⟨#[45, 55]⟩ = true := by
  rw [← show W (-7) = ⟨#[45, 55]⟩ from W_nlit (l := [55]) (n := 7) (by decide) (by decide) (by omega)]; exact wh_W _
theorem wh0 : wh ⟨#[45, 48]⟩ = false := by
  rw [wh_sz]
  rw [show ((⟨#[45, 48]⟩ : ByteArray).toList == [45, 48]) = true from by rw [toList_data]; rfl]
  simp

theorem tw_add (x y : Int) : tl (x + y).natAbs ≤ tl x.natAbs + tl y.natAbs :=
  Nat.le_trans (tl_mono (Int.natAbs_add_le x y)) (tl_add _ _)
theorem tw_sub (x y : Int) : tl (x - y).natAbs ≤ tl x.natAbs + tl y.natAbs :=
  Nat.le_trans (tl_mono (Int.natAbs_sub_le x y)) (tl_add _ _)
theorem tw_mul (x y : Int) : tl (x * y).natAbs ≤ tl x.natAbs + tl y.natAbs := by rw [Int.natAbs_mul]; exact tl_mul _ _
theorem tw_neg (x : Int) : tl (-x).natAbs = tl x.natAbs := by rw [Int.natAbs_neg]
theorem tw_of {z : Int} (h : (W z).size ≤ 100) : tl z.natAbs ≤ 100 := Nat.le_trans (tl_W z) h
end Go.Proofs.YtpmnfgbbkmodpaaGreatDoor
