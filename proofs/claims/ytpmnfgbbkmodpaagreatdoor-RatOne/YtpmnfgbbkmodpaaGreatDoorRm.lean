/-
  RATIONALS IN LOWEST TERMS: what stands above and below in a sum, a product, a quotient, a power. Nothing of the program's text is named here. No conditions.
-/
import Derived.Test.YtpmnfgbbkmodpaaGreatDoorRt
namespace Go.Proofs.YtpmnfgbbkmodpaaGreatDoor
open Nm
set_option linter.unusedVariables false

theorem prod_num (a b : Rat) : (a * b).num = (a.num / (a.num.natAbs.gcd b.den : Nat)) * (b.num / (b.num.natAbs.gcd a.den : Nat)) := by
  show (Rat.mul a b).num = _
  unfold Rat.mul
  simp only [Int.divExact_eq_ediv]
theorem prod_den (a b : Rat) : (a * b).den = (a.den / b.num.natAbs.gcd a.den) * (b.den / a.num.natAbs.gcd b.den) := by
  show (Rat.mul a b).den = _
  unfold Rat.mul
  simp only [Nat.divExact_eq_div]

/-- what stands above the shared bottom -/
def above (a b : Rat) : Int := a.num * (b.den / a.den.gcd b.den : Nat) + b.num * (a.den / a.den.gcd b.den : Nat)
theorem sum_both (a b : Rat) : (a + b).num = above a b / ((above a b).natAbs.gcd (a.den.gcd b.den) : Nat) ∧ (a + b).den = (a.den / a.den.gcd b.den) * (b.den / (above a b).natAbs.gcd (a.den.gcd b.den)) := by
  show (Rat.add a b).num = _ ∧ (Rat.add a b).den = _
  unfold Rat.add
  by_cases hg : a.den.gcd b.den = 1
  · simp only [hg, dif_pos, above, Nat.div_one, Nat.gcd_one_right]
    simp
  · simp only [hg, dif_neg, not_false_eq_true]
    rw [Rat.maybeNormalize_eq]
    refine ⟨rfl, ?_⟩
    show a.den / a.den.gcd b.den * b.den / (above a b).natAbs.gcd (a.den.gcd b.den) = _
    rw [Nat.mul_div_assoc _ (Nat.dvd_trans (Nat.gcd_dvd_right _ _) (Nat.gcd_dvd_right _ _))]

/-- turned over -/
theorem inv_num (b : Rat) : (b⁻¹).num = vl (decide (b.num < 0)) b.den ∨ b.num = 0 := by
  by_cases h0 : b.num = 0
  · exact Or.inr h0
  · left
    rw [Rat.num_inv]
    by_cases h : b.num < 0
    · rw [Int.sign_eq_neg_one_of_neg h]; simp [vl, h]
    · rw [Int.sign_eq_one_of_pos (by omega)]; simp [vl, h]
theorem inv_den {b : Rat} (h : b.num ≠ 0) : (b⁻¹).den = b.num.natAbs := by rw [Rat.den_inv, if_neg h]
theorem num_zero {b : Rat} : b.num = 0 ↔ b = 0 := ⟨fun h => by rw [← Rat.normalize_self b]; simp [h], fun h => by subst h; rfl⟩

/-- a rational is known by what stands above and below -/
theorem same_rat {a b : Rat} (h1 : a.num = b.num) (h2 : a.den = b.den) : a = b := Rat.ext h1 h2
theorem W_nat (n : Nat) : W (n : Int) = S n := by rw [W_nn (by omega)]; rfl
theorem den_gt (r : Rat) : 0 < r.den := Nat.pos_of_ne_zero r.den_nz

/-- a whole number by a natural that divides it -/
theorem shorter {z : Int} {g : Nat} (hg : g ≠ 0) (hd : g ∣ z.natAbs) : vl (decide (z < 0)) (z.natAbs / g) = z / (g : Int) := by
  obtain ⟨k, hk⟩ := hd
  have hgz : (g : Int) ≠ 0 := by omega
  rw [hk, Nat.mul_div_cancel_left _ (Nat.pos_of_ne_zero hg)]
  by_cases h : z < 0
  · have e : z = (g : Int) * (-(k : Int)) := by
      have : z = -((z.natAbs : Nat) : Int) := by omega
      rw [this, hk]; push_cast; rw [Int.mul_neg]
    have e2 : z / (g : Int) = -(k : Int) := by rw [e]; exact Int.mul_ediv_cancel_left _ hgz
    rw [e2, decide_eq_true h]; simp [vl]
  · have e : z = (g : Int) * (k : Int) := by
      have : z = ((z.natAbs : Nat) : Int) := by omega
      rw [this, hk]; push_cast; rfl
    have e2 : z / (g : Int) = (k : Int) := by rw [e]; exact Int.mul_ediv_cancel_left _ hgz
    rw [e2, decide_eq_false h]; simp [vl]
theorem shorter_gt {z : Int} {g : Nat} (hg : g ≠ 0) (hd : g ∣ z.natAbs) (h : z < 0) : 0 < z.natAbs / g := by
  exact Nat.div_pos (Nat.le_of_dvd (by omega) hd) (Nat.pos_of_ne_zero hg)
theorem shorter_le {z : Int} {g : Nat} (hg : g ≠ 0) (hd : g ∣ z.natAbs) : (z / (g : Int)).natAbs ≤ z.natAbs := by
  rw [← shorter hg hd]
  have : (vl (decide (z < 0)) (z.natAbs / g)).natAbs = z.natAbs / g := by
    generalize z.natAbs / g = m
    cases decide (z < 0) <;> simp [vl]
  rw [this]; exact Nat.div_le_self _ _
end Go.Proofs.YtpmnfgbbkmodpaaGreatDoor
