/-
  PLAIN FACTS ON ORDER AND ON SHORT DIVISION OF LIMBS: nothing of the program is named here. No conditions.
-/
import Derived.Test.YtpmnfgbbkmodpaaGreatDoorNmMul
namespace Go.Proofs.YtpmnfgbbkmodpaaGreatDoor.Nm
set_option maxRecDepth 100000

theorem lv_less {f g : Nat → Nat} {n k : Nat} (hk : k < n) (hf : ∀ i, i < n → f i < 1000000000) (he : ∀ i, k < i → i < n → f i = g i) (hlt : f k < g k) : lv f n < lv g n := by
  obtain ⟨m, rfl⟩ : ∃ m, n = (k + 1) + m := ⟨n - (k + 1), by omega⟩
  rw [lv_split f (k + 1) m, lv_split g (k + 1) m, lv_succ, lv_succ]
  have e1 : lv (sh f (k + 1)) m = lv (sh g (k + 1)) m := lv_congr fun i hi => he _ (by omega) (by omega)
  have h1 := lv_lt (f := f) (n := k) (fun i hi => hf i (by omega))
  have h2 : (f k + 1) * 1000000000 ^ k ≤ g k * 1000000000 ^ k := Nat.mul_le_mul_right _ hlt
  rw [Nat.add_mul, Nat.one_mul] at h2
  rw [e1]
  omega

theorem sh_cons (f : Nat → Nat) (k m : Nat) : lv (sh f k) (m + 1) = f k + 1000000000 * lv (sh f (k + 1)) m := by
  have := lv_split (sh f k) 1 m
  rw [Nat.add_comm m 1, this]
  have e : sh (sh f k) 1 = sh f (k + 1) := by funext t; unfold sh; congr 1; omega
  rw [e]
  simp [lv, sh]

/-- a short division, from the top down: k limbs are left -/
structure DivI (q f : Nat → Nat) (n d k r : Nat) : Prop where
  lim : ∀ i, k ≤ i → i < n → q i < 1000000000
  rest : r < d
  val : lv (sh f k) (n - k) = d * lv (sh q k) (n - k) + r

theorem DivI.start {q f : Nat → Nat} {n d : Nat} (hd : 0 < d) : DivI q f n d n 0 :=
  ⟨fun i a b => by omega, hd, by rw [Nat.sub_self]; simp [lv]⟩

theorem DivI.step {q f : Nat → Nat} {n d k r : Nat} (h : DivI q f n d (k + 1) r) (hk : k < n) (hf : f k < 1000000000) (hd : 0 < d) :
    DivI (up q k ((r * 1000000000 + f k) / d)) f n d k ((r * 1000000000 + f k) % d) ∧ (r * 1000000000 + f k) / d < 1000000000 := by
  have hr := h.rest
  have hq : (r * 1000000000 + f k) / d < 1000000000 := by
    rw [Nat.div_lt_iff_lt_mul hd]
    have : (r + 1) * 1000000000 ≤ d * 1000000000 := Nat.mul_le_mul_right _ hr
    omega
  refine ⟨⟨fun i a b => ?_, Nat.mod_lt _ hd, ?_⟩, hq⟩
  · by_cases e : i = k
    · subst e; rw [up_same]; exact hq
    · rw [up_other _ _ e]; exact h.lim i (by omega) b
  · have hv := h.val
    have e1 : lv (sh (up q k ((r * 1000000000 + f k) / d)) (k + 1)) (n - (k + 1)) = lv (sh q (k + 1)) (n - (k + 1)) := lv_congr fun i hi => by unfold sh; rw [up_other _ _ (by omega)]
    rw [show n - k = (n - (k + 1)) + 1 by omega, sh_cons, sh_cons, up_same, e1, hv, Nat.mul_add, Nat.mul_add]
    have h2 := Nat.div_add_mod (r * 1000000000 + f k) d
    have h3 : 1000000000 * (d * lv (sh q (k + 1)) (n - (k + 1))) = d * (1000000000 * lv (sh q (k + 1)) (n - (k + 1))) := by rw [Nat.mul_left_comm]
    omega

theorem sh_zero (f : Nat → Nat) : sh f 0 = f := by funext t; unfold sh; congr 1; omega

theorem DivI.done {q f : Nat → Nat} {n d r : Nat} (h : DivI q f n d 0 r) : lv q n = lv f n / d ∧ r = lv f n % d := by
  have hv := h.val
  have hr := h.rest
  rw [sh_zero, sh_zero, Nat.sub_zero] at hv
  rw [hv]
  exact ⟨by rw [Nat.mul_add_div (by omega), Nat.div_eq_of_lt hr]; omega, by rw [Nat.mul_add_mod, Nat.mod_eq_of_lt hr]⟩
end Go.Proofs.YtpmnfgbbkmodpaaGreatDoor.Nm
