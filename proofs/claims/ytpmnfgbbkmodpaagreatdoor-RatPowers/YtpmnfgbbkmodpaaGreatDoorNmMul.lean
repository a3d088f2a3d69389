/-
  PLAIN FACTS ON PRODUCTS OF LIMBS, row by row: nothing of the program is named here. No conditions.
-/
import Derived.Test.YtpmnfgbbkmodpaaGreatDoorNm
namespace Go.Proofs.YtpmnfgbbkmodpaaGreatDoor.Nm
set_option maxRecDepth 100000

def sh (p : Nat → Nat) (i : Nat) : Nat → Nat := fun t => p (i + t)

theorem lv_split (p : Nat → Nat) (i m : Nat) : lv p (i + m) = lv p i + 1000000000 ^ i * lv (sh p i) m := by
  induction m with
  | zero => simp [lv]
  | succ m ih =>
    rw [show i + (m + 1) = (i + m) + 1 by omega, lv_succ, ih, lv_succ, Nat.mul_add, Nat.pow_add]
    have : p (i + m) * (1000000000 ^ i * 1000000000 ^ m) = 1000000000 ^ i * (sh p i m * 1000000000 ^ m) := by
      unfold sh; rw [Nat.mul_left_comm]
    rw [this]; omega

/-- inside a row of a product -/
structure MulJ (p P g : Nat → Nat) (N i j c x : Nat) : Prop where
  lim : ∀ t, t < N → p t < 1000000000
  out : ∀ t, t < i ∨ i + j ≤ t → p t = P t
  car : c < 1000000000
  val : lv (sh p i) j + c * 1000000000 ^ j = lv (sh P i) j + x * lv g j

theorem mul_bd {x y : Nat} (hx : x < 1000000000) (hy : y < 1000000000) : x * y ≤ 999999998000000001 := by
  have : x * y ≤ 999999999 * 999999999 := Nat.mul_le_mul (by omega) (by omega)
  omega

theorem MulJ.step {p P g : Nat → Nat} {N i j c x : Nat} (h : MulJ p P g N i j c x) (hN : i + j < N) (hx : x < 1000000000) (hg : g j < 1000000000) :
    MulJ (up p (i + j) ((p (i + j) + x * g j + c) % 1000000000)) P g N i (j + 1) ((p (i + j) + x * g j + c) / 1000000000) x := by
  have hb := mul_bd hx hg
  have hl := h.lim (i + j) hN
  have hc := h.car
  refine ⟨fun t ht => ?_, fun t ht => ?_, by omega, ?_⟩
  · by_cases e : t = i + j
    · subst e; rw [up_same]; omega
    · rw [up_other _ _ e]; exact h.lim t ht
  · rw [up_other _ _ (by omega)]; exact h.out t (by omega)
  · have e1 : lv (sh (up p (i + j) ((p (i + j) + x * g j + c) % 1000000000)) i) j = lv (sh p i) j := lv_congr fun t ht => by unfold sh; rw [up_other _ _ (by omega)]
    have e2 : sh (up p (i + j) ((p (i + j) + x * g j + c) % 1000000000)) i j = (p (i + j) + x * g j + c) % 1000000000 := by unfold sh; rw [up_same]
    have e3 : sh P i j = p (i + j) := by unfold sh; exact (h.out (i + j) (by omega)).symm
    rw [lv_succ, lv_succ, lv_succ, e1, e2, e3, Nat.pow_succ, carry_step, Nat.add_mul, Nat.add_mul, Nat.mul_add, Nat.mul_assoc x]
    have := h.val
    omega

theorem MulJ.start {P g : Nat → Nat} {N i x : Nat} (hP : ∀ t, t < N → P t < 1000000000) : MulJ P P g N i 0 0 x :=
  ⟨hP, fun _ _ => rfl, by omega, by simp [lv]⟩

/-- row by row -/
structure MulI (p f : Nat → Nat) (N m G i : Nat) : Prop where
  lim : ∀ t, t < N → p t < 1000000000
  out : ∀ t, i + m ≤ t → t < N → p t = 0
  val : lv p (i + m) = lv f i * G

theorem MulI.step {p P f g : Nat → Nat} {N m i c : Nat} (h : MulI P f N m (lv g m) i) (k : MulJ p P g N i m c (f i)) (_hN : i + m < N) : MulI (up p (i + m) c) f N m (lv g m) (i + 1) := by
  refine ⟨fun t ht => ?_, fun t a b => ?_, ?_⟩
  · by_cases e : t = i + m
    · subst e; rw [up_same]; exact k.car
    · rw [up_other _ _ e]; exact k.lim t ht
  · rw [up_other _ _ (by omega), k.out t (by omega)]; exact h.out t (by omega) b
  · have h1 := h.val
    have h2 := k.val
    rw [show i + 1 + m = (i + m) + 1 by omega, lv_succ, up_same, lv_up (Nat.le_refl _), lv_split, lv_succ, Nat.add_mul, ← h1, lv_split]
    have e1 : lv p i = lv P i := lv_congr fun t ht => k.out t (by omega)
    have e2 : f i * 1000000000 ^ i * lv g m = 1000000000 ^ i * (f i * lv g m) := by rw [Nat.mul_comm (f i), Nat.mul_assoc]
    have e3 : c * 1000000000 ^ (i + m) = 1000000000 ^ i * (c * 1000000000 ^ m) := by rw [Nat.pow_add, Nat.mul_left_comm]
    have e4 : 1000000000 ^ i * lv (sh p i) m + 1000000000 ^ i * (c * 1000000000 ^ m) = 1000000000 ^ i * lv (sh P i) m + 1000000000 ^ i * (f i * lv g m) := by rw [← Nat.mul_add, ← Nat.mul_add, h2]
    rw [e1, e2, e3]
    omega

theorem MulI.start {f : Nat → Nat} {N m G : Nat} : MulI (fun _ => 0) f N m G 0 := by
  refine ⟨fun t _ => by omega, fun t _ _ => rfl, ?_⟩
  have : ∀ n, lv (fun _ => 0) n = 0 := fun n => by
    induction n with
    | zero => rfl
    | succ n ih => rw [lv_succ, ih]; omega
  rw [this]; simp [lv]
end Go.Proofs.YtpmnfgbbkmodpaaGreatDoor.Nm
