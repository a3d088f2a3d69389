/-
  PLAIN FACTS ON EUCLID'S STEPS, many at once: nothing of the program is named here. No conditions.
-/
import Derived.Test.YtpmnfgbbkmodpaaGreatDoorNmLong
namespace Go.Proofs.YtpmnfgbbkmodpaaGreatDoor.Nm
set_option maxRecDepth 100000

/-- some steps have been taken, an even number; of an odd number the same, with both numbers and all factors changed over -/
structure Ev (x y p r s t X Y : Nat) : Prop where
  ex : X = t * x + r * y
  ey : Y = s * x + p * y
  det : p * t = r * s + 1
  lo : s ≤ y
  hi : y + r + t < x
  s1 : 1 ≤ s
  t1 : 1 ≤ t

theorem ev_step {x y p r s t X Y q : Nat} (ex : X = t * x + r * y) (ey : Y = s * x + p * y) (det : p * t = r * s + 1) (lo : s ≤ y) (hyx : y ≤ x) (hrx : r ≤ x) (hsp : 1 ≤ s ∨ 1 ≤ p) (ht : 1 ≤ t)
    (hy : 0 < y - s) (q1 : (x + p) / (y - s) = q) (q2 : (x - r) / (y + t) = q) :
    Ev y (x - q * y) t s (r + q * t) (p + q * s) Y X ∧ q * y ≤ x := by
  have a1 : q * (y - s) ≤ x + p := by rw [← q1]; exact Nat.div_mul_le_self _ _
  have a2 : x + p < (q + 1) * (y - s) := by
    have := Nat.lt_mul_div_succ (x + p) hy
    rw [q1, Nat.mul_comm] at this; exact this
  have a3 : q * (y + t) ≤ x - r := by rw [← q2]; exact Nat.div_mul_le_self _ _
  rw [Nat.mul_add] at a3
  have hqx : q * y ≤ x := by omega
  have hq : 1 ≤ q := by
    rcases Nat.eq_zero_or_pos q with c | c
    · subst c; omega
    · exact c
  have hqt : 1 * 1 ≤ q * t := Nat.mul_le_mul hq ht
  have e1 : (q + 1) * (y - s) + q * s + s = q * y + y := by
    obtain ⟨z, rfl⟩ : ∃ z, y = z + s := ⟨y - s, by omega⟩
    rw [Nat.add_sub_cancel, Nat.add_mul, Nat.one_mul, Nat.mul_add]; omega
  obtain ⟨v, hv⟩ : ∃ v, x = v + q * y := ⟨x - q * y, by omega⟩
  have hvv : x - q * y = v := by omega
  rw [hvv]
  refine ⟨⟨?_, ?_, ?_, by omega, by omega, by omega, ?_⟩, hqx⟩
  · rw [ey, hv, Nat.mul_add, Nat.add_mul, ← Nat.mul_assoc, Nat.mul_comm q s]; omega
  · rw [ex, hv, Nat.mul_add, Nat.add_mul, ← Nat.mul_assoc, Nat.mul_comm q t]; omega
  · have b1 : t * (p + q * s) = p * t + q * (s * t) := by rw [Nat.mul_add, Nat.mul_comm t p, Nat.mul_left_comm, Nat.mul_comm t s]
    have b2 : s * (r + q * t) = r * s + q * (s * t) := by rw [Nat.mul_add, Nat.mul_comm s r, Nat.mul_left_comm]
    rw [b1, b2, det]; omega
  · rcases hsp with c | c
    · have : 1 * 1 ≤ q * s := Nat.mul_le_mul hq c
      omega
    · omega

theorem sq_lt {t x : Nat} (h : t * x < 1000000000000000000) (hx : t < x) : t < 1000000000 := by
  rcases Nat.lt_or_ge t 1000000000 with c | c
  · exact c
  · exfalso
    have : 1000000000 * 1000000000 ≤ t * x := Nat.mul_le_mul c (by omega)
    omega

theorem Ev.bounds {x y p r s t X Y : Nat} (h : Ev x y p r s t X Y) (hX : X < 1000000000000000000) (hY : Y < 1000000000000000000) : s < 1000000000 ∧ t < 1000000000 ∧ x < 1000000000000000000 ∧ y < x := by
  have h1 := h.ex
  have h2 := h.ey
  have h3 := h.lo
  have h4 := h.hi
  have h5 : 1 * x ≤ t * x := Nat.mul_le_mul_right _ h.t1
  exact ⟨sq_lt (x := x) (by omega) (by omega), sq_lt (x := x) (by omega) (by omega), by omega, by omega⟩

theorem Ev.fin {x y p r s t X Y E α β : Nat} (h : Ev x y p r s t X Y) (hα : α < E) (hβ : β < E) :
    ∃ U V, p * (X * E + α) = U + r * (Y * E + β) ∧ t * (Y * E + β) = V + s * (X * E + α) ∧ V < U ∧ X * E + α = t * U + r * V ∧ Y * E + β = s * U + p * V := by
  have hd := h.det
  have hlo := h.lo
  have hhi := h.hi
  have e1 : p * X = r * Y + x := by
    have k : p * (t * x) = (r * s + 1) * x := by rw [← Nat.mul_assoc, hd]
    rw [h.ex, h.ey, Nat.mul_add, Nat.mul_add, k, Nat.add_mul, Nat.one_mul, Nat.mul_assoc r s x, Nat.mul_left_comm p r y]; omega
  have e2 : t * Y = s * X + y := by
    have k : t * (p * y) = (r * s + 1) * y := by rw [← Nat.mul_assoc, Nat.mul_comm t p, hd]
    rw [h.ex, h.ey, Nat.mul_add, Nat.mul_add, k, Nat.add_mul, Nat.one_mul, Nat.mul_comm r s, Nat.mul_assoc s r y, Nat.mul_left_comm t s x]; omega
  have b1 : r * β ≤ r * E := Nat.mul_le_mul_left _ (by omega)
  have b2 : s * α ≤ s * E := Nat.mul_le_mul_left _ (by omega)
  have b3 : t * β ≤ t * E := Nat.mul_le_mul_left _ (by omega)
  have b4 : s * E ≤ y * E := Nat.mul_le_mul_right _ hlo
  have b5 : (y + r + t + 1) * E ≤ x * E := Nat.mul_le_mul_right _ hhi
  rw [Nat.add_mul, Nat.add_mul, Nat.add_mul, Nat.one_mul] at b5
  have c1 : p * (X * E + α) = r * Y * E + x * E + p * α := by rw [Nat.mul_add, ← Nat.mul_assoc, e1, Nat.add_mul]
  have c2 : r * (Y * E + β) = r * Y * E + r * β := by rw [Nat.mul_add, ← Nat.mul_assoc]
  have c3 : t * (Y * E + β) = s * X * E + y * E + t * β := by rw [Nat.mul_add, ← Nat.mul_assoc, e2, Nat.add_mul]
  have c4 : s * (X * E + α) = s * X * E + s * α := by rw [Nat.mul_add, ← Nat.mul_assoc]
  have hU : p * (X * E + α) = (x * E + p * α - r * β) + r * (Y * E + β) := by rw [c1, c2]; omega
  have hV : t * (Y * E + β) = (y * E + t * β - s * α) + s * (X * E + α) := by rw [c3, c4]; omega
  have hlt : y * E + t * β - s * α < x * E + p * α - r * β := by omega
  generalize x * E + p * α - r * β = U at *
  generalize y * E + t * β - s * α = V at *
  generalize X * E + α = M at *
  generalize Y * E + β = N at *
  refine ⟨U, V, hU, hV, hlt, ?_, ?_⟩
  · have k1 : t * (p * M) = t * (U + r * N) := by rw [hU]
    have k2 : r * (t * N) = r * (V + s * M) := by rw [hV]
    have k3 : t * (p * M) = r * (s * M) + M := by rw [← Nat.mul_assoc, Nat.mul_comm t p, hd, Nat.add_mul, Nat.one_mul, Nat.mul_assoc]
    have k4 : t * (r * N) = r * (t * N) := Nat.mul_left_comm _ _ _
    rw [Nat.mul_add] at k1 k2
    omega
  · have k1 : s * (p * M) = s * (U + r * N) := by rw [hU]
    have k2 : p * (t * N) = p * (V + s * M) := by rw [hV]
    have k3 : p * (t * N) = s * (r * N) + N := by rw [← Nat.mul_assoc, hd, Nat.add_mul, Nat.one_mul, Nat.mul_comm r s, Nat.mul_assoc]
    have k4 : s * (p * M) = p * (s * M) := Nat.mul_left_comm _ _ _
    rw [Nat.mul_add] at k1 k2
    omega

theorem gcd_mix {M N U V p r s t : Nat} (h1 : p * M = U + r * N) (h2 : t * N = V + s * M) (h3 : M = t * U + r * V) (h4 : N = s * U + p * V) : Nat.gcd U V = Nat.gcd M N := by
  apply Nat.dvd_antisymm
  · apply Nat.dvd_gcd
    · rw [h3]; exact Nat.dvd_add (Nat.dvd_mul_left_of_dvd (Nat.gcd_dvd_left _ _) _) (Nat.dvd_mul_left_of_dvd (Nat.gcd_dvd_right _ _) _)
    · rw [h4]; exact Nat.dvd_add (Nat.dvd_mul_left_of_dvd (Nat.gcd_dvd_left _ _) _) (Nat.dvd_mul_left_of_dvd (Nat.gcd_dvd_right _ _) _)
  · apply Nat.dvd_gcd
    · have k : Nat.gcd M N ∣ U + r * N := by rw [← h1]; exact Nat.dvd_mul_left_of_dvd (Nat.gcd_dvd_left _ _) _
      exact (Nat.dvd_add_left (Nat.dvd_mul_left_of_dvd (Nat.gcd_dvd_right _ _) _)).1 k
    · have k : Nat.gcd M N ∣ V + s * M := by rw [← h2]; exact Nat.dvd_mul_left_of_dvd (Nat.gcd_dvd_right _ _) _
      exact (Nat.dvd_add_left (Nat.dvd_mul_left_of_dvd (Nat.gcd_dvd_left _ _) _)).1 k

/-! the leading digits -/
theorem lead_form {l1 l2 l3 sc D W low : Nat} (hD : sc * D = 1000000000) (hD0 : 0 < D) (hl : low < W) :
    ∃ α, ((l1 * 1000000000 + l2) * 1000000000 + l3) * W + low = ((l1 * 1000000000 + l2) * sc + l3 / D) * (D * W) + α ∧ α < D * W := by
  refine ⟨l3 % D * W + low, ?_, ?_⟩
  · have h := Nat.div_add_mod l3 D
    have e1 : ((l1 * 1000000000 + l2) * sc + l3 / D) * (D * W) = (l1 * 1000000000 + l2) * 1000000000 * W + l3 / D * D * W := by
      rw [Nat.add_mul, ← Nat.mul_assoc, ← Nat.mul_assoc, Nat.mul_assoc _ sc D, hD]
    rw [e1, Nat.add_mul _ l3 W]
    have e2 : l3 * W = (D * (l3 / D) + l3 % D) * W := by rw [h]
    rw [Nat.add_mul, Nat.mul_comm D (l3 / D)] at e2
    omega
  · have h := Nat.mod_lt l3 hD0
    have : (l3 % D + 1) * W ≤ D * W := Nat.mul_le_mul_right _ h
    rw [Nat.add_mul, Nat.one_mul] at this
    omega

theorem lead_lt {l1 l2 l3 sc D : Nat} (hD : sc * D = 1000000000) (hD0 : 0 < D) (h1 : l1 < D) (h2 : l2 < 1000000000) (h3 : l3 < 1000000000) : (l1 * 1000000000 + l2) * sc + l3 / D < 1000000000000000000 := by
  have a1 : l3 / D < sc := by rw [Nat.div_lt_iff_lt_mul hD0, hD]; exact h3
  have a2 : (l1 * 1000000000 + l2 + 1) * sc ≤ ((l1 + 1) * 1000000000) * sc := Nat.mul_le_mul_right _ (by omega)
  have a3 : (l1 + 1) * sc ≤ D * sc := Nat.mul_le_mul_right _ h1
  rw [Nat.mul_comm D sc, hD] at a3
  have a4 : (l1 + 1) * 1000000000 * sc = (l1 + 1) * sc * 1000000000 := Nat.mul_right_comm _ _ _
  rw [Nat.add_mul _ 1 sc, Nat.one_mul] at a2
  omega

/-! a mixture of two rows, limb by limb -/
def lvz (f : Nat → Nat) (n : Nat) : Int := (lv f n : Nat)

structure MxI (S F G : Nat → Nat) (u v : Int) (k : Nat) (c : Int) : Prop where
  lim : ∀ i, i < k → S i < 1000000000
  clo : -1000000000 ≤ c
  chi : c ≤ 1000000000
  val : (lv S k : Int) + c * ((1000000000 ^ k : Nat) : Int) = u * (lv F k : Int) + v * (lv G k : Int)

theorem MxI.step {S F G : Nat → Nat} {u v c : Int} {k : Nat} (h : MxI S F G u v k c) (hlo : -999999999000000000 ≤ u * (F k : Int) + v * (G k : Int)) (hhi : u * (F k : Int) + v * (G k : Int) ≤ 999999999000000000) :
    ∃ l : Nat, (u * (F k : Int) + v * (G k : Int) + c) % 1000000000 = (l : Int) ∧ l < 1000000000 ∧ MxI (up S k l) F G u v (k + 1) ((u * (F k : Int) + v * (G k : Int) + c) / 1000000000) := by
  have c1 := h.clo
  have c2 := h.chi
  refine ⟨((u * (F k : Int) + v * (G k : Int) + c) % 1000000000).toNat, by omega, by omega, ⟨fun i hi => ?_, by omega, by omega, ?_⟩⟩
  · by_cases e : i = k
    · subst e; rw [up_same]; omega
    · rw [up_other _ _ e]; exact h.lim i (by omega)
  · have hv := h.val
    rw [lv_succ, lv_succ, lv_succ, up_same, lv_up (Nat.le_refl _), Nat.pow_succ]
    simp only [Int.natCast_add, Int.natCast_mul]
    have ht : ((u * (F k : Int) + v * (G k : Int) + c) % 1000000000).toNat = (u * (F k : Int) + v * (G k : Int) + c) % 1000000000 := by omega
    rw [ht]
    have hdm := Int.mul_ediv_add_emod (u * (F k : Int) + v * (G k : Int) + c) 1000000000
    generalize (u * (F k : Int) + v * (G k : Int) + c) % 1000000000 = l at *
    generalize (u * (F k : Int) + v * (G k : Int) + c) / 1000000000 = d at *
    generalize ((1000000000 ^ k : Nat) : Int) = P at *
    generalize (lv S k : Int) = a1 at *
    generalize (lv F k : Int) = a2 at *
    generalize (lv G k : Int) = a3 at *
    have k1 : (1000000000 * d + l) * P = (u * (F k : Int) + v * (G k : Int) + c) * P := by rw [hdm]
    have k2 : d * (P * ((1000000000 : Nat) : Int)) = 1000000000 * d * P := by
      rw [Int.mul_comm P, ← Int.mul_assoc, Int.mul_comm d]; rfl
    rw [Int.add_mul, Int.add_mul, Int.add_mul] at k1
    rw [Int.mul_add, Int.mul_add, k2, ← Int.mul_assoc, ← Int.mul_assoc]
    omega

theorem MxI.done {S F G : Nat → Nat} {u v c : Int} {n R : Nat} (h : MxI S F G u v n c) (hR : R < 1000000000 ^ n) (e : u * (lv F n : Int) + v * (lv G n : Int) = (R : Int)) : lv S n = R := by
  have hv := h.val
  rw [e] at hv
  have hl := lv_lt h.lim
  generalize lv S n = s at *
  generalize 1000000000 ^ n = P at *
  rcases Int.lt_trichotomy c 0 with d | d | d
  · exfalso
    have : c * (P : Int) ≤ (-1) * (P : Int) := Int.mul_le_mul_of_nonneg_right (by omega) (by omega)
    omega
  · subst d; omega
  · exfalso
    have : 1 * (P : Int) ≤ c * (P : Int) := Int.mul_le_mul_of_nonneg_right (by omega) (by omega)
    omega
end Go.Proofs.YtpmnfgbbkmodpaaGreatDoor.Nm
