/-
  LEADING DIGITS: what a call of digitsFrom and leading gives. Conditions: sizes; the limbs' form.
-/
import Derived.Test.YtpmnfgbbkmodpaaGreatDoorEuclid
namespace Go.Proofs.YtpmnfgbbkmodpaaGreatDoor
set_option maxRecDepth 100000
open Go.RowKit Nm
set_option linter.unusedVariables false

theorem at_int (b off len cap : Nat) (i : Int) (f : Nat → Nat) (w : World) (h0 : 0 ≤ i) (hl : len ≤ 1000000) (hR : Rw w b off f len) :
    Calls Tryz.prog 141 #[.slice (some ⟨b, off, none⟩) len cap, .int .i64 i] w fun e w' => e = .returned (.int .i64 (ext f len i.toNat : Nat)) ∧ w' = w := by
  obtain ⟨k, rfl⟩ := Int.eq_ofNat_of_zero_le h0
  rw [Int.toNat_natCast]
  exact at_any b off len cap k f w hl hR

set_option maxRecDepth 100000 in
set_option maxHeartbeats 1000000 in
theorem digitsFrom_any (b len cap m sc D : Nat) (f : Nat → Nat) (w : World) (hl : len ≤ 100000) (hm : m ≤ 100000) (hR : Rw w b 0 f len) (hf : ∀ i, i < len → f i < 1000000000) (hD : sc * D = 1000000000) (hD0 : 0 < D) (hD1 : D ≤ 1000000000) (hs0 : 0 < sc) (hs1 : sc ≤ 1000000000) (ht : ext f len (m + 2) < D) :
    Calls Tryz.prog 139 #[.slice (some ⟨b, 0, none⟩) len cap, .int .i64 ((m : Int) + 3), .int .i64 sc] w fun e w' => e = .returned (.int .i64 (((ext f len (m + 2) * 1000000000 + ext f len (m + 1)) * sc + ext f len m / D : Nat) : Int)) ∧ Sm w w' := by
  have a1 := ext_lt hf (m + 2)
  have a2 := ext_lt hf (m + 1)
  have a3 := ext_lt hf m
  have hlt := lead_lt hD hD0 ht a2 a3
  have hRn : ∀ n, Rw (w.drewN n) b 0 f len := fun n => hR.sm (Sm.drewN _ _)
  have e1 : ((m : Int) + 3 - 1).toNat = m + 2 := by omega
  have e2 : ((m : Int) + 3 - 2).toNat = m + 1 := by omega
  have e3 : ((m : Int) + 3 - 3).toNat = m := by omega
  have hdi : (1000000000 : Int) / (sc : Int) = (D : Int) := by
    have : 1000000000 / sc = D := by rw [← hD]; exact Nat.mul_div_cancel_left _ hs0
    rw [← this]; simp
  have hq : ((ext f len m : Nat) : Int) / (D : Int) = ((ext f len m / D : Nat) : Int) := by simp
  have hp : ((((ext f len (m + 2) * 1000000000 + ext f len (m + 1)) * sc : Nat)) : Int) = ((ext f len (m + 2) : Int) * 1000000000 + (ext f len (m + 1) : Int)) * (sc : Int) := by simp
  have hm0 : (0 : Int) ≤ ((ext f len (m + 2) : Int) * 1000000000 + (ext f len (m + 1) : Int)) * (sc : Int) := by rw [← hp]; exact Int.natCast_nonneg _
  have hm1 : ((ext f len (m + 2) : Int) * 1000000000 + (ext f len (m + 1) : Int)) * (sc : Int) ≤ 1000000000000000000 := by rw [← hp]; exact Int.ofNat_le.2 (Nat.le_trans (Nat.le_add_right _ _) (Nat.le_of_lt hlt))
  have hqb : ext f len m / D ≤ 1000000000 := Nat.le_trans (Nat.div_le_self _ _) (by omega)
  have HP : Hid _ := hp
  have HD : Hid _ := hD
  clear hp hlt hD ht
  generalize ext f len m / D = q3 at *
  go_enter Tryz.func139, Tryz.ntmps139
  go_wp2_with fail
  go_quiet ((go_at_call 141; exact Calls.quiet_of_same (at_int _ _ _ _ _ _ _ (by omega) (by omega) (hRn _))))
  go_wp2
  go_ret
  exact ⟨ret_int (by rw [Int.natCast_add, HP.out]), Sm.drewN _ _⟩

theorem pow_scale (j : Nat) (h : j ≤ 8) : 10 ^ j * 10 ^ (9 - j) = 1000000000 := by
  rw [← Nat.pow_add, show j + (9 - j) = 9 by omega]

theorem scale_top {l j : Nat} (h : l * 10 ^ j < 1000000000) (hj : j ≤ 8) : l < 10 ^ (9 - j) := by
  have := pow_scale j hj
  rw [← this, Nat.mul_comm (10 ^ j)] at h
  exact Nat.lt_of_mul_lt_mul_right h

/-- what the leading digits are good for -/
def Lead (x y U V : Nat) : Prop := ∃ E α β, U = x * E + α ∧ V = y * E + β ∧ α < E ∧ β < E ∧ x < 1000000000000000000 ∧ y ≤ x

theorem le_of_lead {x y E U V α β : Nat} (h1 : U = x * E + α) (h2 : V = y * E + β) (h3 : α < E) (hle : V ≤ U) : y ≤ x := by
  have k : y * E < (x + 1) * E := by rw [Nat.add_mul, Nat.one_mul]; omega
  have := Nat.lt_of_mul_lt_mul_right k
  omega

theorem lead_of {f g : Nat → Nat} {m n2 j : Nat} (hf : Nrm f (m + 3)) (hg : Nrm g n2) (h2 : n2 ≤ m + 3) (hle : lv g n2 ≤ lv f (m + 3)) (hj : j ≤ 8) (ht : f (m + 2) * 10 ^ j < 1000000000) :
    ext g n2 (m + 2) < 10 ^ (9 - j) ∧ Lead ((f (m + 2) * 1000000000 + f (m + 1)) * 10 ^ j + f m / 10 ^ (9 - j)) ((ext g n2 (m + 2) * 1000000000 + ext g n2 (m + 1)) * 10 ^ j + ext g n2 m / 10 ^ (9 - j)) (lv f (m + 3)) (lv g n2) := by
  have hD := pow_scale j hj
  have hD0 := pos10 (9 - j)
  have hft := scale_top ht hj
  have hgl := ext_lt hg.1
  have vg : lv (ext g n2) (m + 3) = lv g n2 := lv_ext h2
  have hW := posB m
  have lf := lv_lt (f := f) (n := m) (fun i hi => hf.1 i (by omega))
  have lg := lv_lt (f := ext g n2) (n := m) (fun i _ => hgl i)
  have tf := lv_three f m
  have tg := lv_three (ext g n2) m
  have hgt : ext g n2 (m + 2) ≤ f (m + 2) := by
    have k1 : lv f (m + 3) = lv f (m + 2) + f (m + 2) * 1000000000 ^ (m + 2) := lv_succ _ _
    have k2 : lv (ext g n2) (m + 3) = lv (ext g n2) (m + 2) + ext g n2 (m + 2) * 1000000000 ^ (m + 2) := lv_succ _ _
    have k3 := lv_lt (f := f) (n := m + 2) (fun i hi => hf.1 i (by omega))
    rw [vg] at k2
    have k4 : ext g n2 (m + 2) * 1000000000 ^ (m + 2) < (f (m + 2) + 1) * 1000000000 ^ (m + 2) := by rw [Nat.add_mul, Nat.one_mul]; omega
    have := Nat.lt_of_mul_lt_mul_right k4
    omega
  have hgD : ext g n2 (m + 2) < 10 ^ (9 - j) := by omega
  refine ⟨hgD, ?_⟩
  obtain ⟨α, e1, e2⟩ := lead_form (l1 := f (m + 2)) (l2 := f (m + 1)) (l3 := f m) hD hD0 lf
  obtain ⟨β, e3, e4⟩ := lead_form (l1 := ext g n2 (m + 2)) (l2 := ext g n2 (m + 1)) (l3 := ext g n2 m) hD hD0 lg
  have bx := lead_lt hD hD0 hft (hf.1 (m + 1) (by omega)) (hf.1 m (by omega))
  rw [← tf] at e1
  rw [← tg, vg] at e3
  exact ⟨_, α, β, e1, e3, e2, e4, bx, le_of_lead e1 e3 e2 hle⟩

set_option maxRecDepth 100000 in
set_option maxHeartbeats 1000000 in
theorem leading_any (b1 m c1 b2 n2 c2 : Nat) (f g : Nat → Nat) (w : World) (hm : m ≤ 90000) (hn2 : n2 ≤ m + 3) (h1 : Rw w b1 0 f (m + 3)) (h2 : Rw w b2 0 g n2) (hf : Nrm f (m + 3)) (hg : Nrm g n2) (hle : lv g n2 ≤ lv f (m + 3)) :
    Calls Tryz.prog 120 #[.slice (some ⟨b1, 0, none⟩) (m + 3) c1, .slice (some ⟨b2, 0, none⟩) n2 c2] w fun e w' => ∃ x y : Nat, e = .returned (.tuple #[.int .i64 x, .int .i64 y]) ∧ Lead x y (lv f (m + 3)) (lv g n2) ∧ Sm w w' := by
  have ct := h1 (m + 2) (by omega)
  simp only [Nat.zero_add] at ct
  have htop : 0 < f (m + 2) := by
    rcases hf.2 with e | e
    · omega
    · simp at e; omega
  have htl := hf.1 (m + 2) (by omega)
  go_enter Tryz.func120, Tryz.ntmps120
  go_wp2_with fail
  go_loop [6] (fun s => ∃ j : Nat, j ≤ 8 ∧ s = .int .i64 ((10 ^ j : Nat) : Int) ∧ f (m + 2) * 10 ^ j < 1000000000) (fun s => (100000000 - intOf s).toNat)
  case atStart => exact ⟨0, by omega, rfl, by simpa using htl⟩
  case round =>
    obtain ⟨j, hj, rfl, hlt⟩ := hrel
    have hpj := pos10 j
    have hpb : 10 ^ j ≤ 10 ^ 8 := Nat.pow_le_pow_right (by omega) hj
    have hD := pow_scale j hj
    have hD0 := pos10 (9 - j)
    have hDb : 10 ^ (9 - j) ≤ 10 ^ 9 := Nat.pow_le_pow_right (by omega) (by omega)
    have HL : Hid _ := lead_of hf hg hn2 hle hj hlt
    have HJ : Hid (10 ^ (j + 1) = 10 ^ j * 10) := Nat.pow_succ 10 j
    have HT : Hid _ := hlt
    generalize hsc : 10 ^ j = sc at *
    have HSC : Hid _ := hsc
    clear hsc
    generalize 10 ^ (9 - j) = D at *
    have hm0 : (0 : Int) ≤ (f (m + 2) : Int) * (sc : Int) := Int.mul_nonneg (by omega) (by omega)
    have hm1 : (f (m + 2) : Int) * (sc : Int) < 1000000000 := by omega
    have hsb : sc ≤ 100000000 := by omega
    have hDbb : D ≤ 1000000000 := by omega
    by_cases hc : f (m + 2) * sc < 100000000
    · have hc' : (f (m + 2) : Int) * (sc : Int) < 100000000 := by omega
      have hj8 : j ≠ 8 := by
        intro e
        subst e
        have h8 := HSC.out
        have : 1 * sc ≤ f (m + 2) * sc := Nat.mul_le_mul_right _ htop
        omega
      have hs8 : sc < 100000000 := by
        have : 1 * sc ≤ f (m + 2) * sc := Nat.mul_le_mul_right _ htop
        omega
      have hlt2 : f (m + 2) * (sc * 10) < 1000000000 := by rw [← Nat.mul_assoc]; omega
      clear hlt
      go_wp2
      go_round
      case rel => exact ⟨j + 1, by omega, by rw [HJ.out]; simp, by rw [HJ.out]; exact hlt2⟩
      case measure => simp [intOf]; omega
    · have hc' : ¬ (f (m + 2) : Int) * (sc : Int) < 100000000 := by omega
      have e1 : ext f (m + 3) (m + 2) = f (m + 2) := by unfold ext; rw [if_pos (by omega)]
      have e2 : ext f (m + 3) (m + 1) = f (m + 1) := by unfold ext; rw [if_pos (by omega)]
      have e3 : ext f (m + 3) m = f m := by unfold ext; rw [if_pos (by omega)]
      have hfD : ext f (m + 3) (m + 2) < D := by
        rw [e1]
        have : f (m + 2) * sc < D * sc := by rw [Nat.mul_comm D sc, hD]; exact hlt
        exact Nat.lt_of_mul_lt_mul_right this
      have E1 : Hid _ := e1
      have E2 : Hid _ := e2
      have E3 : Hid _ := e3
      have HH : Hid _ := hD
      have FD : Hid _ := hfD
      clear e1 e2 e3 hD hfD hlt
      go_wp2_with fail
      refine (digitsFrom_any b1 (m + 3) c1 m sc D f _ (by omega) (by omega) h1 hf.1 HH.out hD0 hDbb hpj (by omega) FD.out).mono ?_
      rintro e w1 ⟨rfl, hS1⟩
      have h2' := h2.sm hS1
      go_wp2_with fail
      refine (digitsFrom_any b2 n2 c2 m sc D g _ (by omega) (by omega) h2' hg.1 HH.out hD0 hDbb hpj (by omega) HL.out.1).mono ?_
      rintro e w2 ⟨rfl, hS2⟩
      rw [E1.out, E2.out, E3.out]
      go_wp2
      go_ret2
      exact ⟨_, _, rfl, HL.out.2, hS1.trans hS2⟩
end Go.Proofs.YtpmnfgbbkmodpaaGreatDoor
