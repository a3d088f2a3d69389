/-
  THE GUESS OF A LONG DIVISION: what a call of guessLimb gives: the quotient, or one more. Conditions: sizes; the limbs' form.
-/
import Derived.Test.YtpmnfgbbkmodpaaGreatDoorParts
namespace Go.Proofs.YtpmnfgbbkmodpaaGreatDoor
set_option maxRecDepth 100000
open Go.RowKit Nm
set_option linter.unusedVariables false

theorem lv_two (v : Nat → Nat) (m : Nat) : lv v (m + 2) = (v (m + 1) * 1000000000 + v m) * 1000000000 ^ m + lv v m := by
  rw [lv_succ, lv_succ, Nat.pow_succ, Nat.add_mul, Nat.mul_assoc, Nat.mul_comm 1000000000 (1000000000 ^ m)]
  omega

theorem lv_three (p : Nat → Nat) (m : Nat) : lv p (m + 3) = ((p (m + 2) * 1000000000 + p (m + 1)) * 1000000000 + p m) * 1000000000 ^ m + lv p m := by
  rw [lv_succ, lv_two, Nat.pow_succ, Nat.pow_succ]
  have : p (m + 2) * (1000000000 ^ m * 1000000000 * 1000000000) = p (m + 2) * 1000000000 * 1000000000 * 1000000000 ^ m := by
    rw [Nat.mul_comm (1000000000 ^ m * 1000000000), Nat.mul_comm (1000000000 ^ m), ← Nat.mul_assoc, ← Nat.mul_assoc]
  rw [this, Nat.add_mul (p (m + 2) * 1000000000), Nat.add_mul _ (p m), Nat.add_mul _ (p m), Nat.add_mul (p (m + 2) * 1000000000 * 1000000000)]
  omega

theorem top_le {p v : Nat → Nat} {m : Nat} (hv : ∀ t, t < m + 2 → v t < 1000000000) (h : lv (sh p 1) (m + 2) < lv v (m + 2)) : p (m + 2) ≤ v (m + 1) := by
  rw [lv_succ] at h
  have e : sh p 1 (m + 1) = p (m + 2) := by unfold sh; congr 1; omega
  have h1 : lv v (m + 2) = lv v (m + 1) + v (m + 1) * 1000000000 ^ (m + 1) := lv_succ _ _
  have h2 := lv_lt (f := v) (n := m + 1) (fun t ht => hv t (by omega))
  have h3 : p (m + 2) * 1000000000 ^ (m + 1) < (v (m + 1) + 1) * 1000000000 ^ (m + 1) := by
    rw [Nat.add_mul, Nat.one_mul]; rw [e] at h; omega
  have := Nat.lt_of_mul_lt_mul_right h3
  omega

set_option maxRecDepth 100000 in
set_option maxHeartbeats 2000000 in
theorem guessLimb_any (b1 o1 cp1 b2 o2 cp2 m : Nat) (p v : Nat → Nat) (w : World) (hm : m ≤ 40000) (h1 : Rw w b1 o1 p (m + 3)) (h2 : Rw w b2 o2 v (m + 2)) (hp : ∀ t, t < m + 3 → p t < 1000000000) (hv : ∀ t, t < m + 2 → v t < 1000000000) (hv1 : 0 < v (m + 1))
    (hx : lv (sh p 1) (m + 2) < lv v (m + 2)) (hB : lv p (m + 3) < 1000000000 * lv v (m + 2)) :
    Calls Tryz.prog 143 #[.slice (some ⟨b1, o1, none⟩) (m + 3) cp1, .slice (some ⟨b2, o2, none⟩) (m + 2) cp2] w fun e w' => ∃ q : Nat, e = .returned (.int .i64 q) ∧ q < 1000000000 ∧ lv p (m + 3) / lv v (m + 2) ≤ q ∧ q ≤ lv p (m + 3) / lv v (m + 2) + 1 ∧ Sm w w' := by
  have hp0 := top_le hv hx
  have a0 := hp (m + 2) (by omega)
  have a1 := hp (m + 1) (by omega)
  have a2 := hp m (by omega)
  have d1 := hv (m + 1) (by omega)
  have d2 := hv m (by omega)
  have c0 := h1 (m + 2) (by omega)
  have c1 := h1 (m + 1) (by omega)
  have c2 := h1 m (by omega)
  have f1 := h2 (m + 1) (by omega)
  have f2 := h2 m (by omega)
  have hW := posB m
  have hpl := lv_lt (f := p) (n := m) (fun t ht => hp t (by omega))
  have hvl := lv_lt (f := v) (n := m) (fun t ht => hv t (by omega))
  rw [lv_three, lv_two] at hB
  rw [lv_three, lv_two]
  have HB : Hid _ := hB
  have HPL : Hid _ := hpl
  have HVL : Hid _ := hvl
  have HW : Hid _ := hW
  clear hB hpl hvl hx hW h1 h2 hp hv
  generalize lv p m = pl at *
  generalize lv v m = vl at *
  generalize 1000000000 ^ m = W at *
  generalize p (m + 2) = p0 at *
  generalize p (m + 1) = p1 at *
  generalize p m = p2 at *
  generalize v (m + 1) = v1 at *
  generalize v m = v2 at *
  go_enter Tryz.func143, Tryz.ntmps143
  go_wp2_with fail
  go_quiet (fail)
  go_wp2_with fail
  go_quiet (fail)
  go_wp2_with fail
  go_loopw [7, 8] (fun a c wr => ∃ q l : Nat, a = .int .i64 (q : Nat) ∧ c = .int .i64 (l : Nat) ∧ GsI q l p0 p1 v1 ((((p0 * 1000000000 + p1) * 1000000000 + p2) * W + pl) / ((v1 * 1000000000 + v2) * W + vl)) ∧ Sm w wr) (fun _ c _ => (1000000000 - intOf c).toNat)
  case atStart => exact ⟨(p0 * 1000000000 + p1) / v1, (p0 * 1000000000 + p1) % v1, by simp, by simp, GsI.start HW.out HPL.out a2 hv1, ⟨rfl, rfl, rfl, rfl⟩⟩
  case round =>
    obtain ⟨q, l, rfl, rfl, hG, hS⟩ := hrel
    have hqb : q ≤ 1000000001000000000 := by
      have := hG.val
      have : q * 1 ≤ q * v1 := Nat.mul_le_mul_left _ hv1
      omega
    have hlb : l ≤ 1000000001000000000 := by have := hG.val; omega
    have HG : Hid _ := hG
    clear hG
    have c2' : wr.cell? ⟨b1, o1 + m, none⟩ = some (.int .i64 (p2 : Nat)) := by rw [World.cell?_of_block (w := w) (by rw [hS.heap])]; exact c2
    have f2' : wr.cell? ⟨b2, o2 + m, none⟩ = some (.int .i64 (v2 : Nat)) := by rw [World.cell?_of_block (w := w) (by rw [hS.heap])]; exact f2
    have f1' : wr.cell? ⟨b2, o2 + (m + 1), none⟩ = some (.int .i64 (v1 : Nat)) := by rw [World.cell?_of_block (w := w) (by rw [hS.heap])]; exact f1
    by_cases k1 : l < 1000000000
    · have hd1 : decide ((l : Int) < 1000000000) = true := by simp; omega
      by_cases k2 : 1000000000 ≤ q
      · have hd2 : decide ((1000000000 : Int) ≤ (q : Int)) = true := by simp; omega
        obtain ⟨g1, g2⟩ := HG.out.step HW.out HPL.out HB.out (Or.inl k2)
        have HG2 : Hid _ := g2
        clear g2
        go_wp2_with fail
        go_quiet (fail)
        go_wp2
        go_roundw
        case rel => exact ⟨q - 1, l + v1, by go_num, by go_num, HG2.out, hS.trans (Sm.drewN _ _)⟩
        case measure => simp [intOf]; omega
      · have hb := mul_bd (x := q) (by omega) d2
        have hm0 : (0 : Int) ≤ (q : Int) * (v2 : Int) := by omega
        have hm1 : (q : Int) * (v2 : Int) ≤ 999999998000000001 := by omega
        have hd2 : decide ((1000000000 : Int) ≤ (q : Int)) = false := by simp; omega
        by_cases k3 : l * 1000000000 + p2 < q * v2
        · have k3' : (l : Int) * 1000000000 + (p2 : Int) < (q : Int) * (v2 : Int) := by omega
          obtain ⟨g1, g2⟩ := HG.out.step HW.out HPL.out HB.out (Or.inr k3)
          have HG2 : Hid _ := g2
          clear g2
          go_wp2_with fail
          go_quiet (fail)
          go_wp2
          go_roundw
          case rel => exact ⟨q - 1, l + v1, by go_num, by go_num, HG2.out, hS.trans (Sm.drewN _ _)⟩
          case measure => simp [intOf]; omega
        · have k3' : decide ((l : Int) * 1000000000 + (p2 : Int) < (q : Int) * (v2 : Int)) = false := by simp only [decide_eq_false_iff_not]; omega
          have kk : ¬ (l < 1000000000 ∧ (1000000000 ≤ q ∨ l * 1000000000 + p2 < q * v2)) := by omega
          obtain ⟨g1, g2⟩ := HG.out.done HW.out HVL.out hv1 d2 hp0 a1 kk
          have HG1 : Hid _ := g1
          have HG2 : Hid _ := g2
          clear g1 g2
          go_wp2_with fail
          go_quiet (fail)
          go_wp2
          go_ret
          exact ⟨q, rfl, HG1.out, HG.out.ge, HG2.out, hS.trans (Sm.drewN _ _)⟩
    · have kk : ¬ (l < 1000000000 ∧ (1000000000 ≤ q ∨ l * 1000000000 + p2 < q * v2)) := by omega
      have hd1 : decide ((l : Int) < 1000000000) = false := by simp; omega
      obtain ⟨g1, g2⟩ := HG.out.done HW.out HVL.out hv1 d2 hp0 a1 kk
      have HG1 : Hid _ := g1
      have HG2 : Hid _ := g2
      clear g1 g2
      go_wp2_with fail
      go_quiet (fail)
      go_wp2
      go_ret
      exact ⟨q, rfl, HG1.out, HG.out.ge, HG2.out, hS.trans (Sm.drewN _ _)⟩
end Go.Proofs.YtpmnfgbbkmodpaaGreatDoor
