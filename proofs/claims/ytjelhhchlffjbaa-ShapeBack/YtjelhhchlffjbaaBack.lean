/-
  PLACES AND COUNTS, THERE AND BACK; THE WALK OF ShapeBack: the call gives true. Conditions: the theorems' own (what the arguments hold).
-/
import Derived.Test.YtjelhhchlffjbaaAw
namespace Go.Proofs.Ytjelhhchlffjbaa
set_option maxRecDepth 100000
open Go.RowKit
set_option linter.unusedVariables false

theorem Inn.of_nat {ss : List Int} {t : List Nat} (hp : ∀ z, z ∈ ss → 1 ≤ z) (h : inn (nats ss) t = true) : Inn ss (ints t) := by
  refine Inn.put ⟨by rw [ints_len, inn_len h, nats_len], fun i hi => ?_⟩
  have k := inn_at h (k := i) (by rw [nats_len]; exact hi)
  rw [nats_getD] at k
  rw [ints_getD]
  omega
theorem plcI_of {ss : List Int} {n : Nat} (h : n < szI ss) : Rgt ss ∧ Inn ss (plcI ss n) ∧ offs ss (plcI ss n) = n := by
  have hr : Rgt ss := (szI_pos ss).1 (by omega)
  have e : plcI ss n = ints (plc (nats ss) n) := if_pos ⟨by omega, by omega⟩
  rw [szI_of hr] at h
  have hp := pos_nats hr.out.2.1
  have hi : Inn ss (plcI ss n) := by rw [e]; exact Inn.of_nat hr.out.2.1 (plc_inn hp h)
  refine ⟨hr, hi, ?_⟩
  have : offs ss (plcI ss n) = cnt (nats ss) (nats (plcI ss n)) := if_pos ⟨hr, hi⟩
  rw [this, e, nats_ints, cnt_plc hp h]
theorem offs_of {ss ts : List Int} (h : Rgt ss ∧ Inn ss ts) : offs ss ts < szI ss ∧ plcI ss (offs ss ts) = ts := by
  have e : offs ss ts = cnt (nats ss) (nats ts) := if_pos h
  have hl : offs ss ts < szI ss := by rw [e, szI_of h.1]; exact cnt_lt h.2.nat
  refine ⟨hl, ?_⟩
  have e2 : plcI ss (offs ss ts) = ints (plc (nats ss) (offs ss ts)) := if_pos ⟨by omega, by omega⟩
  rw [e2, e, plc_cnt h.2.nat]
  refine ints_nats fun z hz => ?_
  obtain ⟨i, hi, rfl⟩ := List.getElem_of_mem hz
  have := (h.2.out.2 i (by rw [← h.2.out.1]; exact hi)).1
  simpa [List.getD, hi] using this
theorem plcI_len (ss : List Int) (n : Int) : (plcI ss n).length ≤ ss.length := by
  unfold plcI
  split
  · rw [ints_len, plc_len, nats_len]; exact Nat.le_refl _
  · simp

set_option maxHeartbeats 1000000 in
theorem shapeBack_any (a1 a2 : Option Addr) (ss ts : List Int) (c1 c2 : Nat) (n : Int) (w : World) (hS : Sl w a1 ss) (hT : Sl w a2 ts) (hN : a1 = none → c1 = 0) (hN2 : a2 = none → c2 = 0) (hw : (Lit.int .i64 n).wf = true) :
    Calls Try.prog 6 #[.slice a1 ss.length c1, .slice a2 ts.length c2, .int .i64 n] w fun e w' => e = .returned (.bool true) ∧ Below w.heap.size w w' := by
  clear hN hN2 hw
  by_cases hg : 100 < ss.length ∨ 100 < ts.length
  · have HG : Hid (100 < ss.length ∨ 100 < ts.length) := hg
    clear hS hT hg
    generalize ss.length = n1 at *
    generalize ts.length = n2 at *
    go_enter Try.func6, Try.ntmps6
    by_cases h : 100 < n1
    · go_wp2_with fail
      refine (awake_any _).mono ?_
      rintro e w1 ⟨rfl, hB⟩
      go_wp2
      go_ret
      exact ⟨rfl, hB⟩
    · have h' : 100 < n2 := by have := HG.out; omega
      go_wp2_with fail
      refine (awake_any _).mono ?_
      rintro e w1 ⟨rfl, hB⟩
      go_wp2
      go_ret
      exact ⟨rfl, hB⟩
  · have hl1 : ss.length ≤ 100 := by omega
    have hl2 : ts.length ≤ 100 := by omega
    clear hg
    have k1 := place_any a1 ss c1 n w (by omega) hS
    have k3 := fun w1 (h : Below w.heap.size w w1) => offset_any a1 a2 ss ts c1 c2 w1 (by omega) (by omega) (hS.below h) (hT.below h)
    have k2 := fun w1 (h : Below w.heap.size w w1) ao cap (h2 : Sl w1 ao (plcI ss n)) => offset_any a1 ao ss (plcI ss n) c1 cap w1 (by omega) (by have := plcI_len ss n; omega) (hS.below h) h2
    have k4 := fun w1 (h : Below w.heap.size w w1) => place_any a1 ss c1 (offs ss ts) w1 (by omega) (hS.below h)
    have k5 := fun w1 (h : Below w.heap.size w w1) ao cap (h2 : Sl w1 ao (plcI ss (offs ss ts))) => same_any ao a2 (plcI ss (offs ss ts)) ts cap c2 w1 (by have := plcI_len ss (offs ss ts); omega) (by omega) h2 (hT.below h)
    have f1 : decide (0 ≤ n ∧ n < szI ss) = true → decide (Rgt ss ∧ Inn ss (plcI ss n)) = true ∧ ((offs ss (plcI ss n) : Nat) : Int) = n := by
      intro h
      have h := of_decide_eq_true h
      obtain ⟨m, rfl⟩ : ∃ m : Nat, n = m := ⟨n.toNat, by omega⟩
      obtain ⟨p1, p2, p3⟩ := plcI_of (ss := ss) (n := m) (by omega)
      exact ⟨by simp [p1, p2], by rw [p3]⟩
    have f2 : decide (Rgt ss ∧ Inn ss ts) = true → decide (0 ≤ ((offs ss ts : Nat) : Int) ∧ ((offs ss ts : Nat) : Int) < szI ss) = true ∧ decide (plcI ss (offs ss ts) = ts) = true := by
      intro h
      obtain ⟨p1, p2⟩ := offs_of (of_decide_eq_true h)
      exact ⟨by simp; omega, by rw [p2]; simp⟩
    clear hS hT
    generalize decide (0 ≤ n ∧ n < szI ss) = d1 at k1 f1
    generalize decide (Rgt ss ∧ Inn ss (plcI ss n)) = d2 at k2 f1
    generalize decide (Rgt ss ∧ Inn ss ts) = d3 at k3 f2
    generalize decide (0 ≤ ((offs ss ts : Nat) : Int) ∧ ((offs ss ts : Nat) : Int) < szI ss) = d4 at k4 f2
    generalize decide (plcI ss (offs ss ts) = ts) = d5 at k5 f2
    generalize offs ss (plcI ss n) = m1 at k2 f1
    generalize plcI ss (offs ss ts) = q2 at k4 k5
    generalize offs ss ts = m2 at k3 k4
    generalize plcI ss n = q1 at k1 k2
    generalize ss.length = n1 at *
    generalize ts.length = n2 at *
    go_enter Try.func6, Try.ntmps6
    go_wp2_with fail
    refine k1.mono ?_
    rintro e w1 ⟨ao1, cap1, rfl, hS1, hB1⟩
    have H1 : Hid (Below w.heap.size w w1) := hB1
    have k2 := k2 w1 hB1 ao1 cap1 hS1
    have k3 := k3 w1 hB1
    have k4 := k4 w1 hB1
    clear hS1 hB1 k1
    go_wp2_with fail
    refine k2.mono ?_
    rintro e w2 ⟨rfl, rfl⟩
    go_wp2_with fail
    refine k3.mono ?_
    rintro e w2 ⟨rfl, rfl⟩
    go_wp2_with fail
    refine k4.mono ?_
    rintro e w3 ⟨ao2, cap2, rfl, hS2, hB2⟩
    have H2 : Hid (Below w.heap.size w w3) := H1.out.trans (hB2.mono H1.out.size)
    have k5 := k5 w3 H2.out ao2 cap2 hS2
    clear hS2 hB2 k2 k3 k4 H1
    have HF : Hid ((d1 = true → d2 = true ∧ (m1 : Int) = n) ∧ (d3 = true → d4 = true ∧ d5 = true)) := ⟨f1, f2⟩
    clear f1 f2
    cases d1
    · cases d3
      · clear k5
        go_wp2_with fail
        refine (awake_any _).mono ?_
        rintro e w5 ⟨rfl, hB⟩
        have H5 : Hid (Below w.heap.size w w5) := H2.out.trans (hB.mono H2.out.size)
        clear hB
        go_wp2
        go_ret
        exact ⟨rfl, H5.out⟩
      · skip
        obtain ⟨rfl, rfl⟩ := HF.out.2 rfl
        go_wp2_with fail
        refine k5.mono ?_
        rintro e w4 ⟨rfl, hm⟩
        have H4 : Hid (Below w.heap.size w w4) := H2.out.trans (hm.below _)
        clear hm k5
        go_wp2_with fail
        refine (awake_any _).mono ?_
        rintro e w5 ⟨rfl, hB⟩
        have H5 : Hid (Below w.heap.size w w5) := H4.out.trans (hB.mono H4.out.size)
        clear hB
        go_wp2
        go_ret
        exact ⟨rfl, H5.out⟩
    · obtain ⟨rfl, hm1⟩ := HF.out.1 rfl
      have hm2 : ((m1 : Int) == n) = true := by simp [hm1]
      clear hm1
      cases d3
      · clear k5
        go_wp2_with fail
        refine (awake_any _).mono ?_
        rintro e w5 ⟨rfl, hB⟩
        have H5 : Hid (Below w.heap.size w w5) := H2.out.trans (hB.mono H2.out.size)
        clear hB
        go_wp2
        go_ret
        exact ⟨rfl, H5.out⟩
      · skip
        obtain ⟨rfl, rfl⟩ := HF.out.2 rfl
        go_wp2_with fail
        refine k5.mono ?_
        rintro e w4 ⟨rfl, hm⟩
        have H4 : Hid (Below w.heap.size w w4) := H2.out.trans (hm.below _)
        clear hm k5
        go_wp2_with fail
        refine (awake_any _).mono ?_
        rintro e w5 ⟨rfl, hB⟩
        have H5 : Hid (Below w.heap.size w w5) := H4.out.trans (hB.mono H4.out.size)
        clear hB
        go_wp2
        go_ret
        exact ⟨rfl, H5.out⟩
end Go.Proofs.Ytjelhhchlffjbaa
