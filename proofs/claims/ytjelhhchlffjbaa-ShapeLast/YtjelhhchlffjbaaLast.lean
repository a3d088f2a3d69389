/-
  THE WALK OF ShapeLast: the call gives true. Conditions: the theorem's own (what the argument holds).
-/
import Derived.Test.YtjelhhchlffjbaaBack
namespace Go.Proofs.Ytjelhhchlffjbaa
set_option maxRecDepth 100000
open Go.RowKit
set_option linter.unusedVariables false

theorem first_at {ss : List Int} (h : Rgt ss) (i : Nat) : (plcI ss 0).getD i 0 = 0 := by
  have e : plcI ss 0 = ints (plc (nats ss) 0) := if_pos ⟨by omega, by have := (szI_pos ss).2 h; omega⟩
  rw [e, plc_zero, ints_getD]
  have : (List.replicate (nats ss).length 0).getD i 0 = 0 := by
    simp only [List.getD, List.getElem?_replicate]; split <;> rfl
  rw [this]; rfl
theorem last_at {ss : List Int} (h : Rgt ss) {i : Nat} (hi : i < ss.length) : (plcI ss ((szI ss : Int) - 1)).getD i 0 = ss.getD i 0 - 1 := by
  have hp := (szI_pos ss).2 h
  have e : plcI ss ((szI ss : Int) - 1) = ints (plc (nats ss) (szI ss - 1)) := by
    have e1 : ((szI ss : Int) - 1).toNat = szI ss - 1 := by omega
    have e2 : plcI ss ((szI ss : Int) - 1) = ints (plc (nats ss) ((szI ss : Int) - 1).toNat) := if_pos ⟨by omega, by omega⟩
    rw [e2, e1]
  rw [e, szI_of h, plc_last (pos_nats h.out.2.1), ints_getD]
  have h1 := (h.at hi).1
  have : ((nats ss).map (· - 1)).getD i 0 = (ss.getD i 0).toNat - 1 := by
    rw [← nats_getD]
    have : i < (nats ss).length := by rw [nats_len]; exact hi
    simp [List.getD, this]
  rw [this]; omega
theorem plcI_full {ss : List Int} {n : Int} (h : 0 ≤ n ∧ n < szI ss) : (plcI ss n).length = ss.length := by
  have e : plcI ss n = ints (plc (nats ss) n.toNat) := if_pos h
  rw [e, ints_len, plc_len, nats_len]

set_option maxHeartbeats 1000000 in
theorem shapeLast_any (a1 : Option Addr) (ss : List Int) (c1 : Nat) (w : World) (hS : Sl w a1 ss) (hN : a1 = none → c1 = 0) :
    Calls Try.prog 8 #[.slice a1 ss.length c1] w fun e w' => e = .returned (.bool true) ∧ Below w.heap.size w w' := by
  clear hN
  by_cases hg : 100 < ss.length
  · clear hS
    generalize ss.length = n1 at *
    go_enter Try.func8, Try.ntmps8
    go_wp2_with fail
    refine (awake_any _).mono ?_
    rintro e w1 ⟨rfl, hB⟩
    go_wp2
    go_ret
    exact ⟨rfl, hB⟩
  have hl1 : ss.length ≤ 100 := by omega
  clear hg
  have k1 := size_any a1 ss c1 w (by omega) hS
  have k2 := place_any a1 ss c1 0 w (by omega) hS
  by_cases hr : Rgt ss
  · have hp := (szI_pos ss).2 hr
    have f1 : decide (0 ≤ (0 : Int) ∧ (0 : Int) < szI ss) = true := by simp; omega
    have f2 : (plcI ss 0).length = ss.length := plcI_full ⟨by omega, by omega⟩
    rw [f1, f2] at k2
    have k3 := fun w1 (h : Below w.heap.size w w1) => place_any a1 ss c1 ((szI ss : Int) - 1) w1 (by omega) (hS.below h)
    have f3 : decide (0 ≤ ((szI ss : Int) - 1) ∧ ((szI ss : Int) - 1) < szI ss) = true := by simp; omega
    have f4 : (plcI ss ((szI ss : Int) - 1)).length = ss.length := plcI_full ⟨by omega, by omega⟩
    rw [f3, f4] at k3
    have k4 := fun w1 (h : Below w.heap.size w w1) => place_any a1 ss c1 (szI ss : Int) w1 (by omega) (hS.below h)
    have f5 : decide (0 ≤ (szI ss : Int) ∧ (szI ss : Int) < szI ss) = false := by simp
    have f6 : plcI ss (szI ss : Int) = [] := if_neg fun c => by omega
    rw [f5, f6] at k4
    have HS : Hid (Sl w a1 ss) := hS
    have HR : Hid (Rgt ss) := hr
    have h64 := szI_le ss
    clear f1 f3 f5 f6 hS hr
    obtain ⟨m, hm⟩ : ∃ m, szI ss = m := ⟨_, rfl⟩
    have HM : Hid (szI ss = m ∧ (plcI ss 0).length = ss.length ∧ (plcI ss ((szI ss : Int) - 1)).length = ss.length) := ⟨hm, f2, f4⟩
    obtain ⟨p0, hp0⟩ : ∃ p, plcI ss 0 = p := ⟨_, rfl⟩
    obtain ⟨p1, hp1⟩ : ∃ p, plcI ss ((szI ss : Int) - 1) = p := ⟨_, rfl⟩
    have HP : Hid (plcI ss 0 = p0 ∧ plcI ss ((szI ss : Int) - 1) = p1) := ⟨hp0, hp1⟩
    rw [hp0] at k2
    rw [hp1] at k3
    rw [hm] at k1 k3 k4 h64 hp
    obtain ⟨n, hn⟩ : ∃ n, ss.length = n := ⟨_, rfl⟩
    have HN : Hid (ss.length = n) := hn
    rw [hn] at k1 k2 hl1
    simp only [hn] at k3 k4
    rw [hn]
    clear hm hp0 hp1 hn f2 f4
    go_enter Try.func8, Try.ntmps8
    go_wp2_with fail
    refine k1.mono ?_
    rintro e w1 ⟨rfl, rfl⟩
    go_wp2_with fail
    refine k2.mono ?_
    rintro e w2 ⟨ao1, cap1, rfl, hS1, hB1⟩
    have k3 := k3 w2 hB1
    have H1 : Hid (Below w1.heap.size w1 w2 ∧ Sl w2 ao1 p0) := ⟨hB1, hS1⟩
    clear hS1 hB1 k1 k2
    go_wp2_with fail
    refine k3.mono ?_
    rintro e w3 ⟨ao2, cap2, rfl, hS2, hB2⟩
    have H2 : Hid (Below w1.heap.size w1 w3 ∧ Sl w3 ao1 p0 ∧ Sl w3 ao2 p1) := ⟨H1.out.1.trans (hB2.mono H1.out.1.size), H1.out.2.below hB2, hS2⟩
    have k4 := k4 w3 H2.out.1
    clear hS2 hB2 k3 H1
    go_wp2_with fail
    refine k4.mono ?_
    rintro e w4 ⟨ao3, cap3, rfl, hS3, hB3⟩
    have H3 : Hid (Below w1.heap.size w1 w4 ∧ Sl w4 ao1 p0 ∧ Sl w4 ao2 p1) := ⟨H2.out.1.trans (hB3.mono H2.out.1.size), H2.out.2.1.below hB3, H2.out.2.2.below hB3⟩
    clear hS3 hB3 k4 H2
    go_wp2_with fail
    go_loopw [12, 79] (fun _ i wr => ∃ k : Nat, k ≤ n ∧ i = .int .i64 k ∧ Sm w4 wr) (fun _ i _ => n - (intOf i).toNat)
    case atStart => exact ⟨0, by omega, rfl, Sm.refl _⟩
    case round =>
      obtain ⟨k, hk, rfl, hs⟩ := hrel
      by_cases h : k < n
      · have hks : k < ss.length := by rw [HN.out]; exact h
        obtain ⟨b1, o1, rfl, d1⟩ := H3.out.2.1 k (by rw [← HP.out.1, HM.out.2.1, HN.out]; exact h)
        obtain ⟨b2, o2, rfl, d2⟩ := H3.out.2.2 k (by rw [← HP.out.2, HM.out.2.2, HN.out]; exact h)
        obtain ⟨b3, o3, rfl, d3⟩ := (HS.out.below H3.out.1) k hks
        have e1 := first_at HR.out k
        have e2 := last_at HR.out hks
        rw [HP.out.1] at e1
        rw [HP.out.2] at e2
        have z1 := (HR.out.at hks).1
        have z2 : ss.getD k 0 ≤ 64 := by
          have := (HR.out.at hks).2
          have p := (HR.out.pf k).one_le
          have := Nat.le_mul_of_pos_left (ss.getD k 0).toNat p
          omega
        rw [e1, ← hs.cell] at d1
        rw [e2, ← hs.cell] at d2
        rw [← hs.cell] at d3
        generalize ss.getD k 0 = z at *
        have HSm : Hid (Sm w4 wr) := hs
        clear e1 e2 hs hks
        go_wp2
        go_region
        all_goals
          go_wp2
          go_roundw
        case rel => exact ⟨k + 1, by omega, by go_num, HSm.out.trans (Sm.drew _)⟩
        case measure => simp [intOf]; omega
      · have HSm : Hid (Sm w4 wr) := hs
        clear hs
        go_wp2_with fail
        refine (awake_any _).mono ?_
        rintro e w5 ⟨rfl, hB⟩
        have H4 := H3.out.1.trans (HSm.out.below _)
        have H5 : Hid (Below w1.heap.size w1 w5) := H4.trans (hB.mono H4.size)
        clear hB H4
        go_wp2
        go_ret
        exact ⟨rfl, H5.out⟩
  · have e0 : szI ss = 0 := szI_no hr
    have f1 : decide (0 ≤ (0 : Int) ∧ (0 : Int) < szI ss) = false := by simp [e0]
    have f2 : plcI ss 0 = [] := if_neg fun c => by omega
    rw [f1, f2] at k2
    rw [e0] at k1
    have k3 := fun w1 (h : Below w.heap.size w w1) => right_any a1 ss c1 w1 (by omega) (hS.below h)
    rw [decide_eq_false hr] at k3
    clear e0 f1 f2 hS hr
    generalize ss.length = n at *
    go_enter Try.func8, Try.ntmps8
    go_wp2_with fail
    refine k1.mono ?_
    rintro e w1 ⟨rfl, rfl⟩
    go_wp2_with fail
    refine k2.mono ?_
    rintro e w2 ⟨ao1, cap1, rfl, hS1, hB1⟩
    have k3 := k3 w2 hB1
    have H1 : Hid (Below w1.heap.size w1 w2) := hB1
    clear hS1 hB1 k1 k2
    go_wp2_with fail
    refine k3.mono ?_
    rintro e w3 ⟨rfl, rfl⟩
    go_wp2_with fail
    refine (awake_any _).mono ?_
    rintro e w5 ⟨rfl, hB⟩
    have H5 : Hid (Below w1.heap.size w1 w5) := H1.out.trans (hB.mono H1.out.size)
    clear hB
    go_wp2
    go_ret
    exact ⟨rfl, H5.out⟩
end Go.Proofs.Ytjelhhchlffjbaa
