/-
  THE WALK OF ShapeRight: the call gives true. Conditions: the theorem's own (what the arguments hold).
-/
import Derived.Test.YtjelhhchlffjbaaAw
namespace Go.Proofs.Ytjelhhchlffjbaa
set_option maxRecDepth 100000
open Go.RowKit
set_option linter.unusedVariables false

set_option maxHeartbeats 1000000 in
theorem shapeRight_any (a1 a2 : Option Addr) (xs ys : List Int) (c1 c2 : Nat) (w : World) (hS : Sl w a1 xs) (hT : Sl w a2 ys) (hN : a1 = none → c1 = 0) (hN2 : a2 = none → c2 = 0) :
    Calls Try.prog 3 #[.slice a1 xs.length c1, .slice a2 ys.length c2] w fun e w' => e = .returned (.bool true) ∧ Below w.heap.size w w' := by
  clear hN hN2
  by_cases hg : 100 < xs.length ∨ 100 < ys.length
  · have HG : Hid (100 < xs.length ∨ 100 < ys.length) := hg
    clear hS hT
    generalize xs.length = n1 at *
    generalize ys.length = n2 at *
    go_enter Try.func3, Try.ntmps3
    rcases HG.out with h | h
    · go_wp2_with fail
      refine (awake_any _).mono ?_
      rintro e w1 ⟨rfl, hB⟩
      go_wp2
      go_ret
      exact ⟨rfl, hB⟩
    · by_cases h' : 100 < n1
      · go_wp2_with fail
        refine (awake_any _).mono ?_
        rintro e w1 ⟨rfl, hB⟩
        go_wp2
        go_ret
        exact ⟨rfl, hB⟩
      · go_wp2_with fail
        refine (awake_any _).mono ?_
        rintro e w1 ⟨rfl, hB⟩
        go_wp2
        go_ret
        exact ⟨rfl, hB⟩
  · have hl1 : xs.length ≤ 100 := by omega
    have hl2 : ys.length ≤ 100 := by omega
    clear hg
    have k1 := refRight_any a1 xs c1 w (by omega) hS
    have k2 := fun h => refSize_any a1 xs c1 w h hS
    have k3 := right_any a1 xs c1 w (by omega) hS
    have k4 := size_any a1 xs c1 w (by omega) hS
    have k5 := same_any a1 a2 xs ys c1 c2 w (by omega) (by omega) hS hT
    have k6 := fun w1 (h : Sm w w1) => refSame_any a1 a2 xs ys c1 c2 w1 (by omega) (by omega) (hS.below (h.below _)) (hT.below (h.below _))
    by_cases hr : Rgt xs
    · have k2 := k2 hr
      rw [decide_eq_true hr] at k1 k3
      generalize decide (xs = ys) = d at k5 k6
      clear hS hT hr
      generalize szI xs = q at *
      generalize xs.length = n1 at *
      generalize ys.length = n2 at *
      go_enter Try.func3, Try.ntmps3
      go_wp2_with fail
      refine k1.mono ?_
      rintro e w1 ⟨rfl, rfl⟩
      go_wp2_with fail
      refine k2.mono ?_
      rintro e w1 ⟨rfl, rfl⟩
      go_wp2_with fail
      refine k3.mono ?_
      rintro e w1 ⟨rfl, rfl⟩
      go_wp2_with fail
      refine k4.mono ?_
      rintro e w1 ⟨rfl, rfl⟩
      go_wp2_with fail
      refine k5.mono ?_
      rintro e w2 ⟨rfl, hm⟩
      have k6 := k6 w2 hm
      have H2 : Hid (Sm w1 w2) := hm
      clear hm k1 k2 k3 k4 k5
      go_wp2_with fail
      refine k6.mono ?_
      rintro e w3 ⟨rfl, hm⟩
      have H3 : Hid (Sm w1 w3) := H2.out.trans hm
      clear hm k6 H2
      cases d
      all_goals
        go_wp2_with fail
        refine (awake_any _).mono ?_
        rintro e w4 ⟨rfl, hB⟩
        have H4 : Hid (Below w1.heap.size w1 w4) := (H3.out.below _).trans (hB.mono (by rw [H3.out.heap]; exact Nat.le_refl _))
        clear hB
        go_wp2
        go_ret
        exact ⟨rfl, H4.out⟩
    · rw [decide_eq_false hr] at k1 k3
      rw [szI_no hr] at k4
      generalize decide (xs = ys) = d at k5 k6
      clear hS hT hr k2
      generalize xs.length = n1 at *
      generalize ys.length = n2 at *
      go_enter Try.func3, Try.ntmps3
      go_wp2_with fail
      refine k1.mono ?_
      rintro e w1 ⟨rfl, rfl⟩
      go_wp2_with fail
      refine k3.mono ?_
      rintro e w1 ⟨rfl, rfl⟩
      go_wp2_with fail
      refine k4.mono ?_
      rintro e w1 ⟨rfl, rfl⟩
      go_wp2_with fail
      refine k5.mono ?_
      rintro e w2 ⟨rfl, hm⟩
      have k6 := k6 w2 hm
      have H2 : Hid (Sm w1 w2) := hm
      clear hm k1 k3 k4 k5
      go_wp2_with fail
      refine k6.mono ?_
      rintro e w3 ⟨rfl, hm⟩
      have H3 : Hid (Sm w1 w3) := H2.out.trans hm
      clear hm k6 H2
      cases d
      all_goals
        go_wp2_with fail
        refine (awake_any _).mono ?_
        rintro e w4 ⟨rfl, hB⟩
        have H4 : Hid (Below w1.heap.size w1 w4) := (H3.out.below _).trans (hB.mono (by rw [H3.out.heap]; exact Nat.le_refl _))
        clear hB
        go_wp2
        go_ret
        exact ⟨rfl, H4.out⟩
end Go.Proofs.Ytjelhhchlffjbaa
