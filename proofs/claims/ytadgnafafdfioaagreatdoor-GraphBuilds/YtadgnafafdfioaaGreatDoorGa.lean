/-
  THE PROGRAM's SMALL QUESTIONS OF A NODE: named, ahead, parts, plain. Conditions: each theorem's own.
-/
import Derived.Test.YtadgnafafdfioaaGreatDoorGX
import Derived.Test.YtadgnafafdfioaaGreatDoorGP
import Derived.Deep.Cut
namespace Go.Proofs.YtadgnafafdfioaaGreatDoor.Gr
open Go.Proofs.YtadgnafafdfioaaGreatDoor.Rd
set_option maxRecDepth 100000
open Go.RowKit
set_option linter.unusedVariables false
set_option linter.unusedSimpArgs false

theorem isw_b {x : ByteArray} {l : List UInt8} {b : Bool} (h : isw x l = b) : (x.toList == l) = b := by rw [isw_list]; exact h
theorem emp_b {x : ByteArray} {b : Bool} (h : decide (x.size = 0) = b) : (x.toList == []) = b := by
  subst h
  rw [toList_data]
  cases c : x.data.toList with
  | nil =>
    have : x.size = 0 := by show x.data.size = 0; rw [← Array.length_toList, c]; rfl
    simp [this]
  | cons a l =>
    have : ¬ x.size = 0 := by
      intro h
      have h' : x.data.size = 0 := h
      rw [← Array.length_toList, c] at h'; cases h'
    simp [this]

set_option maxHeartbeats 1000000 in
theorem named_any (op : ByteArray) (w : World) : Calls Tryz.prog 18 #[.string op] w fun e w' => e = .returned (.bool (nmd op)) ∧ w' = w := by
  obtain ⟨p, hp⟩ : ∃ b, isw op lParam = b := ⟨_, rfl⟩
  obtain ⟨i, hi⟩ : ∃ b, isw op lInput = b := ⟨_, rfl⟩
  have e : nmd op = (p || i) := by unfold nmd; rw [hp, hi]
  have gp := isw_b hp
  have gi := isw_b hi
  rw [e]
  clear hp hi e
  go_enter Tryz.func18, Tryz.ntmps18
  cases p with
  | true => go_wp2; go_ret; exact ⟨rfl, rfl⟩
  | false =>
    cases i with
    | true => go_wp2; go_ret; exact ⟨rfl, rfl⟩
    | false => go_wp2; go_ret; exact ⟨rfl, rfl⟩

set_option maxHeartbeats 1000000 in
theorem ahead_any (ao : Option Addr) (n c : Nat) (A : Int) (w : World) : Calls Tryz.prog 19 #[.slice ao n c, .int .i64 A] w fun e w' => e = .returned (.bool (inl n A)) ∧ w' = w := by
  go_enter Tryz.func19, Tryz.ntmps19
  by_cases h1 : 0 ≤ A
  · by_cases h2 : A < (n : Int)
    · have e : inl n A = true := inl_iff.2 ⟨h1, h2⟩
      rw [e]; clear e
      go_wp2
      go_ret
      exact ⟨rfl, rfl⟩
    · have e : inl n A = false := by simp [inl, h2]
      rw [e]; clear e
      go_wp2
      go_ret
      exact ⟨rfl, rfl⟩
  · have e : inl n A = false := by simp [inl, h1]
    rw [e]; clear e
    go_wp2
    go_ret
    exact ⟨rfl, rfl⟩

set_option maxHeartbeats 4000000 in
theorem parts_any (op : ByteArray) (w : World) : Calls Tryz.prog 35 #[.string op] w fun e w' => e = .returned (.int .i64 (prv op)) ∧ w' = w := by
  by_cases h0 : isw op lParam = true
  · have hv : prv op = 0 := by rw [isw_eq h0]; decide
    have HV : Hid _ := hv
    clear hv
    have g0 := isw_b h0
    clear h0
    go_enter Tryz.func35, Tryz.ntmps35
    go_wp2
    go_ret
    exact ⟨by rw [HV.out]; rfl, rfl⟩
  have f0 : isw op lParam = false := by simpa using h0
  have g0 := isw_b f0
  clear h0
  by_cases h1 : isw op lInput = true
  · have hv : prv op = 0 := by rw [isw_eq h1]; decide
    have HV : Hid _ := hv
    clear hv
    have g1 := isw_b h1
    clear h1
    go_enter Tryz.func35, Tryz.ntmps35
    go_wp2
    go_ret
    exact ⟨by rw [HV.out]; rfl, rfl⟩
  have f1 : isw op lInput = false := by simpa using h1
  have g1 := isw_b f1
  clear h1
  by_cases h2 : isw op lConst = true
  · have hv : prv op = 0 := by rw [isw_eq h2]; decide
    have HV : Hid _ := hv
    clear hv
    have g2 := isw_b h2
    clear h2
    go_enter Tryz.func35, Tryz.ntmps35
    go_wp2
    go_ret
    exact ⟨by rw [HV.out]; rfl, rfl⟩
  have f2 : isw op lConst = false := by simpa using h2
  have g2 := isw_b f2
  clear h2
  by_cases h3 : isw op lRelu = true
  · have hv : prv op = 1 := by rw [isw_eq h3]; decide
    have HV : Hid _ := hv
    clear hv
    have g3 := isw_b h3
    clear h3
    go_enter Tryz.func35, Tryz.ntmps35
    go_wp2
    go_ret
    exact ⟨by rw [HV.out]; rfl, rfl⟩
  have f3 : isw op lRelu = false := by simpa using h3
  have g3 := isw_b f3
  clear h3
  by_cases h4 : isw op lAbs = true
  · have hv : prv op = 1 := by rw [isw_eq h4]; decide
    have HV : Hid _ := hv
    clear hv
    have g4 := isw_b h4
    clear h4
    go_enter Tryz.func35, Tryz.ntmps35
    go_wp2
    go_ret
    exact ⟨by rw [HV.out]; rfl, rfl⟩
  have f4 : isw op lAbs = false := by simpa using h4
  have g4 := isw_b f4
  clear h4
  by_cases h5 : isw op lStep = true
  · have hv : prv op = 1 := by rw [isw_eq h5]; decide
    have HV : Hid _ := hv
    clear hv
    have g5 := isw_b h5
    clear h5
    go_enter Tryz.func35, Tryz.ntmps35
    go_wp2
    go_ret
    exact ⟨by rw [HV.out]; rfl, rfl⟩
  have f5 : isw op lStep = false := by simpa using h5
  have g5 := isw_b f5
  clear h5
  by_cases h6 : isw op lSign = true
  · have hv : prv op = 1 := by rw [isw_eq h6]; decide
    have HV : Hid _ := hv
    clear hv
    have g6 := isw_b h6
    clear h6
    go_enter Tryz.func35, Tryz.ntmps35
    go_wp2
    go_ret
    exact ⟨by rw [HV.out]; rfl, rfl⟩
  have f6 : isw op lSign = false := by simpa using h6
  have g6 := isw_b f6
  clear h6
  by_cases h7 : isw op lScale = true
  · have hv : prv op = 1 := by rw [isw_eq h7]; decide
    have HV : Hid _ := hv
    clear hv
    have g7 := isw_b h7
    clear h7
    go_enter Tryz.func35, Tryz.ntmps35
    go_wp2
    go_ret
    exact ⟨by rw [HV.out]; rfl, rfl⟩
  have f7 : isw op lScale = false := by simpa using h7
  have g7 := isw_b f7
  clear h7
  by_cases h8 : isw op lPower = true
  · have hv : prv op = 1 := by rw [isw_eq h8]; decide
    have HV : Hid _ := hv
    clear hv
    have g8 := isw_b h8
    clear h8
    go_enter Tryz.func35, Tryz.ntmps35
    go_wp2
    go_ret
    exact ⟨by rw [HV.out]; rfl, rfl⟩
  have f8 : isw op lPower = false := by simpa using h8
  have g8 := isw_b f8
  clear h8
  by_cases h9 : isw op lTranspose = true
  · have hv : prv op = 1 := by rw [isw_eq h9]; decide
    have HV : Hid _ := hv
    clear hv
    have g9 := isw_b h9
    clear h9
    go_enter Tryz.func35, Tryz.ntmps35
    go_wp2
    go_ret
    exact ⟨by rw [HV.out]; rfl, rfl⟩
  have f9 : isw op lTranspose = false := by simpa using h9
  have g9 := isw_b f9
  clear h9
  by_cases h10 : isw op lSum = true
  · have hv : prv op = 1 := by rw [isw_eq h10]; decide
    have HV : Hid _ := hv
    clear hv
    have g10 := isw_b h10
    clear h10
    go_enter Tryz.func35, Tryz.ntmps35
    go_wp2
    go_ret
    exact ⟨by rw [HV.out]; rfl, rfl⟩
  have f10 : isw op lSum = false := by simpa using h10
  have g10 := isw_b f10
  clear h10
  by_cases h11 : isw op lReshape = true
  · have hv : prv op = 1 := by rw [isw_eq h11]; decide
    have HV : Hid _ := hv
    clear hv
    have g11 := isw_b h11
    clear h11
    go_enter Tryz.func35, Tryz.ntmps35
    go_wp2
    go_ret
    exact ⟨by rw [HV.out]; rfl, rfl⟩
  have f11 : isw op lReshape = false := by simpa using h11
  have g11 := isw_b f11
  clear h11
  by_cases h12 : isw op lSpread = true
  · have hv : prv op = 1 := by rw [isw_eq h12]; decide
    have HV : Hid _ := hv
    clear hv
    have g12 := isw_b h12
    clear h12
    go_enter Tryz.func35, Tryz.ntmps35
    go_wp2
    go_ret
    exact ⟨by rw [HV.out]; rfl, rfl⟩
  have f12 : isw op lSpread = false := by simpa using h12
  have g12 := isw_b f12
  clear h12
  by_cases h13 : isw op lAdd = true
  · have hv : prv op = 2 := by rw [isw_eq h13]; decide
    have HV : Hid _ := hv
    clear hv
    have g13 := isw_b h13
    clear h13
    go_enter Tryz.func35, Tryz.ntmps35
    go_wp2
    go_ret
    exact ⟨by rw [HV.out]; rfl, rfl⟩
  have f13 : isw op lAdd = false := by simpa using h13
  have g13 := isw_b f13
  clear h13
  by_cases h14 : isw op lSub = true
  · have hv : prv op = 2 := by rw [isw_eq h14]; decide
    have HV : Hid _ := hv
    clear hv
    have g14 := isw_b h14
    clear h14
    go_enter Tryz.func35, Tryz.ntmps35
    go_wp2
    go_ret
    exact ⟨by rw [HV.out]; rfl, rfl⟩
  have f14 : isw op lSub = false := by simpa using h14
  have g14 := isw_b f14
  clear h14
  by_cases h15 : isw op lMul = true
  · have hv : prv op = 2 := by rw [isw_eq h15]; decide
    have HV : Hid _ := hv
    clear hv
    have g15 := isw_b h15
    clear h15
    go_enter Tryz.func35, Tryz.ntmps35
    go_wp2
    go_ret
    exact ⟨by rw [HV.out]; rfl, rfl⟩
  have f15 : isw op lMul = false := by simpa using h15
  have g15 := isw_b f15
  clear h15
  by_cases h16 : isw op lMax = true
  · have hv : prv op = 2 := by rw [isw_eq h16]; decide
    have HV : Hid _ := hv
    clear hv
    have g16 := isw_b h16
    clear h16
    go_enter Tryz.func35, Tryz.ntmps35
    go_wp2
    go_ret
    exact ⟨by rw [HV.out]; rfl, rfl⟩
  have f16 : isw op lMax = false := by simpa using h16
  have g16 := isw_b f16
  clear h16
  by_cases h17 : isw op lAbove = true
  · have hv : prv op = 2 := by rw [isw_eq h17]; decide
    have HV : Hid _ := hv
    clear hv
    have g17 := isw_b h17
    clear h17
    go_enter Tryz.func35, Tryz.ntmps35
    go_wp2
    go_ret
    exact ⟨by rw [HV.out]; rfl, rfl⟩
  have f17 : isw op lAbove = false := by simpa using h17
  have g17 := isw_b f17
  clear h17
  by_cases h18 : isw op lMatmul = true
  · have hv : prv op = 2 := by rw [isw_eq h18]; decide
    have HV : Hid _ := hv
    clear hv
    have g18 := isw_b h18
    clear h18
    go_enter Tryz.func35, Tryz.ntmps35
    go_wp2
    go_ret
    exact ⟨by rw [HV.out]; rfl, rfl⟩
  have f18 : isw op lMatmul = false := by simpa using h18
  have g18 := isw_b f18
  clear h18
  have hv : prv op = -1 := by unfold prv prs noLs oneLs twoLs; simp only [List.any_cons, List.any_nil, f0, f1, f2, f3, f4, f5, f6, f7, f8, f9, f10, f11, f12, f13, f14, f15, f16, f17, f18]; rfl
  have HV : Hid _ := hv
  clear hv
  clear f0 f1 f2 f3 f4 f5 f6 f7 f8 f9 f10 f11 f12 f13 f14 f15 f16 f17 f18
  go_enter Tryz.func35, Tryz.ntmps35
  go_wp2
  go_ret
  exact ⟨by rw [HV.out]; rfl, rfl⟩
end Go.Proofs.YtadgnafafdfioaaGreatDoor.Gr
