/-
  WHAT THE DOCUMENT's Shape GIVES, where a node has what it must: Sum. Conditions: each theorem's own.
-/
import Derived.Test.YtadgnafafdfioaaGreatDoorGu
import Derived.Test.YtadgnafafdfioaaGreatDoorGx
import Derived.Deep.Cut
namespace Go.Proofs.YtadgnafafdfioaaGreatDoor.Gr
open Go.Proofs.YtadgnafafdfioaaGreatDoor.Rd
set_option maxRecDepth 100000
open Go.RowKit
set_option linter.unusedVariables false
set_option linter.unusedSimpArgs false

set_option maxHeartbeats 1000000 in
theorem refShape_Sum_yes (op name K : ByteArray) (i : Nat) (B n : Int) (zs : List Int) (sc dl dc ll c bl ol ac nx : Nat) (sa da aa : Option Addr) (w : World) (hm : prv op = 1) (hi : i < ll) (hB : B = 0) (f_Param : isw op lParam = false) (f_Input : isw op lInput = false) (f_Const : isw op lConst = false) (f_Matmul : isw op lMatmul = false) (f_Transpose : isw op lTranspose = false) (f_Sum : isw op lSum = true) (f_Scale : isw op lScale = false) (f_Power : isw op lPower = false) (f_Reshape : isw op lReshape = false) (f_Spread : isw op lSpread = false) (hn0 : name.size = 0) (hk : K.size = 0) (hn : n = 0) (hd : dl = 0) (hC : w.cell? ⟨bl, ol + i * 8 + 4, none⟩ = some (.slice aa nx ac)) : Calls Tryz.prog 11 #[.slice (some ⟨bl, ol, none⟩) ll c, .agg #[.string op, .int .i64 (i : Int), .int .i64 B, .string name, .slice sa zs.length sc, .string K, .int .i64 n, .slice da dl dc]] w fun e w' => (∃ a c, e = .returned (.tuple #[.slice a 0 c, .bool true])) ∧ Below w.heap.size w w' := by
  have g_Param := isw_g f_Param
  have g_Input := isw_g f_Input
  have g_Const := isw_g f_Const
  have g_Matmul := isw_g f_Matmul
  have g_Transpose := isw_g f_Transpose
  have g_Sum := isw_g f_Sum
  have g_Scale := isw_g f_Scale
  have g_Power := isw_g f_Power
  have g_Reshape := isw_g f_Reshape
  have g_Spread := isw_g f_Spread
  clear f_Param f_Input f_Const f_Matmul f_Transpose f_Sum f_Scale f_Power f_Reshape f_Spread
  have HRt : Hid (∀ v a c, Calls Tryz.prog 26 #[.slice a 0 c] v fun e w' => e = .returned (.bool true) ∧ w' = v) := fun v a c => Sp.refRight_any a [] c v (by simp) (fun i hi => by cases hi)
  have hke : (K.toList == []) = true := emp_yes hk
  have hne : (name.toList == []) = true := emp_yes hn0
  clear hk hn0
  have HPt : Hid (∀ v, Calls Tryz.prog 24 #[.string op] v fun e w' => e = .returned (.int .i64 (1)) ∧ Below v.heap.size v w') := fun v => by
    have := refParts_any op v
    rw [hm] at this
    exact this
  clear hm
  go_enter Tryz.func11, Tryz.ntmps11
  go_wp2_with fail
  refine (HPt.out _).mono ?_
  rintro e w1 ⟨rfl, hB1⟩
  obtain ⟨o1, -, hBx⟩ := own1 hB1
  have q0 := o1 0
  have q1 := o1 1
  have q2 := o1 2
  have q3 := o1 3
  have q4 := o1 4
  have q5 := o1 5
  have q6 := o1 6
  have q7 := o1 7
  simp at q0 q1 q2 q3 q4 q5 q6 q7
  have HB1 : Hid (Below w.heap.size w w1) := hBx
  have kC := cell_below HB1.out hC
  clear hC
  obtain ⟨p, hp⟩ : ∃ p, w.heap.size = p := ⟨_, rfl⟩
  clear hB1 hBx o1 HPt
  simp only [hp] at q0 q1 q2 q3 q4 q5 q6 q7 ⊢
  have HP : Hid _ := hp
  clear hp
  go_wp2_with fail
  refine (HRt.out _ _ _).mono ?_
  rintro e w3 ⟨rfl, rfl⟩
  go_wp2
  go_ret2
  exact ⟨⟨_, _, rfl⟩, HP.out ▸ HB1.out⟩

end Go.Proofs.YtadgnafafdfioaaGreatDoor.Gr
