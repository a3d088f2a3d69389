/-
  WHAT THE DOCUMENT's Shape GIVES, where a node has what it must: Matmul. Conditions: each theorem's own.
-/
import Derived.Test.YtadgnafafdfioaaGreatDoorGS
import Derived.Test.YtadgnafafdfioaaGreatDoorGX
import Derived.Deep.Cut
namespace Go.Proofs.YtadgnafafdfioaaGreatDoor.Gr
open Go.Proofs.YtadgnafafdfioaaGreatDoor.Rd
set_option maxRecDepth 100000
open Go.RowKit
set_option linter.unusedVariables false
set_option linter.unusedSimpArgs false

set_option maxHeartbeats 1000000 in
theorem refShape_Matmul_nc (op name K : ByteArray) (i j : Nat) (n : Int) (zs : List Int) (sc dl dc ll c bl ol ac bc : Nat) (sa da aa ba : Option Addr) (x0 x1 y0 y1 : Int) (xb xo yb yo : Nat) (w : World) (hm : prv op = 2) (hi : i < ll) (hj : j < ll) (f_Param : isw op lParam = false) (f_Input : isw op lInput = false) (f_Const : isw op lConst = false) (f_Matmul : isw op lMatmul = true) (f_Transpose : isw op lTranspose = false) (f_Sum : isw op lSum = false) (f_Scale : isw op lScale = false) (f_Power : isw op lPower = false) (f_Reshape : isw op lReshape = false) (f_Spread : isw op lSpread = false) (hn0 : name.size = 0) (hk : K.size = 0) (hn : n = 0) (hd : dl = 0) (hC : w.cell? ⟨bl, ol + i * 8 + 4, none⟩ = some (.slice aa 2 ac)) (hD : w.cell? ⟨bl, ol + j * 8 + 4, none⟩ = some (.slice ba 2 bc)) (haa : aa = some ⟨xb, xo, none⟩) (hX : w.cell? ⟨xb, xo, none⟩ = some (.int .i64 x0)) (hY : w.cell? ⟨xb, xo + 1, none⟩ = some (.int .i64 x1)) (hba : ba = some ⟨yb, yo, none⟩) (hU : w.cell? ⟨yb, yo, none⟩ = some (.int .i64 y0)) (hV : w.cell? ⟨yb, yo + 1, none⟩ = some (.int .i64 y1)) (hxy : ¬ x1 = y0) : Calls Tryz.prog 11 #[.slice (some ⟨bl, ol, none⟩) ll c, .agg #[.string op, .int .i64 (i : Int), .int .i64 (j : Int), .string name, .slice sa zs.length sc, .string K, .int .i64 n, .slice da dl dc]] w fun e w' => (∃ a n c, e = .returned (.tuple #[.slice a n c, .bool false])) ∧ Below w.heap.size w w' := by
  have g_Param := isw_g f_Param
  have g_Input := isw_g f_Input
  have g_Const := isw_g f_Const
  have g_Matmul := isw_g f_Matmul
  have g_Transpose := isw_g f_Transpose
  have g_Sum := isw_g f_Sum
  have g_Scale := isw_g f_Scale
  have g_Power := isw_g f_Power
  have g_Reshape := isw_g f_Reshape
  have g_Spread := isw_g f_Spread
  clear f_Param f_Input f_Const f_Matmul f_Transpose f_Sum f_Scale f_Power f_Reshape f_Spread
  subst haa hba
  have hke : (K.toList == []) = true := emp_yes hk
  have hne : (name.toList == []) = true := emp_yes hn0
  clear hk hn0
  have HPt : Hid (∀ v, Calls Tryz.prog 24 #[.string op] v fun e w' => e = .returned (.int .i64 (2)) ∧ Below v.heap.size v w') := fun v => by
    have := refParts_any op v
    rw [hm] at this
    exact this
  clear hm
  go_enter Tryz.func11, Tryz.ntmps11
  go_wp2_with fail
  refine (HPt.out _).mono ?_
  rintro e w1 ⟨rfl, hB1⟩
  obtain ⟨o1, -, hBx⟩ := own1 hB1
  have q0 := o1 0
  have q1 := o1 1
  have q2 := o1 2
  have q3 := o1 3
  have q4 := o1 4
  have q5 := o1 5
  have q6 := o1 6
  have q7 := o1 7
  simp at q0 q1 q2 q3 q4 q5 q6 q7
  have HB1 : Hid (Below w.heap.size w w1) := hBx
  have kC := cell_below HB1.out hC
  clear hC
  have kD := cell_below HB1.out hD
  clear hD
  have kX := cell_below HB1.out hX
  clear hX
  have kY := cell_below HB1.out hY
  clear hY
  have kU := cell_below HB1.out hU
  clear hU
  have kV := cell_below HB1.out hV
  clear hV
  obtain ⟨p, hp⟩ : ∃ p, w.heap.size = p := ⟨_, rfl⟩
  clear hB1 hBx o1 HPt
  simp only [hp] at q0 q1 q2 q3 q4 q5 q6 q7 ⊢
  have HP : Hid _ := hp
  clear hp
  go_upto_region 35 with fail
  go_quiet (fail)
  go_wp2
  go_ret2
  exact ⟨⟨_, _, _, rfl⟩, HP.out ▸ bl_n HB1.out _⟩

set_option maxHeartbeats 1000000 in
theorem refShape_Matmul_na (op name K : ByteArray) (i j : Nat) (n : Int) (zs : List Int) (sc dl dc ll c bl ol ac bc nx ny : Nat) (sa da aa ba : Option Addr) (w : World) (hm : prv op = 2) (hi : i < ll) (hj : j < ll) (f_Param : isw op lParam = false) (f_Input : isw op lInput = false) (f_Const : isw op lConst = false) (f_Matmul : isw op lMatmul = true) (f_Transpose : isw op lTranspose = false) (f_Sum : isw op lSum = false) (f_Scale : isw op lScale = false) (f_Power : isw op lPower = false) (f_Reshape : isw op lReshape = false) (f_Spread : isw op lSpread = false) (hn0 : name.size = 0) (hk : K.size = 0) (hn : n = 0) (hd : dl = 0) (hx : ¬ nx = 2) (hC : w.cell? ⟨bl, ol + i * 8 + 4, none⟩ = some (.slice aa nx ac)) (hD : w.cell? ⟨bl, ol + j * 8 + 4, none⟩ = some (.slice ba ny bc)) : Calls Tryz.prog 11 #[.slice (some ⟨bl, ol, none⟩) ll c, .agg #[.string op, .int .i64 (i : Int), .int .i64 (j : Int), .string name, .slice sa zs.length sc, .string K, .int .i64 n, .slice da dl dc]] w fun e w' => (∃ a n c, e = .returned (.tuple #[.slice a n c, .bool false])) ∧ Below w.heap.size w w' := by
  have g_Param := isw_g f_Param
  have g_Input := isw_g f_Input
  have g_Const := isw_g f_Const
  have g_Matmul := isw_g f_Matmul
  have g_Transpose := isw_g f_Transpose
  have g_Sum := isw_g f_Sum
  have g_Scale := isw_g f_Scale
  have g_Power := isw_g f_Power
  have g_Reshape := isw_g f_Reshape
  have g_Spread := isw_g f_Spread
  clear f_Param f_Input f_Const f_Matmul f_Transpose f_Sum f_Scale f_Power f_Reshape f_Spread
  have hx1 : ((nx : Int) != 2) = true := by simp; omega
  have hx2 : ((nx : Int) == 2) = false := by simp; omega
  have hke : (K.toList == []) = true := emp_yes hk
  have hne : (name.toList == []) = true := emp_yes hn0
  clear hk hn0
  have HPt : Hid (∀ v, Calls Tryz.prog 24 #[.string op] v fun e w' => e = .returned (.int .i64 (2)) ∧ Below v.heap.size v w') := fun v => by
    have := refParts_any op v
    rw [hm] at this
    exact this
  clear hm
  go_enter Tryz.func11, Tryz.ntmps11
  go_wp2_with fail
  refine (HPt.out _).mono ?_
  rintro e w1 ⟨rfl, hB1⟩
  obtain ⟨o1, -, hBx⟩ := own1 hB1
  have q0 := o1 0
  have q1 := o1 1
  have q2 := o1 2
  have q3 := o1 3
  have q4 := o1 4
  have q5 := o1 5
  have q6 := o1 6
  have q7 := o1 7
  simp at q0 q1 q2 q3 q4 q5 q6 q7
  have HB1 : Hid (Below w.heap.size w w1) := hBx
  have kC := cell_below HB1.out hC
  clear hC
  have kD := cell_below HB1.out hD
  clear hD
  obtain ⟨p, hp⟩ : ∃ p, w.heap.size = p := ⟨_, rfl⟩
  clear hB1 hBx o1 HPt
  simp only [hp] at q0 q1 q2 q3 q4 q5 q6 q7 ⊢
  have HP : Hid _ := hp
  clear hp
  go_upto_region 35 with fail
  go_quiet (fail)
  go_wp2
  go_ret2
  exact ⟨⟨_, _, _, rfl⟩, HP.out ▸ bl_n HB1.out _⟩

set_option maxHeartbeats 1000000 in
theorem refShape_Matmul_nb (op name K : ByteArray) (i j : Nat) (n : Int) (zs : List Int) (sc dl dc ll c bl ol ac bc ny : Nat) (sa da aa ba : Option Addr) (w : World) (hm : prv op = 2) (hi : i < ll) (hj : j < ll) (f_Param : isw op lParam = false) (f_Input : isw op lInput = false) (f_Const : isw op lConst = false) (f_Matmul : isw op lMatmul = true) (f_Transpose : isw op lTranspose = false) (f_Sum : isw op lSum = false) (f_Scale : isw op lScale = false) (f_Power : isw op lPower = false) (f_Reshape : isw op lReshape = false) (f_Spread : isw op lSpread = false) (hn0 : name.size = 0) (hk : K.size = 0) (hn : n = 0) (hd : dl = 0) (hx : ¬ ny = 2) (hC : w.cell? ⟨bl, ol + i * 8 + 4, none⟩ = some (.slice aa 2 ac)) (hD : w.cell? ⟨bl, ol + j * 8 + 4, none⟩ = some (.slice ba ny bc)) : Calls Tryz.prog 11 #[.slice (some ⟨bl, ol, none⟩) ll c, .agg #[.string op, .int .i64 (i : Int), .int .i64 (j : Int), .string name, .slice sa zs.length sc, .string K, .int .i64 n, .slice da dl dc]] w fun e w' => (∃ a n c, e = .returned (.tuple #[.slice a n c, .bool false])) ∧ Below w.heap.size w w' := by
  have g_Param := isw_g f_Param
  have g_Input := isw_g f_Input
  have g_Const := isw_g f_Const
  have g_Matmul := isw_g f_Matmul
  have g_Transpose := isw_g f_Transpose
  have g_Sum := isw_g f_Sum
  have g_Scale := isw_g f_Scale
  have g_Power := isw_g f_Power
  have g_Reshape := isw_g f_Reshape
  have g_Spread := isw_g f_Spread
  clear f_Param f_Input f_Const f_Matmul f_Transpose f_Sum f_Scale f_Power f_Reshape f_Spread
  have hx1 : ((ny : Int) != 2) = true := by simp; omega
  have hx2 : ((ny : Int) == 2) = false := by simp; omega
  have hke : (K.toList == []) = true := emp_yes hk
  have hne : (name.toList == []) = true := emp_yes hn0
  clear hk hn0
  have HPt : Hid (∀ v, Calls Tryz.prog 24 #[.string op] v fun e w' => e = .returned (.int .i64 (2)) ∧ Below v.heap.size v w') := fun v => by
    have := refParts_any op v
    rw [hm] at this
    exact this
  clear hm
  go_enter Tryz.func11, Tryz.ntmps11
  go_wp2_with fail
  refine (HPt.out _).mono ?_
  rintro e w1 ⟨rfl, hB1⟩
  obtain ⟨o1, -, hBx⟩ := own1 hB1
  have q0 := o1 0
  have q1 := o1 1
  have q2 := o1 2
  have q3 := o1 3
  have q4 := o1 4
  have q5 := o1 5
  have q6 := o1 6
  have q7 := o1 7
  simp at q0 q1 q2 q3 q4 q5 q6 q7
  have HB1 : Hid (Below w.heap.size w w1) := hBx
  have kC := cell_below HB1.out hC
  clear hC
  have kD := cell_below HB1.out hD
  clear hD
  obtain ⟨p, hp⟩ : ∃ p, w.heap.size = p := ⟨_, rfl⟩
  clear hB1 hBx o1 HPt
  simp only [hp] at q0 q1 q2 q3 q4 q5 q6 q7 ⊢
  have HP : Hid _ := hp
  clear hp
  go_upto_region 35 with fail
  go_quiet (fail)
  go_wp2
  go_ret2
  exact ⟨⟨_, _, _, rfl⟩, HP.out ▸ bl_n HB1.out _⟩

end Go.Proofs.YtadgnafafdfioaaGreatDoor.Gr
/-
  WHAT THE DOCUMENT's Shape GIVES, where a node has what it must: O2. Conditions: each theorem's own.
-/
namespace Go.Proofs.YtadgnafafdfioaaGreatDoor.Gr
open Go.Proofs.YtadgnafafdfioaaGreatDoor.Rd
set_option maxRecDepth 100000
open Go.RowKit
set_option linter.unusedVariables false
set_option linter.unusedSimpArgs false

set_option maxHeartbeats 1000000 in
theorem refShape_O2_yes (op name K : ByteArray) (i j : Nat) (n : Int) (zs xs ys : List Int) (sc dl dc ll c bl ol ac bc : Nat) (sa da aa ba : Option Addr) (w : World) (hm : prv op = 2) (hi : i < ll) (hj : j < ll) (f_Param : isw op lParam = false) (f_Input : isw op lInput = false) (f_Const : isw op lConst = false) (f_Matmul : isw op lMatmul = false) (f_Transpose : isw op lTranspose = false) (f_Sum : isw op lSum = false) (f_Scale : isw op lScale = false) (f_Power : isw op lPower = false) (f_Reshape : isw op lReshape = false) (f_Spread : isw op lSpread = false) (hn0 : name.size = 0) (hk : K.size = 0) (hn : n = 0) (hd : dl = 0) (hl : xs.length ≤ 1000) (hl2 : ys.length ≤ 1000) (hS : Sp.Sl w aa xs) (hT : Sp.Sl w ba ys) (hC : w.cell? ⟨bl, ol + i * 8 + 4, none⟩ = some (.slice aa xs.length ac)) (hD : w.cell? ⟨bl, ol + j * 8 + 4, none⟩ = some (.slice ba ys.length bc)) (hxy : xs = ys) : Calls Tryz.prog 11 #[.slice (some ⟨bl, ol, none⟩) ll c, .agg #[.string op, .int .i64 (i : Int), .int .i64 (j : Int), .string name, .slice sa zs.length sc, .string K, .int .i64 n, .slice da dl dc]] w fun e w' => e = .returned (.tuple #[.slice aa xs.length ac, .bool (decide (Sp.Rgt xs))]) ∧ Below w.heap.size w w' := by
  have g_Param := isw_g f_Param
  have g_Input := isw_g f_Input
  have g_Const := isw_g f_Const
  have g_Matmul := isw_g f_Matmul
  have g_Transpose := isw_g f_Transpose
  have g_Sum := isw_g f_Sum
  have g_Scale := isw_g f_Scale
  have g_Power := isw_g f_Power
  have g_Reshape := isw_g f_Reshape
  have g_Spread := isw_g f_Spread
  clear f_Param f_Input f_Const f_Matmul f_Transpose f_Sum f_Scale f_Power f_Reshape f_Spread
  have HSm : Hid (∀ v, Below w.heap.size w v → Calls Tryz.prog 12 #[.slice aa xs.length ac, .slice ba ys.length bc] v fun e w' => e = .returned (.bool (decide (xs = ys))) ∧ Sp.Sm v w') := fun v hv => Sp.refSame_any aa ba xs ys ac bc v hl hl2 (sl_below hS hv) (sl_below hT hv)
  obtain ⟨N, hN⟩ : ∃ N, decide (xs = ys) = N := ⟨_, rfl⟩
  rw [hN] at HSm
  obtain rfl : N = true := by rw [← hN]; simp [hxy]
  clear hN hxy hT
  obtain ⟨r, hr⟩ : ∃ r, decide (Sp.Rgt xs) = r := ⟨_, rfl⟩
  have HRt : Hid (∀ v, Below w.heap.size w v → Calls Tryz.prog 26 #[.slice aa xs.length ac] v fun e w' => e = .returned (.bool r) ∧ w' = v) := fun v hv => hr ▸ Sp.refRight_any aa xs ac v hl (sl_below hS hv)
  rw [hr]
  clear hr hS
  have hke : (K.toList == []) = true := emp_yes hk
  have hne : (name.toList == []) = true := emp_yes hn0
  clear hk hn0
  have HPt : Hid (∀ v, Calls Tryz.prog 24 #[.string op] v fun e w' => e = .returned (.int .i64 (2)) ∧ Below v.heap.size v w') := fun v => by
    have := refParts_any op v
    rw [hm] at this
    exact this
  clear hm
  go_enter Tryz.func11, Tryz.ntmps11
  go_wp2_with fail
  refine (HPt.out _).mono ?_
  rintro e w1 ⟨rfl, hB1⟩
  obtain ⟨o1, -, hBx⟩ := own1 hB1
  have q0 := o1 0
  have q1 := o1 1
  have q2 := o1 2
  have q3 := o1 3
  have q4 := o1 4
  have q5 := o1 5
  have q6 := o1 6
  have q7 := o1 7
  simp at q0 q1 q2 q3 q4 q5 q6 q7
  have HB1 : Hid (Below w.heap.size w w1) := hBx
  have kC := cell_below HB1.out hC
  clear hC
  have kD := cell_below HB1.out hD
  clear hD
  obtain ⟨p, hp⟩ : ∃ p, w.heap.size = p := ⟨_, rfl⟩
  clear hB1 hBx o1 HPt
  simp only [hp] at q0 q1 q2 q3 q4 q5 q6 q7 ⊢
  have HP : Hid _ := hp
  clear hp
  go_wp2_with fail
  refine (HSm.out _ HB1.out).mono ?_
  rintro e w2 ⟨rfl, hs2⟩
  have HB2 : Hid (Below w.heap.size w w2) := HB1.out.trans (hs2.below _)
  clear hs2
  go_wp2_with fail
  refine (HRt.out _ HB2.out).mono ?_
  rintro e w3 ⟨rfl, rfl⟩
  go_wp2
  go_ret2
  exact ⟨rfl, HP.out ▸ HB2.out⟩

set_option maxHeartbeats 1000000 in
theorem refShape_O2_no (op name K : ByteArray) (i j : Nat) (n : Int) (zs xs ys : List Int) (sc dl dc ll c bl ol ac bc : Nat) (sa da aa ba : Option Addr) (w : World) (hm : prv op = 2) (hi : i < ll) (hj : j < ll) (f_Param : isw op lParam = false) (f_Input : isw op lInput = false) (f_Const : isw op lConst = false) (f_Matmul : isw op lMatmul = false) (f_Transpose : isw op lTranspose = false) (f_Sum : isw op lSum = false) (f_Scale : isw op lScale = false) (f_Power : isw op lPower = false) (f_Reshape : isw op lReshape = false) (f_Spread : isw op lSpread = false) (hn0 : name.size = 0) (hk : K.size = 0) (hn : n = 0) (hd : dl = 0) (hl : xs.length ≤ 1000) (hl2 : ys.length ≤ 1000) (hS : Sp.Sl w aa xs) (hT : Sp.Sl w ba ys) (hC : w.cell? ⟨bl, ol + i * 8 + 4, none⟩ = some (.slice aa xs.length ac)) (hD : w.cell? ⟨bl, ol + j * 8 + 4, none⟩ = some (.slice ba ys.length bc)) (hxy : ¬ xs = ys) : Calls Tryz.prog 11 #[.slice (some ⟨bl, ol, none⟩) ll c, .agg #[.string op, .int .i64 (i : Int), .int .i64 (j : Int), .string name, .slice sa zs.length sc, .string K, .int .i64 n, .slice da dl dc]] w fun e w' => (∃ a n c, e = .returned (.tuple #[.slice a n c, .bool false])) ∧ Below w.heap.size w w' := by
  have g_Param := isw_g f_Param
  have g_Input := isw_g f_Input
  have g_Const := isw_g f_Const
  have g_Matmul := isw_g f_Matmul
  have g_Transpose := isw_g f_Transpose
  have g_Sum := isw_g f_Sum
  have g_Scale := isw_g f_Scale
  have g_Power := isw_g f_Power
  have g_Reshape := isw_g f_Reshape
  have g_Spread := isw_g f_Spread
  clear f_Param f_Input f_Const f_Matmul f_Transpose f_Sum f_Scale f_Power f_Reshape f_Spread
  have HSm : Hid (∀ v, Below w.heap.size w v → Calls Tryz.prog 12 #[.slice aa xs.length ac, .slice ba ys.length bc] v fun e w' => e = .returned (.bool (decide (xs = ys))) ∧ Sp.Sm v w') := fun v hv => Sp.refSame_any aa ba xs ys ac bc v hl hl2 (sl_below hS hv) (sl_below hT hv)
  obtain ⟨N, hN⟩ : ∃ N, decide (xs = ys) = N := ⟨_, rfl⟩
  rw [hN] at HSm
  obtain rfl : N = false := by rw [← hN]; simp [hxy]
  clear hN hxy hT hS
  have hke : (K.toList == []) = true := emp_yes hk
  have hne : (name.toList == []) = true := emp_yes hn0
  clear hk hn0
  have HPt : Hid (∀ v, Calls Tryz.prog 24 #[.string op] v fun e w' => e = .returned (.int .i64 (2)) ∧ Below v.heap.size v w') := fun v => by
    have := refParts_any op v
    rw [hm] at this
    exact this
  clear hm
  go_enter Tryz.func11, Tryz.ntmps11
  go_wp2_with fail
  refine (HPt.out _).mono ?_
  rintro e w1 ⟨rfl, hB1⟩
  obtain ⟨o1, -, hBx⟩ := own1 hB1
  have q0 := o1 0
  have q1 := o1 1
  have q2 := o1 2
  have q3 := o1 3
  have q4 := o1 4
  have q5 := o1 5
  have q6 := o1 6
  have q7 := o1 7
  simp at q0 q1 q2 q3 q4 q5 q6 q7
  have HB1 : Hid (Below w.heap.size w w1) := hBx
  have kC := cell_below HB1.out hC
  clear hC
  have kD := cell_below HB1.out hD
  clear hD
  obtain ⟨p, hp⟩ : ∃ p, w.heap.size = p := ⟨_, rfl⟩
  clear hB1 hBx o1 HPt
  simp only [hp] at q0 q1 q2 q3 q4 q5 q6 q7 ⊢
  have HP : Hid _ := hp
  clear hp
  go_wp2_with fail
  refine (HSm.out _ HB1.out).mono ?_
  rintro e w2 ⟨rfl, hs2⟩
  have HB2 : Hid (Below w.heap.size w w2) := HB1.out.trans (hs2.below _)
  clear hs2
  go_wp2
  go_ret2
  exact ⟨⟨_, _, _, rfl⟩, HP.out ▸ HB2.out⟩

end Go.Proofs.YtadgnafafdfioaaGreatDoor.Gr
