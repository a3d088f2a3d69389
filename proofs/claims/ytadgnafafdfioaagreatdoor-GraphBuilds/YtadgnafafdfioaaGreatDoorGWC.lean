/-
  WHAT THE DOCUMENT's Shape GIVES, where a node has what it must: Power. Conditions: each theorem's own.
-/
import Derived.Test.YtadgnafafdfioaaGreatDoorGS
import Derived.Test.YtadgnafafdfioaaGreatDoorGX
import Derived.Deep.Cut
namespace Go.Proofs.YtadgnafafdfioaaGreatDoor.Gr
open Go.Proofs.YtadgnafafdfioaaGreatDoor.Rd
set_option maxRecDepth 100000
open Go.RowKit
set_option linter.unusedVariables false
set_option linter.unusedSimpArgs false

set_option maxHeartbeats 1000000 in
theorem refShape_Power_yes (op name K : ByteArray) (i : Nat) (B n : Int) (zs xs : List Int) (sc dl dc ll c bl ol ac : Nat) (sa da aa : Option Addr) (w : World) (hm : prv op = 1) (hi : i < ll) (hB : B = 0) (f_Param : isw op lParam = false) (f_Input : isw op lInput = false) (f_Const : isw op lConst = false) (f_Matmul : isw op lMatmul = false) (f_Transpose : isw op lTranspose = false) (f_Sum : isw op lSum = false) (f_Scale : isw op lScale = false) (f_Power : isw op lPower = true) (f_Reshape : isw op lReshape = false) (f_Spread : isw op lSpread = false) (hn0 : name.size = 0) (hk : K.size = 0) (hd : dl = 0) (h0 : ¬ n < 0) (h6 : ¬ 6 < n) (hl : xs.length ≤ 1000) (hS : Sp.Sl w aa xs) (hC : w.cell? ⟨bl, ol + i * 8 + 4, none⟩ = some (.slice aa xs.length ac)) : Calls Tryz.prog 11 #[.slice (some ⟨bl, ol, none⟩) ll c, .agg #[.string op, .int .i64 (i : Int), .int .i64 B, .string name, .slice sa zs.length sc, .string K, .int .i64 n, .slice da dl dc]] w fun e w' => e = .returned (.tuple #[.slice aa xs.length ac, .bool (decide (Sp.Rgt xs))]) ∧ Below w.heap.size w w' := by
  have g_Param := isw_g f_Param
  have g_Input := isw_g f_Input
  have g_Const := isw_g f_Const
  have g_Matmul := isw_g f_Matmul
  have g_Transpose := isw_g f_Transpose
  have g_Sum := isw_g f_Sum
  have g_Scale := isw_g f_Scale
  have g_Power := isw_g f_Power
  have g_Reshape := isw_g f_Reshape
  have g_Spread := isw_g f_Spread
  clear f_Param f_Input f_Const f_Matmul f_Transpose f_Sum f_Scale f_Power f_Reshape f_Spread
  obtain ⟨r, hr⟩ : ∃ r, decide (Sp.Rgt xs) = r := ⟨_, rfl⟩
  have HRt : Hid (∀ v, Below w.heap.size w v → Calls Tryz.prog 26 #[.slice aa xs.length ac] v fun e w' => e = .returned (.bool r) ∧ w' = v) := fun v hv => hr ▸ Sp.refRight_any aa xs ac v hl (sl_below hS hv)
  rw [hr]
  clear hr hS
  have hke : (K.toList == []) = true := emp_yes hk
  have hne : (name.toList == []) = true := emp_yes hn0
  clear hk hn0
  have HPt : Hid (∀ v, Calls Tryz.prog 24 #[.string op] v fun e w' => e = .returned (.int .i64 (1)) ∧ Below v.heap.size v w') := fun v => by
    have := refParts_any op v
    rw [hm] at this
    exact this
  clear hm
  go_enter Tryz.func11, Tryz.ntmps11
  go_wp2_with fail
  refine (HPt.out _).mono ?_
  rintro e w1 ⟨rfl, hB1⟩
  obtain ⟨o1, -, hBx⟩ := own1 hB1
  have q0 := o1 0
  have q1 := o1 1
  have q2 := o1 2
  have q3 := o1 3
  have q4 := o1 4
  have q5 := o1 5
  have q6 := o1 6
  have q7 := o1 7
  simp at q0 q1 q2 q3 q4 q5 q6 q7
  have HB1 : Hid (Below w.heap.size w w1) := hBx
  have kC := cell_below HB1.out hC
  clear hC
  obtain ⟨p, hp⟩ : ∃ p, w.heap.size = p := ⟨_, rfl⟩
  clear hB1 hBx o1 HPt
  simp only [hp] at q0 q1 q2 q3 q4 q5 q6 q7 ⊢
  have HP : Hid _ := hp
  clear hp
  go_wp2_with fail
  refine (HRt.out _ HB1.out).mono ?_
  rintro e w3 ⟨rfl, rfl⟩
  go_wp2
  go_ret2
  exact ⟨rfl, HP.out ▸ HB1.out⟩

set_option maxHeartbeats 1000000 in
theorem refShape_Power_na (op name K : ByteArray) (i : Nat) (B n : Int) (zs xs : List Int) (sc dl dc ll c bl ol ac : Nat) (sa da aa : Option Addr) (w : World) (hm : prv op = 1) (hi : i < ll) (hB : B = 0) (f_Param : isw op lParam = false) (f_Input : isw op lInput = false) (f_Const : isw op lConst = false) (f_Matmul : isw op lMatmul = false) (f_Transpose : isw op lTranspose = false) (f_Sum : isw op lSum = false) (f_Scale : isw op lScale = false) (f_Power : isw op lPower = true) (f_Reshape : isw op lReshape = false) (f_Spread : isw op lSpread = false) (hn0 : name.size = 0) (hk : K.size = 0) (hd : dl = 0) (h0 : n < 0) (hC : w.cell? ⟨bl, ol + i * 8 + 4, none⟩ = some (.slice aa xs.length ac)) : Calls Tryz.prog 11 #[.slice (some ⟨bl, ol, none⟩) ll c, .agg #[.string op, .int .i64 (i : Int), .int .i64 B, .string name, .slice sa zs.length sc, .string K, .int .i64 n, .slice da dl dc]] w fun e w' => (∃ a n c, e = .returned (.tuple #[.slice a n c, .bool false])) ∧ Below w.heap.size w w' := by
  have g_Param := isw_g f_Param
  have g_Input := isw_g f_Input
  have g_Const := isw_g f_Const
  have g_Matmul := isw_g f_Matmul
  have g_Transpose := isw_g f_Transpose
  have g_Sum := isw_g f_Sum
  have g_Scale := isw_g f_Scale
  have g_Power := isw_g f_Power
  have g_Reshape := isw_g f_Reshape
  have g_Spread := isw_g f_Spread
  clear f_Param f_Input f_Const f_Matmul f_Transpose f_Sum f_Scale f_Power f_Reshape f_Spread
  have hke : (K.toList == []) = true := emp_yes hk
  have hne : (name.toList == []) = true := emp_yes hn0
  clear hk hn0
  have HPt : Hid (∀ v, Calls Tryz.prog 24 #[.string op] v fun e w' => e = .returned (.int .i64 (1)) ∧ Below v.heap.size v w') := fun v => by
    have := refParts_any op v
    rw [hm] at this
    exact this
  clear hm
  go_enter Tryz.func11, Tryz.ntmps11
  go_wp2_with fail
  refine (HPt.out _).mono ?_
  rintro e w1 ⟨rfl, hB1⟩
  obtain ⟨o1, -, hBx⟩ := own1 hB1
  have q0 := o1 0
  have q1 := o1 1
  have q2 := o1 2
  have q3 := o1 3
  have q4 := o1 4
  have q5 := o1 5
  have q6 := o1 6
  have q7 := o1 7
  simp at q0 q1 q2 q3 q4 q5 q6 q7
  have HB1 : Hid (Below w.heap.size w w1) := hBx
  have kC := cell_below HB1.out hC
  clear hC
  obtain ⟨p, hp⟩ : ∃ p, w.heap.size = p := ⟨_, rfl⟩
  clear hB1 hBx o1 HPt
  simp only [hp] at q0 q1 q2 q3 q4 q5 q6 q7 ⊢
  have HP : Hid _ := hp
  clear hp
  go_wp2
  go_ret2
  exact ⟨⟨_, _, _, rfl⟩, HP.out ▸ HB1.out⟩

set_option maxHeartbeats 1000000 in
theorem refShape_Power_nb (op name K : ByteArray) (i : Nat) (B n : Int) (zs xs : List Int) (sc dl dc ll c bl ol ac : Nat) (sa da aa : Option Addr) (w : World) (hm : prv op = 1) (hi : i < ll) (hB : B = 0) (f_Param : isw op lParam = false) (f_Input : isw op lInput = false) (f_Const : isw op lConst = false) (f_Matmul : isw op lMatmul = false) (f_Transpose : isw op lTranspose = false) (f_Sum : isw op lSum = false) (f_Scale : isw op lScale = false) (f_Power : isw op lPower = true) (f_Reshape : isw op lReshape = false) (f_Spread : isw op lSpread = false) (hn0 : name.size = 0) (hk : K.size = 0) (hd : dl = 0) (h0 : ¬ n < 0) (h6 : 6 < n) (hC : w.cell? ⟨bl, ol + i * 8 + 4, none⟩ = some (.slice aa xs.length ac)) : Calls Tryz.prog 11 #[.slice (some ⟨bl, ol, none⟩) ll c, .agg #[.string op, .int .i64 (i : Int), .int .i64 B, .string name, .slice sa zs.length sc, .string K, .int .i64 n, .slice da dl dc]] w fun e w' => (∃ a n c, e = .returned (.tuple #[.slice a n c, .bool false])) ∧ Below w.heap.size w w' := by
  have g_Param := isw_g f_Param
  have g_Input := isw_g f_Input
  have g_Const := isw_g f_Const
  have g_Matmul := isw_g f_Matmul
  have g_Transpose := isw_g f_Transpose
  have g_Sum := isw_g f_Sum
  have g_Scale := isw_g f_Scale
  have g_Power := isw_g f_Power
  have g_Reshape := isw_g f_Reshape
  have g_Spread := isw_g f_Spread
  clear f_Param f_Input f_Const f_Matmul f_Transpose f_Sum f_Scale f_Power f_Reshape f_Spread
  have hke : (K.toList == []) = true := emp_yes hk
  have hne : (name.toList == []) = true := emp_yes hn0
  clear hk hn0
  have HPt : Hid (∀ v, Calls Tryz.prog 24 #[.string op] v fun e w' => e = .returned (.int .i64 (1)) ∧ Below v.heap.size v w') := fun v => by
    have := refParts_any op v
    rw [hm] at this
    exact this
  clear hm
  go_enter Tryz.func11, Tryz.ntmps11
  go_wp2_with fail
  refine (HPt.out _).mono ?_
  rintro e w1 ⟨rfl, hB1⟩
  obtain ⟨o1, -, hBx⟩ := own1 hB1
  have q0 := o1 0
  have q1 := o1 1
  have q2 := o1 2
  have q3 := o1 3
  have q4 := o1 4
  have q5 := o1 5
  have q6 := o1 6
  have q7 := o1 7
  simp at q0 q1 q2 q3 q4 q5 q6 q7
  have HB1 : Hid (Below w.heap.size w w1) := hBx
  have kC := cell_below HB1.out hC
  clear hC
  obtain ⟨p, hp⟩ : ∃ p, w.heap.size = p := ⟨_, rfl⟩
  clear hB1 hBx o1 HPt
  simp only [hp] at q0 q1 q2 q3 q4 q5 q6 q7 ⊢
  have HP : Hid _ := hp
  clear hp
  go_wp2
  go_ret2
  exact ⟨⟨_, _, _, rfl⟩, HP.out ▸ HB1.out⟩

end Go.Proofs.YtadgnafafdfioaaGreatDoor.Gr
/-
  WHAT THE DOCUMENT's Shape GIVES, where a node has what it must: Scale. Conditions: each theorem's own.
-/
namespace Go.Proofs.YtadgnafafdfioaaGreatDoor.Gr
open Go.Proofs.YtadgnafafdfioaaGreatDoor.Rd
set_option maxRecDepth 100000
open Go.RowKit
set_option linter.unusedVariables false
set_option linter.unusedSimpArgs false

set_option maxHeartbeats 1000000 in
theorem refShape_Scale_yes (op name K : ByteArray) (i : Nat) (B n : Int) (zs xs : List Int) (sc dl dc ll c bl ol ac : Nat) (sa da aa : Option Addr) (w : World) (hm : prv op = 1) (hi : i < ll) (hB : B = 0) (f_Param : isw op lParam = false) (f_Input : isw op lInput = false) (f_Const : isw op lConst = false) (f_Matmul : isw op lMatmul = false) (f_Transpose : isw op lTranspose = false) (f_Sum : isw op lSum = false) (f_Scale : isw op lScale = true) (f_Power : isw op lPower = false) (f_Reshape : isw op lReshape = false) (f_Spread : isw op lSpread = false) (hn0 : name.size = 0) (hn : n = 0) (hd : dl = 0) (hks : K.size ≤ 20000) (hra : ra K = true) (hl : xs.length ≤ 1000) (hS : Sp.Sl w aa xs) (hC : w.cell? ⟨bl, ol + i * 8 + 4, none⟩ = some (.slice aa xs.length ac)) : Calls Tryz.prog 11 #[.slice (some ⟨bl, ol, none⟩) ll c, .agg #[.string op, .int .i64 (i : Int), .int .i64 B, .string name, .slice sa zs.length sc, .string K, .int .i64 n, .slice da dl dc]] w fun e w' => e = .returned (.tuple #[.slice aa xs.length ac, .bool (decide (Sp.Rgt xs))]) ∧ Below w.heap.size w w' := by
  have g_Param := isw_g f_Param
  have g_Input := isw_g f_Input
  have g_Const := isw_g f_Const
  have g_Matmul := isw_g f_Matmul
  have g_Transpose := isw_g f_Transpose
  have g_Sum := isw_g f_Sum
  have g_Scale := isw_g f_Scale
  have g_Power := isw_g f_Power
  have g_Reshape := isw_g f_Reshape
  have g_Spread := isw_g f_Spread
  clear f_Param f_Input f_Const f_Matmul f_Transpose f_Sum f_Scale f_Power f_Reshape f_Spread
  obtain ⟨r, hr⟩ : ∃ r, decide (Sp.Rgt xs) = r := ⟨_, rfl⟩
  have HRt : Hid (∀ v, Below w.heap.size w v → Calls Tryz.prog 26 #[.slice aa xs.length ac] v fun e w' => e = .returned (.bool r) ∧ w' = v) := fun v hv => hr ▸ Sp.refRight_any aa xs ac v hl (sl_below hS hv)
  rw [hr]
  clear hr hS
  have hne : (name.toList == []) = true := emp_yes hn0
  clear hn0
  obtain ⟨X, Y, hRd⟩ := refRead_any K hks
  have HRd : Hid (∀ w : World, Calls Tryz.prog 28 #[.string K] w fun e w' => e = .returned (.tuple #[.agg #[.string X, .string Y], .bool true]) ∧ Below w.heap.size w w') := fun w => by
    have := hRd w
    rw [hra] at this
    exact this
  clear hRd hra hks
  have HPt : Hid (∀ v, Calls Tryz.prog 24 #[.string op] v fun e w' => e = .returned (.int .i64 (1)) ∧ Below v.heap.size v w') := fun v => by
    have := refParts_any op v
    rw [hm] at this
    exact this
  clear hm
  go_enter Tryz.func11, Tryz.ntmps11
  go_wp2_with fail
  refine (HPt.out _).mono ?_
  rintro e w1 ⟨rfl, hB1⟩
  obtain ⟨o1, -, hBx⟩ := own1 hB1
  have q0 := o1 0
  have q1 := o1 1
  have q2 := o1 2
  have q3 := o1 3
  have q4 := o1 4
  have q5 := o1 5
  have q6 := o1 6
  have q7 := o1 7
  simp at q0 q1 q2 q3 q4 q5 q6 q7
  have HB1 : Hid (Below w.heap.size w w1) := hBx
  have kC := cell_below HB1.out hC
  clear hC
  obtain ⟨p, hp⟩ : ∃ p, w.heap.size = p := ⟨_, rfl⟩
  clear hB1 hBx o1 HPt
  simp only [hp] at q0 q1 q2 q3 q4 q5 q6 q7 ⊢
  have HP : Hid _ := hp
  clear hp
  go_wp2_with fail
  refine (HRd.out _).mono ?_
  rintro e w2 ⟨rfl, hB2⟩
  have hBz := HB1.out.trans (hB2.mono HB1.out.size)
  have hBa : ∀ o, Below w.heap.size w (w2.alloc o) := fun o => hBz.alloc hBz.size o
  have HBa : Hid _ := hBa
  clear hBz hBa hB2
  go_wp2_with fail
  refine (HRt.out _ (HBa.out _)).mono ?_
  rintro e w3 ⟨rfl, rfl⟩
  go_wp2
  go_ret2
  exact ⟨rfl, HP.out ▸ HBa.out _⟩

set_option maxHeartbeats 1000000 in
theorem refShape_Scale_no (op name K : ByteArray) (i : Nat) (B n : Int) (zs xs : List Int) (sc dl dc ll c bl ol ac : Nat) (sa da aa : Option Addr) (w : World) (hm : prv op = 1) (hi : i < ll) (hB : B = 0) (f_Param : isw op lParam = false) (f_Input : isw op lInput = false) (f_Const : isw op lConst = false) (f_Matmul : isw op lMatmul = false) (f_Transpose : isw op lTranspose = false) (f_Sum : isw op lSum = false) (f_Scale : isw op lScale = true) (f_Power : isw op lPower = false) (f_Reshape : isw op lReshape = false) (f_Spread : isw op lSpread = false) (hn0 : name.size = 0) (hn : n = 0) (hd : dl = 0) (hks : K.size ≤ 20000) (hra : ra K = false) (hC : w.cell? ⟨bl, ol + i * 8 + 4, none⟩ = some (.slice aa xs.length ac)) : Calls Tryz.prog 11 #[.slice (some ⟨bl, ol, none⟩) ll c, .agg #[.string op, .int .i64 (i : Int), .int .i64 B, .string name, .slice sa zs.length sc, .string K, .int .i64 n, .slice da dl dc]] w fun e w' => (∃ a n c, e = .returned (.tuple #[.slice a n c, .bool false])) ∧ Below w.heap.size w w' := by
  have g_Param := isw_g f_Param
  have g_Input := isw_g f_Input
  have g_Const := isw_g f_Const
  have g_Matmul := isw_g f_Matmul
  have g_Transpose := isw_g f_Transpose
  have g_Sum := isw_g f_Sum
  have g_Scale := isw_g f_Scale
  have g_Power := isw_g f_Power
  have g_Reshape := isw_g f_Reshape
  have g_Spread := isw_g f_Spread
  clear f_Param f_Input f_Const f_Matmul f_Transpose f_Sum f_Scale f_Power f_Reshape f_Spread
  have hne : (name.toList == []) = true := emp_yes hn0
  clear hn0
  obtain ⟨X, Y, hRd⟩ := refRead_any K hks
  have HRd : Hid (∀ w : World, Calls Tryz.prog 28 #[.string K] w fun e w' => e = .returned (.tuple #[.agg #[.string X, .string Y], .bool false]) ∧ Below w.heap.size w w') := fun w => by
    have := hRd w
    rw [hra] at this
    exact this
  clear hRd hra hks
  have HPt : Hid (∀ v, Calls Tryz.prog 24 #[.string op] v fun e w' => e = .returned (.int .i64 (1)) ∧ Below v.heap.size v w') := fun v => by
    have := refParts_any op v
    rw [hm] at this
    exact this
  clear hm
  go_enter Tryz.func11, Tryz.ntmps11
  go_wp2_with fail
  refine (HPt.out _).mono ?_
  rintro e w1 ⟨rfl, hB1⟩
  obtain ⟨o1, -, hBx⟩ := own1 hB1
  have q0 := o1 0
  have q1 := o1 1
  have q2 := o1 2
  have q3 := o1 3
  have q4 := o1 4
  have q5 := o1 5
  have q6 := o1 6
  have q7 := o1 7
  simp at q0 q1 q2 q3 q4 q5 q6 q7
  have HB1 : Hid (Below w.heap.size w w1) := hBx
  have kC := cell_below HB1.out hC
  clear hC
  obtain ⟨p, hp⟩ : ∃ p, w.heap.size = p := ⟨_, rfl⟩
  clear hB1 hBx o1 HPt
  simp only [hp] at q0 q1 q2 q3 q4 q5 q6 q7 ⊢
  have HP : Hid _ := hp
  clear hp
  go_wp2_with fail
  refine (HRd.out _).mono ?_
  rintro e w2 ⟨rfl, hB2⟩
  have hBz := HB1.out.trans (hB2.mono HB1.out.size)
  have hBa : ∀ o, Below w.heap.size w (w2.alloc o) := fun o => hBz.alloc hBz.size o
  have HBa : Hid _ := hBa
  clear hBz hBa hB2
  go_wp2
  go_ret2
  exact ⟨⟨_, _, _, rfl⟩, HP.out ▸ HBa.out _⟩

end Go.Proofs.YtadgnafafdfioaaGreatDoor.Gr
/-
  WHAT THE DOCUMENT's Shape GIVES, where a node has what it must: Spread. Conditions: each theorem's own.
-/
namespace Go.Proofs.YtadgnafafdfioaaGreatDoor.Gr
open Go.Proofs.YtadgnafafdfioaaGreatDoor.Rd
set_option maxRecDepth 100000
open Go.RowKit
set_option linter.unusedVariables false
set_option linter.unusedSimpArgs false

set_option maxHeartbeats 1000000 in
theorem refShape_Spread_yes (op name K : ByteArray) (i : Nat) (B n : Int) (zs : List Int) (sc dl dc ll c bl ol ac nx : Nat) (sa da aa : Option Addr) (w : World) (hm : prv op = 1) (hi : i < ll) (hB : B = 0) (f_Param : isw op lParam = false) (f_Input : isw op lInput = false) (f_Const : isw op lConst = false) (f_Matmul : isw op lMatmul = false) (f_Transpose : isw op lTranspose = false) (f_Sum : isw op lSum = false) (f_Scale : isw op lScale = false) (f_Power : isw op lPower = false) (f_Reshape : isw op lReshape = false) (f_Spread : isw op lSpread = true) (hn0 : name.size = 0) (hk : K.size = 0) (hn : n = 0) (hd : dl = 0) (hx : nx = 0) (hl : zs.length ≤ 1000) (hS : Sp.Sl w sa zs) (hC : w.cell? ⟨bl, ol + i * 8 + 4, none⟩ = some (.slice aa nx ac)) : Calls Tryz.prog 11 #[.slice (some ⟨bl, ol, none⟩) ll c, .agg #[.string op, .int .i64 (i : Int), .int .i64 B, .string name, .slice sa zs.length sc, .string K, .int .i64 n, .slice da dl dc]] w fun e w' => e = .returned (.tuple #[.slice sa zs.length sc, .bool (decide (Sp.Rgt zs))]) ∧ Below w.heap.size w w' := by
  have g_Param := isw_g f_Param
  have g_Input := isw_g f_Input
  have g_Const := isw_g f_Const
  have g_Matmul := isw_g f_Matmul
  have g_Transpose := isw_g f_Transpose
  have g_Sum := isw_g f_Sum
  have g_Scale := isw_g f_Scale
  have g_Power := isw_g f_Power
  have g_Reshape := isw_g f_Reshape
  have g_Spread := isw_g f_Spread
  clear f_Param f_Input f_Const f_Matmul f_Transpose f_Sum f_Scale f_Power f_Reshape f_Spread
  obtain ⟨r, hr⟩ : ∃ r, decide (Sp.Rgt zs) = r := ⟨_, rfl⟩
  have HRt : Hid (∀ v, Below w.heap.size w v → Calls Tryz.prog 26 #[.slice sa zs.length sc] v fun e w' => e = .returned (.bool r) ∧ w' = v) := fun v hv => hr ▸ Sp.refRight_any sa zs sc v hl (sl_below hS hv)
  rw [hr]
  clear hr hS
  have hke : (K.toList == []) = true := emp_yes hk
  have hne : (name.toList == []) = true := emp_yes hn0
  clear hk hn0
  have HPt : Hid (∀ v, Calls Tryz.prog 24 #[.string op] v fun e w' => e = .returned (.int .i64 (1)) ∧ Below v.heap.size v w') := fun v => by
    have := refParts_any op v
    rw [hm] at this
    exact this
  clear hm
  go_enter Tryz.func11, Tryz.ntmps11
  go_wp2_with fail
  refine (HPt.out _).mono ?_
  rintro e w1 ⟨rfl, hB1⟩
  obtain ⟨o1, -, hBx⟩ := own1 hB1
  have q0 := o1 0
  have q1 := o1 1
  have q2 := o1 2
  have q3 := o1 3
  have q4 := o1 4
  have q5 := o1 5
  have q6 := o1 6
  have q7 := o1 7
  simp at q0 q1 q2 q3 q4 q5 q6 q7
  have HB1 : Hid (Below w.heap.size w w1) := hBx
  have kC := cell_below HB1.out hC
  clear hC
  obtain ⟨p, hp⟩ : ∃ p, w.heap.size = p := ⟨_, rfl⟩
  clear hB1 hBx o1 HPt
  simp only [hp] at q0 q1 q2 q3 q4 q5 q6 q7 ⊢
  have HP : Hid _ := hp
  clear hp
  go_wp2_with fail
  refine (HRt.out _ HB1.out).mono ?_
  rintro e w3 ⟨rfl, rfl⟩
  go_wp2
  go_ret2
  exact ⟨rfl, HP.out ▸ HB1.out⟩

set_option maxHeartbeats 1000000 in
theorem refShape_Spread_no (op name K : ByteArray) (i : Nat) (B n : Int) (zs : List Int) (sc dl dc ll c bl ol ac nx : Nat) (sa da aa : Option Addr) (w : World) (hm : prv op = 1) (hi : i < ll) (hB : B = 0) (f_Param : isw op lParam = false) (f_Input : isw op lInput = false) (f_Const : isw op lConst = false) (f_Matmul : isw op lMatmul = false) (f_Transpose : isw op lTranspose = false) (f_Sum : isw op lSum = false) (f_Scale : isw op lScale = false) (f_Power : isw op lPower = false) (f_Reshape : isw op lReshape = false) (f_Spread : isw op lSpread = true) (hn0 : name.size = 0) (hk : K.size = 0) (hn : n = 0) (hd : dl = 0) (hx : ¬ nx = 0) (hC : w.cell? ⟨bl, ol + i * 8 + 4, none⟩ = some (.slice aa nx ac)) : Calls Tryz.prog 11 #[.slice (some ⟨bl, ol, none⟩) ll c, .agg #[.string op, .int .i64 (i : Int), .int .i64 B, .string name, .slice sa zs.length sc, .string K, .int .i64 n, .slice da dl dc]] w fun e w' => (∃ a n c, e = .returned (.tuple #[.slice a n c, .bool false])) ∧ Below w.heap.size w w' := by
  have g_Param := isw_g f_Param
  have g_Input := isw_g f_Input
  have g_Const := isw_g f_Const
  have g_Matmul := isw_g f_Matmul
  have g_Transpose := isw_g f_Transpose
  have g_Sum := isw_g f_Sum
  have g_Scale := isw_g f_Scale
  have g_Power := isw_g f_Power
  have g_Reshape := isw_g f_Reshape
  have g_Spread := isw_g f_Spread
  clear f_Param f_Input f_Const f_Matmul f_Transpose f_Sum f_Scale f_Power f_Reshape f_Spread
  have hke : (K.toList == []) = true := emp_yes hk
  have hne : (name.toList == []) = true := emp_yes hn0
  clear hk hn0
  have HPt : Hid (∀ v, Calls Tryz.prog 24 #[.string op] v fun e w' => e = .returned (.int .i64 (1)) ∧ Below v.heap.size v w') := fun v => by
    have := refParts_any op v
    rw [hm] at this
    exact this
  clear hm
  go_enter Tryz.func11, Tryz.ntmps11
  go_wp2_with fail
  refine (HPt.out _).mono ?_
  rintro e w1 ⟨rfl, hB1⟩
  obtain ⟨o1, -, hBx⟩ := own1 hB1
  have q0 := o1 0
  have q1 := o1 1
  have q2 := o1 2
  have q3 := o1 3
  have q4 := o1 4
  have q5 := o1 5
  have q6 := o1 6
  have q7 := o1 7
  simp at q0 q1 q2 q3 q4 q5 q6 q7
  have HB1 : Hid (Below w.heap.size w w1) := hBx
  have kC := cell_below HB1.out hC
  clear hC
  obtain ⟨p, hp⟩ : ∃ p, w.heap.size = p := ⟨_, rfl⟩
  clear hB1 hBx o1 HPt
  simp only [hp] at q0 q1 q2 q3 q4 q5 q6 q7 ⊢
  have HP : Hid _ := hp
  clear hp
  go_wp2
  go_ret2
  exact ⟨⟨_, _, _, rfl⟩, HP.out ▸ HB1.out⟩

end Go.Proofs.YtadgnafafdfioaaGreatDoor.Gr
/-
  WHAT THE DOCUMENT's Shape GIVES, where a node has what it must: Reshape. Conditions: each theorem's own.
-/
namespace Go.Proofs.YtadgnafafdfioaaGreatDoor.Gr
open Go.Proofs.YtadgnafafdfioaaGreatDoor.Rd
set_option maxRecDepth 100000
open Go.RowKit
set_option linter.unusedVariables false
set_option linter.unusedSimpArgs false

set_option maxHeartbeats 1000000 in
theorem refShape_Reshape_yes (op name K : ByteArray) (i : Nat) (B n : Int) (zs xs : List Int) (sc dl dc ll c bl ol ac : Nat) (sa da aa : Option Addr) (w : World) (hm : prv op = 1) (hi : i < ll) (hB : B = 0) (f_Param : isw op lParam = false) (f_Input : isw op lInput = false) (f_Const : isw op lConst = false) (f_Matmul : isw op lMatmul = false) (f_Transpose : isw op lTranspose = false) (f_Sum : isw op lSum = false) (f_Scale : isw op lScale = false) (f_Power : isw op lPower = false) (f_Reshape : isw op lReshape = true) (f_Spread : isw op lSpread = false) (hn0 : name.size = 0) (hk : K.size = 0) (hn : n = 0) (hd : dl = 0) (hl : zs.length ≤ 1000) (hl2 : xs.length ≤ 1000) (hS : Sp.Sl w sa zs) (hT : Sp.Sl w aa xs) (hC : w.cell? ⟨bl, ol + i * 8 + 4, none⟩ = some (.slice aa xs.length ac)) (hr : Sp.Rgt zs) (hq : Sp.Rgt xs) (he : Sp.szI zs = Sp.szI xs) : Calls Tryz.prog 11 #[.slice (some ⟨bl, ol, none⟩) ll c, .agg #[.string op, .int .i64 (i : Int), .int .i64 B, .string name, .slice sa zs.length sc, .string K, .int .i64 n, .slice da dl dc]] w fun e w' => e = .returned (.tuple #[.slice sa zs.length sc, .bool (decide (Sp.Rgt zs))]) ∧ Below w.heap.size w w' := by
  have g_Param := isw_g f_Param
  have g_Input := isw_g f_Input
  have g_Const := isw_g f_Const
  have g_Matmul := isw_g f_Matmul
  have g_Transpose := isw_g f_Transpose
  have g_Sum := isw_g f_Sum
  have g_Scale := isw_g f_Scale
  have g_Power := isw_g f_Power
  have g_Reshape := isw_g f_Reshape
  have g_Spread := isw_g f_Spread
  clear f_Param f_Input f_Const f_Matmul f_Transpose f_Sum f_Scale f_Power f_Reshape f_Spread
  have HR1 : Hid (∀ v, Below w.heap.size w v → Calls Tryz.prog 26 #[.slice sa zs.length sc] v fun e w' => e = .returned (.bool true) ∧ w' = v) := fun v hv => by
    have := Sp.refRight_any sa zs sc v hl (sl_below hS hv)
    rw [show decide (Sp.Rgt zs) = true from by simp only [decide_eq_true_eq, decide_eq_false_iff_not]; assumption] at this
    exact this
  have HR2 : Hid (∀ v, Below w.heap.size w v → Calls Tryz.prog 26 #[.slice aa xs.length ac] v fun e w' => e = .returned (.bool true) ∧ w' = v) := fun v hv => by
    have := Sp.refRight_any aa xs ac v hl2 (sl_below hT hv)
    rw [show decide (Sp.Rgt xs) = true from by simp only [decide_eq_true_eq, decide_eq_false_iff_not]; assumption] at this
    exact this
  obtain ⟨m1, hm1⟩ : ∃ k : Nat, Sp.szI zs = k := ⟨_, rfl⟩
  have HZ1 : Hid (∀ v, Below w.heap.size w v → Calls Tryz.prog 27 #[.slice sa zs.length sc] v fun e w' => e = .returned (.int .i64 (m1 : Nat)) ∧ w' = v) := fun v hv => hm1 ▸ Sp.refSize_any sa zs sc v hr (sl_below hS hv)
  obtain ⟨m2, hm2⟩ : ∃ k : Nat, Sp.szI xs = k := ⟨_, rfl⟩
  have HZ2 : Hid (∀ v, Below w.heap.size w v → Calls Tryz.prog 27 #[.slice aa xs.length ac] v fun e w' => e = .returned (.int .i64 (m2 : Nat)) ∧ w' = v) := fun v hv => hm2 ▸ Sp.refSize_any aa xs ac v hq (sl_below hT hv)
  obtain rfl : m1 = m2 := by omega
  rw [show decide (Sp.Rgt zs) = true from by simp only [decide_eq_true_eq]; assumption]
  clear hm1 hm2 he hr hq hS hT
  have hke : (K.toList == []) = true := emp_yes hk
  have hne : (name.toList == []) = true := emp_yes hn0
  clear hk hn0
  have HPt : Hid (∀ v, Calls Tryz.prog 24 #[.string op] v fun e w' => e = .returned (.int .i64 (1)) ∧ Below v.heap.size v w') := fun v => by
    have := refParts_any op v
    rw [hm] at this
    exact this
  clear hm
  go_enter Tryz.func11, Tryz.ntmps11
  go_wp2_with fail
  refine (HPt.out _).mono ?_
  rintro e w1 ⟨rfl, hB1⟩
  obtain ⟨o1, -, hBx⟩ := own1 hB1
  have q0 := o1 0
  have q1 := o1 1
  have q2 := o1 2
  have q3 := o1 3
  have q4 := o1 4
  have q5 := o1 5
  have q6 := o1 6
  have q7 := o1 7
  simp at q0 q1 q2 q3 q4 q5 q6 q7
  have HB1 : Hid (Below w.heap.size w w1) := hBx
  have kC := cell_below HB1.out hC
  clear hC
  obtain ⟨p, hp⟩ : ∃ p, w.heap.size = p := ⟨_, rfl⟩
  clear hB1 hBx o1 HPt
  simp only [hp] at q0 q1 q2 q3 q4 q5 q6 q7 ⊢
  have HP : Hid _ := hp
  clear hp
  go_wp2_with fail
  refine (HR1.out _ HB1.out).mono ?_
  rintro e w3 ⟨rfl, rfl⟩
  go_wp2_with fail
  refine (HR2.out _ HB1.out).mono ?_
  rintro e w3 ⟨rfl, rfl⟩
  go_wp2_with fail
  refine (HZ1.out _ HB1.out).mono ?_
  rintro e w3 ⟨rfl, rfl⟩
  go_wp2_with fail
  refine (HZ2.out _ HB1.out).mono ?_
  rintro e w3 ⟨rfl, rfl⟩
  go_wp2_with fail
  refine (HR1.out _ HB1.out).mono ?_
  rintro e w3 ⟨rfl, rfl⟩
  go_wp2
  go_ret2
  exact ⟨rfl, HP.out ▸ HB1.out⟩

set_option maxHeartbeats 1000000 in
theorem refShape_Reshape_na (op name K : ByteArray) (i : Nat) (B n : Int) (zs xs : List Int) (sc dl dc ll c bl ol ac : Nat) (sa da aa : Option Addr) (w : World) (hm : prv op = 1) (hi : i < ll) (hB : B = 0) (f_Param : isw op lParam = false) (f_Input : isw op lInput = false) (f_Const : isw op lConst = false) (f_Matmul : isw op lMatmul = false) (f_Transpose : isw op lTranspose = false) (f_Sum : isw op lSum = false) (f_Scale : isw op lScale = false) (f_Power : isw op lPower = false) (f_Reshape : isw op lReshape = true) (f_Spread : isw op lSpread = false) (hn0 : name.size = 0) (hk : K.size = 0) (hn : n = 0) (hd : dl = 0) (hl : zs.length ≤ 1000) (hl2 : xs.length ≤ 1000) (hS : Sp.Sl w sa zs) (hT : Sp.Sl w aa xs) (hC : w.cell? ⟨bl, ol + i * 8 + 4, none⟩ = some (.slice aa xs.length ac)) (hr : ¬ Sp.Rgt zs) : Calls Tryz.prog 11 #[.slice (some ⟨bl, ol, none⟩) ll c, .agg #[.string op, .int .i64 (i : Int), .int .i64 B, .string name, .slice sa zs.length sc, .string K, .int .i64 n, .slice da dl dc]] w fun e w' => (∃ a n c, e = .returned (.tuple #[.slice a n c, .bool false])) ∧ Below w.heap.size w w' := by
  have g_Param := isw_g f_Param
  have g_Input := isw_g f_Input
  have g_Const := isw_g f_Const
  have g_Matmul := isw_g f_Matmul
  have g_Transpose := isw_g f_Transpose
  have g_Sum := isw_g f_Sum
  have g_Scale := isw_g f_Scale
  have g_Power := isw_g f_Power
  have g_Reshape := isw_g f_Reshape
  have g_Spread := isw_g f_Spread
  clear f_Param f_Input f_Const f_Matmul f_Transpose f_Sum f_Scale f_Power f_Reshape f_Spread
  have HR1 : Hid (∀ v, Below w.heap.size w v → Calls Tryz.prog 26 #[.slice sa zs.length sc] v fun e w' => e = .returned (.bool false) ∧ w' = v) := fun v hv => by
    have := Sp.refRight_any sa zs sc v hl (sl_below hS hv)
    rw [show decide (Sp.Rgt zs) = false from by simp only [decide_eq_true_eq, decide_eq_false_iff_not]; assumption] at this
    exact this
  clear hr hS hT
  have hke : (K.toList == []) = true := emp_yes hk
  have hne : (name.toList == []) = true := emp_yes hn0
  clear hk hn0
  have HPt : Hid (∀ v, Calls Tryz.prog 24 #[.string op] v fun e w' => e = .returned (.int .i64 (1)) ∧ Below v.heap.size v w') := fun v => by
    have := refParts_any op v
    rw [hm] at this
    exact this
  clear hm
  go_enter Tryz.func11, Tryz.ntmps11
  go_wp2_with fail
  refine (HPt.out _).mono ?_
  rintro e w1 ⟨rfl, hB1⟩
  obtain ⟨o1, -, hBx⟩ := own1 hB1
  have q0 := o1 0
  have q1 := o1 1
  have q2 := o1 2
  have q3 := o1 3
  have q4 := o1 4
  have q5 := o1 5
  have q6 := o1 6
  have q7 := o1 7
  simp at q0 q1 q2 q3 q4 q5 q6 q7
  have HB1 : Hid (Below w.heap.size w w1) := hBx
  have kC := cell_below HB1.out hC
  clear hC
  obtain ⟨p, hp⟩ : ∃ p, w.heap.size = p := ⟨_, rfl⟩
  clear hB1 hBx o1 HPt
  simp only [hp] at q0 q1 q2 q3 q4 q5 q6 q7 ⊢
  have HP : Hid _ := hp
  clear hp
  go_wp2_with fail
  refine (HR1.out _ HB1.out).mono ?_
  rintro e w3 ⟨rfl, rfl⟩
  go_wp2
  go_ret2
  exact ⟨⟨_, _, _, rfl⟩, HP.out ▸ HB1.out⟩

set_option maxHeartbeats 1000000 in
theorem refShape_Reshape_nb (op name K : ByteArray) (i : Nat) (B n : Int) (zs xs : List Int) (sc dl dc ll c bl ol ac : Nat) (sa da aa : Option Addr) (w : World) (hm : prv op = 1) (hi : i < ll) (hB : B = 0) (f_Param : isw op lParam = false) (f_Input : isw op lInput = false) (f_Const : isw op lConst = false) (f_Matmul : isw op lMatmul = false) (f_Transpose : isw op lTranspose = false) (f_Sum : isw op lSum = false) (f_Scale : isw op lScale = false) (f_Power : isw op lPower = false) (f_Reshape : isw op lReshape = true) (f_Spread : isw op lSpread = false) (hn0 : name.size = 0) (hk : K.size = 0) (hn : n = 0) (hd : dl = 0) (hl : zs.length ≤ 1000) (hl2 : xs.length ≤ 1000) (hS : Sp.Sl w sa zs) (hT : Sp.Sl w aa xs) (hC : w.cell? ⟨bl, ol + i * 8 + 4, none⟩ = some (.slice aa xs.length ac)) (hr : Sp.Rgt zs) (hq : ¬ Sp.Rgt xs) : Calls Tryz.prog 11 #[.slice (some ⟨bl, ol, none⟩) ll c, .agg #[.string op, .int .i64 (i : Int), .int .i64 B, .string name, .slice sa zs.length sc, .string K, .int .i64 n, .slice da dl dc]] w fun e w' => (∃ a n c, e = .returned (.tuple #[.slice a n c, .bool false])) ∧ Below w.heap.size w w' := by
  have g_Param := isw_g f_Param
  have g_Input := isw_g f_Input
  have g_Const := isw_g f_Const
  have g_Matmul := isw_g f_Matmul
  have g_Transpose := isw_g f_Transpose
  have g_Sum := isw_g f_Sum
  have g_Scale := isw_g f_Scale
  have g_Power := isw_g f_Power
  have g_Reshape := isw_g f_Reshape
  have g_Spread := isw_g f_Spread
  clear f_Param f_Input f_Const f_Matmul f_Transpose f_Sum f_Scale f_Power f_Reshape f_Spread
  have HR1 : Hid (∀ v, Below w.heap.size w v → Calls Tryz.prog 26 #[.slice sa zs.length sc] v fun e w' => e = .returned (.bool true) ∧ w' = v) := fun v hv => by
    have := Sp.refRight_any sa zs sc v hl (sl_below hS hv)
    rw [show decide (Sp.Rgt zs) = true from by simp only [decide_eq_true_eq, decide_eq_false_iff_not]; assumption] at this
    exact this
  have HR2 : Hid (∀ v, Below w.heap.size w v → Calls Tryz.prog 26 #[.slice aa xs.length ac] v fun e w' => e = .returned (.bool false) ∧ w' = v) := fun v hv => by
    have := Sp.refRight_any aa xs ac v hl2 (sl_below hT hv)
    rw [show decide (Sp.Rgt xs) = false from by simp only [decide_eq_true_eq, decide_eq_false_iff_not]; assumption] at this
    exact this
  clear hr hq hS hT
  have hke : (K.toList == []) = true := emp_yes hk
  have hne : (name.toList == []) = true := emp_yes hn0
  clear hk hn0
  have HPt : Hid (∀ v, Calls Tryz.prog 24 #[.string op] v fun e w' => e = .returned (.int .i64 (1)) ∧ Below v.heap.size v w') := fun v => by
    have := refParts_any op v
    rw [hm] at this
    exact this
  clear hm
  go_enter Tryz.func11, Tryz.ntmps11
  go_wp2_with fail
  refine (HPt.out _).mono ?_
  rintro e w1 ⟨rfl, hB1⟩
  obtain ⟨o1, -, hBx⟩ := own1 hB1
  have q0 := o1 0
  have q1 := o1 1
  have q2 := o1 2
  have q3 := o1 3
  have q4 := o1 4
  have q5 := o1 5
  have q6 := o1 6
  have q7 := o1 7
  simp at q0 q1 q2 q3 q4 q5 q6 q7
  have HB1 : Hid (Below w.heap.size w w1) := hBx
  have kC := cell_below HB1.out hC
  clear hC
  obtain ⟨p, hp⟩ : ∃ p, w.heap.size = p := ⟨_, rfl⟩
  clear hB1 hBx o1 HPt
  simp only [hp] at q0 q1 q2 q3 q4 q5 q6 q7 ⊢
  have HP : Hid _ := hp
  clear hp
  go_wp2_with fail
  refine (HR1.out _ HB1.out).mono ?_
  rintro e w3 ⟨rfl, rfl⟩
  go_wp2_with fail
  refine (HR2.out _ HB1.out).mono ?_
  rintro e w3 ⟨rfl, rfl⟩
  go_wp2
  go_ret2
  exact ⟨⟨_, _, _, rfl⟩, HP.out ▸ HB1.out⟩

set_option maxHeartbeats 1000000 in
theorem refShape_Reshape_nc (op name K : ByteArray) (i : Nat) (B n : Int) (zs xs : List Int) (sc dl dc ll c bl ol ac : Nat) (sa da aa : Option Addr) (w : World) (hm : prv op = 1) (hi : i < ll) (hB : B = 0) (f_Param : isw op lParam = false) (f_Input : isw op lInput = false) (f_Const : isw op lConst = false) (f_Matmul : isw op lMatmul = false) (f_Transpose : isw op lTranspose = false) (f_Sum : isw op lSum = false) (f_Scale : isw op lScale = false) (f_Power : isw op lPower = false) (f_Reshape : isw op lReshape = true) (f_Spread : isw op lSpread = false) (hn0 : name.size = 0) (hk : K.size = 0) (hn : n = 0) (hd : dl = 0) (hl : zs.length ≤ 1000) (hl2 : xs.length ≤ 1000) (hS : Sp.Sl w sa zs) (hT : Sp.Sl w aa xs) (hC : w.cell? ⟨bl, ol + i * 8 + 4, none⟩ = some (.slice aa xs.length ac)) (hr : Sp.Rgt zs) (hq : Sp.Rgt xs) (he : ¬ Sp.szI zs = Sp.szI xs) : Calls Tryz.prog 11 #[.slice (some ⟨bl, ol, none⟩) ll c, .agg #[.string op, .int .i64 (i : Int), .int .i64 B, .string name, .slice sa zs.length sc, .string K, .int .i64 n, .slice da dl dc]] w fun e w' => (∃ a n c, e = .returned (.tuple #[.slice a n c, .bool false])) ∧ Below w.heap.size w w' := by
  have g_Param := isw_g f_Param
  have g_Input := isw_g f_Input
  have g_Const := isw_g f_Const
  have g_Matmul := isw_g f_Matmul
  have g_Transpose := isw_g f_Transpose
  have g_Sum := isw_g f_Sum
  have g_Scale := isw_g f_Scale
  have g_Power := isw_g f_Power
  have g_Reshape := isw_g f_Reshape
  have g_Spread := isw_g f_Spread
  clear f_Param f_Input f_Const f_Matmul f_Transpose f_Sum f_Scale f_Power f_Reshape f_Spread
  have HR1 : Hid (∀ v, Below w.heap.size w v → Calls Tryz.prog 26 #[.slice sa zs.length sc] v fun e w' => e = .returned (.bool true) ∧ w' = v) := fun v hv => by
    have := Sp.refRight_any sa zs sc v hl (sl_below hS hv)
    rw [show decide (Sp.Rgt zs) = true from by simp only [decide_eq_true_eq, decide_eq_false_iff_not]; assumption] at this
    exact this
  have HR2 : Hid (∀ v, Below w.heap.size w v → Calls Tryz.prog 26 #[.slice aa xs.length ac] v fun e w' => e = .returned (.bool true) ∧ w' = v) := fun v hv => by
    have := Sp.refRight_any aa xs ac v hl2 (sl_below hT hv)
    rw [show decide (Sp.Rgt xs) = true from by simp only [decide_eq_true_eq, decide_eq_false_iff_not]; assumption] at this
    exact this
  obtain ⟨m1, hm1⟩ : ∃ k : Nat, Sp.szI zs = k := ⟨_, rfl⟩
  have HZ1 : Hid (∀ v, Below w.heap.size w v → Calls Tryz.prog 27 #[.slice sa zs.length sc] v fun e w' => e = .returned (.int .i64 (m1 : Nat)) ∧ w' = v) := fun v hv => hm1 ▸ Sp.refSize_any sa zs sc v hr (sl_below hS hv)
  obtain ⟨m2, hm2⟩ : ∃ k : Nat, Sp.szI xs = k := ⟨_, rfl⟩
  have HZ2 : Hid (∀ v, Below w.heap.size w v → Calls Tryz.prog 27 #[.slice aa xs.length ac] v fun e w' => e = .returned (.int .i64 (m2 : Nat)) ∧ w' = v) := fun v hv => hm2 ▸ Sp.refSize_any aa xs ac v hq (sl_below hT hv)
  have hmm : ¬ m1 = m2 := by omega
  clear hm1 hm2 he hr hq hS hT
  have hke : (K.toList == []) = true := emp_yes hk
  have hne : (name.toList == []) = true := emp_yes hn0
  clear hk hn0
  have HPt : Hid (∀ v, Calls Tryz.prog 24 #[.string op] v fun e w' => e = .returned (.int .i64 (1)) ∧ Below v.heap.size v w') := fun v => by
    have := refParts_any op v
    rw [hm] at this
    exact this
  clear hm
  go_enter Tryz.func11, Tryz.ntmps11
  go_wp2_with fail
  refine (HPt.out _).mono ?_
  rintro e w1 ⟨rfl, hB1⟩
  obtain ⟨o1, -, hBx⟩ := own1 hB1
  have q0 := o1 0
  have q1 := o1 1
  have q2 := o1 2
  have q3 := o1 3
  have q4 := o1 4
  have q5 := o1 5
  have q6 := o1 6
  have q7 := o1 7
  simp at q0 q1 q2 q3 q4 q5 q6 q7
  have HB1 : Hid (Below w.heap.size w w1) := hBx
  have kC := cell_below HB1.out hC
  clear hC
  obtain ⟨p, hp⟩ : ∃ p, w.heap.size = p := ⟨_, rfl⟩
  clear hB1 hBx o1 HPt
  simp only [hp] at q0 q1 q2 q3 q4 q5 q6 q7 ⊢
  have HP : Hid _ := hp
  clear hp
  go_wp2_with fail
  refine (HR1.out _ HB1.out).mono ?_
  rintro e w3 ⟨rfl, rfl⟩
  go_wp2_with fail
  refine (HR2.out _ HB1.out).mono ?_
  rintro e w3 ⟨rfl, rfl⟩
  go_wp2_with fail
  refine (HZ1.out _ HB1.out).mono ?_
  rintro e w3 ⟨rfl, rfl⟩
  go_wp2_with fail
  refine (HZ2.out _ HB1.out).mono ?_
  rintro e w3 ⟨rfl, rfl⟩
  go_wp2
  go_ret2
  exact ⟨⟨_, _, _, rfl⟩, HP.out ▸ HB1.out⟩

end Go.Proofs.YtadgnafafdfioaaGreatDoor.Gr
