/-
  WHAT THE DOCUMENT's Shape GIVES, where a node has what it must: Const. Conditions: each theorem's own.
-/
import Derived.Test.YtadgnafafdfioaaGreatDoorGS
import Derived.Test.YtadgnafafdfioaaGreatDoorGX
import Derived.Deep.Cut
namespace Go.Proofs.YtadgnafafdfioaaGreatDoor.Gr
open Go.Proofs.YtadgnafafdfioaaGreatDoor.Rd
set_option maxRecDepth 100000
open Go.RowKit
set_option linter.unusedVariables false
set_option linter.unusedSimpArgs false

set_option maxHeartbeats 1000000 in
theorem refShape_Const_na (op name K : ByteArray) (A B n : Int) (zs : List Int) (xs : List ByteArray) (sc dc ll c : Nat) (sa da ao : Option Addr) (w : World) (hm : prv op = 0) (hA : A = 0) (hB : B = 0) (f_Param : isw op lParam = false) (f_Input : isw op lInput = false) (f_Const : isw op lConst = true) (f_Matmul : isw op lMatmul = false) (f_Transpose : isw op lTranspose = false) (f_Sum : isw op lSum = false) (f_Scale : isw op lScale = false) (f_Power : isw op lPower = false) (f_Reshape : isw op lReshape = false) (f_Spread : isw op lSpread = false) (hn0 : name.size = 0) (hk : K.size = 0) (hn : n = 0) (hl : zs.length ≤ 1000) (hS : Sp.Sl w sa zs) (hr : ¬ Sp.Rgt zs) : Calls Tryz.prog 11 #[.slice ao ll c, .agg #[.string op, .int .i64 A, .int .i64 B, .string name, .slice sa zs.length sc, .string K, .int .i64 n, .slice da xs.length dc]] w fun e w' => (∃ a n c, e = .returned (.tuple #[.slice a n c, .bool false])) ∧ Below w.heap.size w w' := by
  have g_Param := isw_g f_Param
  have g_Input := isw_g f_Input
  have g_Const := isw_g f_Const
  have g_Matmul := isw_g f_Matmul
  have g_Transpose := isw_g f_Transpose
  have g_Sum := isw_g f_Sum
  have g_Scale := isw_g f_Scale
  have g_Power := isw_g f_Power
  have g_Reshape := isw_g f_Reshape
  have g_Spread := isw_g f_Spread
  clear f_Param f_Input f_Const f_Matmul f_Transpose f_Sum f_Scale f_Power f_Reshape f_Spread
  have HR1 : Hid (∀ v, Below w.heap.size w v → Calls Tryz.prog 26 #[.slice sa zs.length sc] v fun e w' => e = .returned (.bool false) ∧ w' = v) := fun v hv => by
    have := Sp.refRight_any sa zs sc v hl (sl_below hS hv)
    rw [show decide (Sp.Rgt zs) = false from by simp only [decide_eq_true_eq, decide_eq_false_iff_not]; assumption] at this
    exact this
  clear hr hS
  have hke : (K.toList == []) = true := emp_yes hk
  have hne : (name.toList == []) = true := emp_yes hn0
  clear hk hn0
  have HPt : Hid (∀ v, Calls Tryz.prog 24 #[.string op] v fun e w' => e = .returned (.int .i64 (0)) ∧ Below v.heap.size v w') := fun v => by
    have := refParts_any op v
    rw [hm] at this
    exact this
  clear hm
  go_enter Tryz.func11, Tryz.ntmps11
  go_wp2_with fail
  refine (HPt.out _).mono ?_
  rintro e w1 ⟨rfl, hB1⟩
  obtain ⟨o1, -, hBx⟩ := own1 hB1
  have q0 := o1 0
  have q1 := o1 1
  have q2 := o1 2
  have q3 := o1 3
  have q4 := o1 4
  have q5 := o1 5
  have q6 := o1 6
  have q7 := o1 7
  simp at q0 q1 q2 q3 q4 q5 q6 q7
  have HB1 : Hid (Below w.heap.size w w1) := hBx
  obtain ⟨p, hp⟩ : ∃ p, w.heap.size = p := ⟨_, rfl⟩
  clear hB1 hBx o1 HPt
  simp only [hp] at q0 q1 q2 q3 q4 q5 q6 q7 ⊢
  have HP : Hid _ := hp
  clear hp
  go_upto_region 25 with fail
  go_quiet ((go_at_call 26; exact Calls.quiet_of_same (HR1.out _ (bl_n HB1.out _))))
  go_wp2
  go_ret2
  exact ⟨⟨_, _, _, rfl⟩, HP.out ▸ bl_n HB1.out _⟩

set_option maxHeartbeats 1000000 in
theorem refShape_Const_nb (op name K : ByteArray) (A B n : Int) (zs : List Int) (xs : List ByteArray) (sc dc ll c : Nat) (sa da ao : Option Addr) (w : World) (hm : prv op = 0) (hA : A = 0) (hB : B = 0) (f_Param : isw op lParam = false) (f_Input : isw op lInput = false) (f_Const : isw op lConst = true) (f_Matmul : isw op lMatmul = false) (f_Transpose : isw op lTranspose = false) (f_Sum : isw op lSum = false) (f_Scale : isw op lScale = false) (f_Power : isw op lPower = false) (f_Reshape : isw op lReshape = false) (f_Spread : isw op lSpread = false) (hn0 : name.size = 0) (hk : K.size = 0) (hn : n = 0) (hl : zs.length ≤ 1000) (hS : Sp.Sl w sa zs) (hr : Sp.Rgt zs) (he : ¬ xs.length = Sp.szI zs) : Calls Tryz.prog 11 #[.slice ao ll c, .agg #[.string op, .int .i64 A, .int .i64 B, .string name, .slice sa zs.length sc, .string K, .int .i64 n, .slice da xs.length dc]] w fun e w' => (∃ a n c, e = .returned (.tuple #[.slice a n c, .bool false])) ∧ Below w.heap.size w w' := by
  have g_Param := isw_g f_Param
  have g_Input := isw_g f_Input
  have g_Const := isw_g f_Const
  have g_Matmul := isw_g f_Matmul
  have g_Transpose := isw_g f_Transpose
  have g_Sum := isw_g f_Sum
  have g_Scale := isw_g f_Scale
  have g_Power := isw_g f_Power
  have g_Reshape := isw_g f_Reshape
  have g_Spread := isw_g f_Spread
  clear f_Param f_Input f_Const f_Matmul f_Transpose f_Sum f_Scale f_Power f_Reshape f_Spread
  have HR1 : Hid (∀ v, Below w.heap.size w v → Calls Tryz.prog 26 #[.slice sa zs.length sc] v fun e w' => e = .returned (.bool true) ∧ w' = v) := fun v hv => by
    have := Sp.refRight_any sa zs sc v hl (sl_below hS hv)
    rw [show decide (Sp.Rgt zs) = true from by simp only [decide_eq_true_eq, decide_eq_false_iff_not]; assumption] at this
    exact this
  obtain ⟨m1, hm1⟩ : ∃ k : Nat, Sp.szI zs = k := ⟨_, rfl⟩
  have HZ1 : Hid (∀ v, Below w.heap.size w v → Calls Tryz.prog 27 #[.slice sa zs.length sc] v fun e w' => e = .returned (.int .i64 (m1 : Nat)) ∧ w' = v) := fun v hv => hm1 ▸ Sp.refSize_any sa zs sc v hr (sl_below hS hv)
  rw [hm1] at he
  obtain ⟨N, hN⟩ : ∃ N, xs.length = N := ⟨_, rfl⟩
  rw [hN] at he ⊢
  have he1 : ((N : Int) != (m1 : Int)) = true := by simp; omega
  have he2 : ((N : Int) == (m1 : Int)) = false := by simp; omega
  clear hm1 hr hS hN
  have hke : (K.toList == []) = true := emp_yes hk
  have hne : (name.toList == []) = true := emp_yes hn0
  clear hk hn0
  have HPt : Hid (∀ v, Calls Tryz.prog 24 #[.string op] v fun e w' => e = .returned (.int .i64 (0)) ∧ Below v.heap.size v w') := fun v => by
    have := refParts_any op v
    rw [hm] at this
    exact this
  clear hm
  go_enter Tryz.func11, Tryz.ntmps11
  go_wp2_with fail
  refine (HPt.out _).mono ?_
  rintro e w1 ⟨rfl, hB1⟩
  obtain ⟨o1, -, hBx⟩ := own1 hB1
  have q0 := o1 0
  have q1 := o1 1
  have q2 := o1 2
  have q3 := o1 3
  have q4 := o1 4
  have q5 := o1 5
  have q6 := o1 6
  have q7 := o1 7
  simp at q0 q1 q2 q3 q4 q5 q6 q7
  have HB1 : Hid (Below w.heap.size w w1) := hBx
  obtain ⟨p, hp⟩ : ∃ p, w.heap.size = p := ⟨_, rfl⟩
  clear hB1 hBx o1 HPt
  simp only [hp] at q0 q1 q2 q3 q4 q5 q6 q7 ⊢
  have HP : Hid _ := hp
  clear hp
  go_upto_region 25 with fail
  go_quiet (first | (go_at_call 26; exact Calls.quiet_of_same (HR1.out _ (bl_n HB1.out _))) | (go_at_call 27; exact Calls.quiet_of_same (HZ1.out _ (bl_n HB1.out _))))
  go_wp2
  go_ret2
  exact ⟨⟨_, _, _, rfl⟩, HP.out ▸ bl_n HB1.out _⟩

set_option maxHeartbeats 1000000 in
theorem refShape_Const_any (op name K : ByteArray) (A B n : Int) (zs : List Int) (xs : List ByteArray) (sc dc ll c : Nat) (sa da ao : Option Addr) (w : World) (hm : prv op = 0) (hA : A = 0) (hB : B = 0) (f_Param : isw op lParam = false) (f_Input : isw op lInput = false) (f_Const : isw op lConst = true) (f_Matmul : isw op lMatmul = false) (f_Transpose : isw op lTranspose = false) (f_Sum : isw op lSum = false) (f_Scale : isw op lScale = false) (f_Power : isw op lPower = false) (f_Reshape : isw op lReshape = false) (f_Spread : isw op lSpread = false) (hn0 : name.size = 0) (hk : K.size = 0) (hn : n = 0) (hl : zs.length ≤ 1000) (hS : Sp.Sl w sa zs) (hr : Sp.Rgt zs) (he : xs.length = Sp.szI zs) (hR : Row w da (txts xs)) (hxs : ∀ i, i < xs.length → (xs.getD i em).size ≤ 20000) : Calls Tryz.prog 11 #[.slice ao ll c, .agg #[.string op, .int .i64 A, .int .i64 B, .string name, .slice sa zs.length sc, .string K, .int .i64 n, .slice da xs.length dc]] w fun e w' => Cst (xs.all ra) (.slice sa zs.length sc) e ∧ Below w.heap.size w w' := by
  have g_Param := isw_g f_Param
  have g_Input := isw_g f_Input
  have g_Const := isw_g f_Const
  have g_Matmul := isw_g f_Matmul
  have g_Transpose := isw_g f_Transpose
  have g_Sum := isw_g f_Sum
  have g_Scale := isw_g f_Scale
  have g_Power := isw_g f_Power
  have g_Reshape := isw_g f_Reshape
  have g_Spread := isw_g f_Spread
  clear f_Param f_Input f_Const f_Matmul f_Transpose f_Sum f_Scale f_Power f_Reshape f_Spread
  have HR1 : Hid (∀ v, Below w.heap.size w v → Calls Tryz.prog 26 #[.slice sa zs.length sc] v fun e w' => e = .returned (.bool true) ∧ w' = v) := fun v hv => by
    have := Sp.refRight_any sa zs sc v hl (sl_below hS hv)
    rw [show decide (Sp.Rgt zs) = true from by simp only [decide_eq_true_eq, decide_eq_false_iff_not]; assumption] at this
    exact this
  obtain ⟨m1, hm1⟩ : ∃ k : Nat, Sp.szI zs = k := ⟨_, rfl⟩
  have HZ1 : Hid (∀ v, Below w.heap.size w v → Calls Tryz.prog 27 #[.slice sa zs.length sc] v fun e w' => e = .returned (.int .i64 (m1 : Nat)) ∧ w' = v) := fun v hv => hm1 ▸ Sp.refSize_any sa zs sc v hr (sl_below hS hv)
  rw [hm1] at he
  have HM : Hid ((∀ i, i < xs.length → ra (xs.getD i em) = true) → xs.all ra = true) := all_y
  have HN : Hid (∀ i, i < xs.length → ra (xs.getD i em) = false → xs.all ra = false) := fun i hi h => all_n hi h
  have HRx : Hid (∀ v, Below w.heap.size w v → ∀ i, i < xs.length → ∃ b off, da = some ⟨b, off, none⟩ ∧ v.cell? ⟨b, off + i, none⟩ = some (.string (xs.getD i em))) := fun v hv i hi => row_s (Row.below hR hv) hi
  have HRd : Hid (∀ i, i < xs.length → ∃ X Y, ∀ v : World, Calls Tryz.prog 28 #[.string (xs.getD i em)] v fun e w' => e = .returned (.tuple #[.agg #[.string X, .string Y], .bool (ra (xs.getD i em))]) ∧ Below v.heap.size v w') := fun i hi => refRead_any _ (hxs i hi)
  obtain ⟨N, hN⟩ : ∃ N, xs.length = N := ⟨_, rfl⟩
  rw [hN] at he HM HN HRx HRd ⊢
  obtain rfl : m1 = N := he.symm
  have hN4 : m1 ≤ 64 := hm1 ▸ Sp.szI_le zs
  clear hm1 hr hS hN hR hxs he
  subst hA hB hn
  have hke : (K.toList == []) = true := emp_yes hk
  have hne : (name.toList == []) = true := emp_yes hn0
  clear hk hn0
  have HPt : Hid (∀ v, Calls Tryz.prog 24 #[.string op] v fun e w' => e = .returned (.int .i64 (0)) ∧ Below v.heap.size v w') := fun v => by
    have := refParts_any op v
    rw [hm] at this
    exact this
  clear hm
  go_enter Tryz.func11, Tryz.ntmps11
  go_wp2_with fail
  refine (HPt.out _).mono ?_
  rintro e w1 ⟨rfl, hB1⟩
  obtain ⟨o1, -, hBx⟩ := own1 hB1
  have q0 := o1 0
  have q1 := o1 1
  have q2 := o1 2
  have q3 := o1 3
  have q4 := o1 4
  have q5 := o1 5
  have q6 := o1 6
  have q7 := o1 7
  simp at q0 q1 q2 q3 q4 q5 q6 q7
  have HB1 : Hid (Below w.heap.size w w1) := hBx
  obtain ⟨p, hp⟩ : ∃ p, w.heap.size = p := ⟨_, rfl⟩
  clear hB1 hBx o1 HPt
  simp only [hp] at q0 q1 q2 q3 q4 q5 q6 q7 ⊢
  have HP : Hid _ := hp
  clear hp
  go_upto_region 25 with fail
  go_quiet (first | (go_at_call 26; exact Calls.quiet_of_same (HR1.out _ (bl_n HB1.out _))) | (go_at_call 27; exact Calls.quiet_of_same (HZ1.out _ (bl_n HB1.out _))))
  go_wp2_with fail
  have HB1n : Hid _ := fun n => bl_n HB1.out n
  go_loopw [165] (fun i wr => ∃ k : Nat, k ≤ m1 ∧ i = .int .i64 (k : Int) ∧ (∀ j, j < k → ra (xs.getD j em) = true) ∧ Below w.heap.size w wr) (fun i _ => m1 - (intOf i).toNat)
  case atStart => exact ⟨0, by omega, rfl, fun j hj => by omega, HB1n.out _⟩
  case round =>
    obtain ⟨k, hk, rfl, hj, hb⟩ := hrel
    have HJ : Hid _ := And.intro hj hb
    clear hj
    by_cases h : k < m1
    · obtain ⟨b, off, rfl, hc⟩ := HRx.out wr hb k h
      obtain ⟨X, Y, hRd⟩ := HRd.out k h
      clear hb
      obtain ⟨x, hx⟩ : ∃ z, xs.getD k em = z := ⟨_, rfl⟩
      rw [hx] at hc hRd
      have HX : Hid _ := hx
      clear hx
      obtain ⟨r, hr⟩ : ∃ r, ra x = r := ⟨_, rfl⟩
      rw [hr] at hRd
      have HRa : Hid _ := hr
      clear hr
      go_wp2_with fail
      refine (hRd _).mono ?_
      rintro e w1 ⟨rfl, h1⟩
      have H1 : Hid _ := HJ.out.2.trans (h1.mono HJ.out.2.size)
      have H1a : Hid (∀ o, Below w.heap.size w (w1.alloc o)) := fun o => H1.out.alloc H1.out.size o
      clear h1 hc hRd
      cases r with
      | true =>
        go_wp2
        go_roundw
        case rel =>
          refine ⟨k + 1, by omega, by go_num, fun j hj => ?_, H1a.out _⟩
          by_cases e : j = k
          · rw [e, HX.out]; exact HRa.out
          · exact HJ.out.1 j (by omega)
        case measure => simp [intOf]; omega
      | false =>
        have HF : Hid (xs.all ra = false) := HN.out k h (by rw [HX.out]; exact HRa.out)
        go_wp2
        go_ret2
        exact ⟨Cst.no HF.out ⟨_, _, _, rfl⟩, HP.out ▸ H1a.out _⟩
    · have HT : Hid (xs.all ra = true) := HM.out (fun i hi => HJ.out.1 i (by omega))
      clear hb
      go_wp2_with fail
      refine (HR1.out wr HJ.out.2).mono ?_
      rintro e w3 ⟨rfl, rfl⟩
      go_wp2
      go_ret2
      exact ⟨Cst.yes HT.out rfl, HP.out ▸ HJ.out.2⟩

end Go.Proofs.YtadgnafafdfioaaGreatDoor.Gr
/-
  WHAT THE DOCUMENT's Shape GIVES, where a node has what it must: Transpose. Conditions: each theorem's own.
-/
namespace Go.Proofs.YtadgnafafdfioaaGreatDoor.Gr
open Go.Proofs.YtadgnafafdfioaaGreatDoor.Rd
set_option maxRecDepth 100000
open Go.RowKit
set_option linter.unusedVariables false
set_option linter.unusedSimpArgs false

set_option maxHeartbeats 1000000 in
theorem refShape_Transpose_no (op name K : ByteArray) (i : Nat) (B n : Int) (zs : List Int) (sc dl dc ll c bl ol ac nx : Nat) (sa da aa : Option Addr) (w : World) (hm : prv op = 1) (hi : i < ll) (hB : B = 0) (f_Param : isw op lParam = false) (f_Input : isw op lInput = false) (f_Const : isw op lConst = false) (f_Matmul : isw op lMatmul = false) (f_Transpose : isw op lTranspose = true) (f_Sum : isw op lSum = false) (f_Scale : isw op lScale = false) (f_Power : isw op lPower = false) (f_Reshape : isw op lReshape = false) (f_Spread : isw op lSpread = false) (hn0 : name.size = 0) (hk : K.size = 0) (hn : n = 0) (hd : dl = 0) (hx : ¬ nx = 2) (hC : w.cell? ⟨bl, ol + i * 8 + 4, none⟩ = some (.slice aa nx ac)) : Calls Tryz.prog 11 #[.slice (some ⟨bl, ol, none⟩) ll c, .agg #[.string op, .int .i64 (i : Int), .int .i64 B, .string name, .slice sa zs.length sc, .string K, .int .i64 n, .slice da dl dc]] w fun e w' => (∃ a n c, e = .returned (.tuple #[.slice a n c, .bool false])) ∧ Below w.heap.size w w' := by
  have g_Param := isw_g f_Param
  have g_Input := isw_g f_Input
  have g_Const := isw_g f_Const
  have g_Matmul := isw_g f_Matmul
  have g_Transpose := isw_g f_Transpose
  have g_Sum := isw_g f_Sum
  have g_Scale := isw_g f_Scale
  have g_Power := isw_g f_Power
  have g_Reshape := isw_g f_Reshape
  have g_Spread := isw_g f_Spread
  clear f_Param f_Input f_Const f_Matmul f_Transpose f_Sum f_Scale f_Power f_Reshape f_Spread
  have hke : (K.toList == []) = true := emp_yes hk
  have hne : (name.toList == []) = true := emp_yes hn0
  clear hk hn0
  have HPt : Hid (∀ v, Calls Tryz.prog 24 #[.string op] v fun e w' => e = .returned (.int .i64 (1)) ∧ Below v.heap.size v w') := fun v => by
    have := refParts_any op v
    rw [hm] at this
    exact this
  clear hm
  go_enter Tryz.func11, Tryz.ntmps11
  go_wp2_with fail
  refine (HPt.out _).mono ?_
  rintro e w1 ⟨rfl, hB1⟩
  obtain ⟨o1, -, hBx⟩ := own1 hB1
  have q0 := o1 0
  have q1 := o1 1
  have q2 := o1 2
  have q3 := o1 3
  have q4 := o1 4
  have q5 := o1 5
  have q6 := o1 6
  have q7 := o1 7
  simp at q0 q1 q2 q3 q4 q5 q6 q7
  have HB1 : Hid (Below w.heap.size w w1) := hBx
  have kC := cell_below HB1.out hC
  clear hC
  obtain ⟨p, hp⟩ : ∃ p, w.heap.size = p := ⟨_, rfl⟩
  clear hB1 hBx o1 HPt
  simp only [hp] at q0 q1 q2 q3 q4 q5 q6 q7 ⊢
  have HP : Hid _ := hp
  clear hp
  go_wp2
  go_ret2
  exact ⟨⟨_, _, _, rfl⟩, HP.out ▸ HB1.out⟩

end Go.Proofs.YtadgnafafdfioaaGreatDoor.Gr
/-
  WHAT THE DOCUMENT's Shape GIVES, where a node has what it must: Param. Conditions: each theorem's own.
-/
namespace Go.Proofs.YtadgnafafdfioaaGreatDoor.Gr
open Go.Proofs.YtadgnafafdfioaaGreatDoor.Rd
set_option maxRecDepth 100000
open Go.RowKit
set_option linter.unusedVariables false
set_option linter.unusedSimpArgs false

set_option maxHeartbeats 1000000 in
theorem refShape_Param_yes (op name K : ByteArray) (A B n : Int) (zs : List Int) (sc dl dc ll c : Nat) (sa da ao : Option Addr) (w : World) (hm : prv op = 0) (hA : A = 0) (hB : B = 0) (f_Param : isw op lParam = true) (f_Input : isw op lInput = false) (f_Const : isw op lConst = false) (f_Matmul : isw op lMatmul = false) (f_Transpose : isw op lTranspose = false) (f_Sum : isw op lSum = false) (f_Scale : isw op lScale = false) (f_Power : isw op lPower = false) (f_Reshape : isw op lReshape = false) (f_Spread : isw op lSpread = false) (hns : name.size ≤ 20000) (hnm : Lx.nm name.data.toList = true) (hk : K.size = 0) (hn : n = 0) (hd : dl = 0) (hl : zs.length ≤ 1000) (hS : Sp.Sl w sa zs) : Calls Tryz.prog 11 #[.slice ao ll c, .agg #[.string op, .int .i64 A, .int .i64 B, .string name, .slice sa zs.length sc, .string K, .int .i64 n, .slice da dl dc]] w fun e w' => e = .returned (.tuple #[.slice sa zs.length sc, .bool (decide (Sp.Rgt zs))]) ∧ Below w.heap.size w w' := by
  have g_Param := isw_g f_Param
  have g_Input := isw_g f_Input
  have g_Const := isw_g f_Const
  have g_Matmul := isw_g f_Matmul
  have g_Transpose := isw_g f_Transpose
  have g_Sum := isw_g f_Sum
  have g_Scale := isw_g f_Scale
  have g_Power := isw_g f_Power
  have g_Reshape := isw_g f_Reshape
  have g_Spread := isw_g f_Spread
  clear f_Param f_Input f_Const f_Matmul f_Transpose f_Sum f_Scale f_Power f_Reshape f_Spread
  obtain ⟨r, hr⟩ : ∃ r, decide (Sp.Rgt zs) = r := ⟨_, rfl⟩
  have HRt : Hid (∀ v, Below w.heap.size w v → Calls Tryz.prog 26 #[.slice sa zs.length sc] v fun e w' => e = .returned (.bool r) ∧ w' = v) := fun v hv => hr ▸ Sp.refRight_any sa zs sc v hl (sl_below hS hv)
  rw [hr]
  clear hr hS
  have hke : (K.toList == []) = true := emp_yes hk
  clear hk
  have HPt : Hid (∀ v, Calls Tryz.prog 24 #[.string op] v fun e w' => e = .returned (.int .i64 (0)) ∧ Below v.heap.size v w') := fun v => by
    have := refParts_any op v
    rw [hm] at this
    exact this
  clear hm
  go_enter Tryz.func11, Tryz.ntmps11
  go_wp2_with fail
  refine (HPt.out _).mono ?_
  rintro e w1 ⟨rfl, hB1⟩
  obtain ⟨o1, -, hBx⟩ := own1 hB1
  have q0 := o1 0
  have q1 := o1 1
  have q2 := o1 2
  have q3 := o1 3
  have q4 := o1 4
  have q5 := o1 5
  have q6 := o1 6
  have q7 := o1 7
  simp at q0 q1 q2 q3 q4 q5 q6 q7
  have HB1 : Hid (Below w.heap.size w w1) := hBx
  obtain ⟨p, hp⟩ : ∃ p, w.heap.size = p := ⟨_, rfl⟩
  clear hB1 hBx o1 HPt
  simp only [hp] at q0 q1 q2 q3 q4 q5 q6 q7 ⊢
  have HP : Hid _ := hp
  clear hp
  go_wp2_with fail
  refine (Lx.refName_any name _ (by omega)).mono ?_
  rintro e w2 ⟨rfl, rfl⟩
  rw [hnm]
  go_wp2_with fail
  refine (HRt.out _ HB1.out).mono ?_
  rintro e w3 ⟨rfl, rfl⟩
  go_wp2
  go_ret2
  exact ⟨rfl, HP.out ▸ HB1.out⟩
end Go.Proofs.YtadgnafafdfioaaGreatDoor.Gr
/-
  WHAT THE DOCUMENT's Shape GIVES, where a node has what it must: Input. Conditions: each theorem's own.
-/
namespace Go.Proofs.YtadgnafafdfioaaGreatDoor.Gr
open Go.Proofs.YtadgnafafdfioaaGreatDoor.Rd
set_option maxRecDepth 100000
open Go.RowKit
set_option linter.unusedVariables false
set_option linter.unusedSimpArgs false

set_option maxHeartbeats 1000000 in
theorem refShape_Input_yes (op name K : ByteArray) (A B n : Int) (zs : List Int) (sc dl dc ll c : Nat) (sa da ao : Option Addr) (w : World) (hm : prv op = 0) (hA : A = 0) (hB : B = 0) (f_Param : isw op lParam = false) (f_Input : isw op lInput = true) (f_Const : isw op lConst = false) (f_Matmul : isw op lMatmul = false) (f_Transpose : isw op lTranspose = false) (f_Sum : isw op lSum = false) (f_Scale : isw op lScale = false) (f_Power : isw op lPower = false) (f_Reshape : isw op lReshape = false) (f_Spread : isw op lSpread = false) (hns : name.size ≤ 20000) (hnm : Lx.nm name.data.toList = true) (hk : K.size = 0) (hn : n = 0) (hd : dl = 0) (hl : zs.length ≤ 1000) (hS : Sp.Sl w sa zs) : Calls Tryz.prog 11 #[.slice ao ll c, .agg #[.string op, .int .i64 A, .int .i64 B, .string name, .slice sa zs.length sc, .string K, .int .i64 n, .slice da dl dc]] w fun e w' => e = .returned (.tuple #[.slice sa zs.length sc, .bool (decide (Sp.Rgt zs))]) ∧ Below w.heap.size w w' := by
  have g_Param := isw_g f_Param
  have g_Input := isw_g f_Input
  have g_Const := isw_g f_Const
  have g_Matmul := isw_g f_Matmul
  have g_Transpose := isw_g f_Transpose
  have g_Sum := isw_g f_Sum
  have g_Scale := isw_g f_Scale
  have g_Power := isw_g f_Power
  have g_Reshape := isw_g f_Reshape
  have g_Spread := isw_g f_Spread
  clear f_Param f_Input f_Const f_Matmul f_Transpose f_Sum f_Scale f_Power f_Reshape f_Spread
  obtain ⟨r, hr⟩ : ∃ r, decide (Sp.Rgt zs) = r := ⟨_, rfl⟩
  have HRt : Hid (∀ v, Below w.heap.size w v → Calls Tryz.prog 26 #[.slice sa zs.length sc] v fun e w' => e = .returned (.bool r) ∧ w' = v) := fun v hv => hr ▸ Sp.refRight_any sa zs sc v hl (sl_below hS hv)
  rw [hr]
  clear hr hS
  have hke : (K.toList == []) = true := emp_yes hk
  clear hk
  have HPt : Hid (∀ v, Calls Tryz.prog 24 #[.string op] v fun e w' => e = .returned (.int .i64 (0)) ∧ Below v.heap.size v w') := fun v => by
    have := refParts_any op v
    rw [hm] at this
    exact this
  clear hm
  go_enter Tryz.func11, Tryz.ntmps11
  go_wp2_with fail
  refine (HPt.out _).mono ?_
  rintro e w1 ⟨rfl, hB1⟩
  obtain ⟨o1, -, hBx⟩ := own1 hB1
  have q0 := o1 0
  have q1 := o1 1
  have q2 := o1 2
  have q3 := o1 3
  have q4 := o1 4
  have q5 := o1 5
  have q6 := o1 6
  have q7 := o1 7
  simp at q0 q1 q2 q3 q4 q5 q6 q7
  have HB1 : Hid (Below w.heap.size w w1) := hBx
  obtain ⟨p, hp⟩ : ∃ p, w.heap.size = p := ⟨_, rfl⟩
  clear hB1 hBx o1 HPt
  simp only [hp] at q0 q1 q2 q3 q4 q5 q6 q7 ⊢
  have HP : Hid _ := hp
  clear hp
  go_wp2_with fail
  refine (Lx.refName_any name _ (by omega)).mono ?_
  rintro e w2 ⟨rfl, rfl⟩
  rw [hnm]
  go_wp2_with fail
  refine (HRt.out _ HB1.out).mono ?_
  rintro e w3 ⟨rfl, rfl⟩
  go_wp2
  go_ret2
  exact ⟨rfl, HP.out ▸ HB1.out⟩
end Go.Proofs.YtadgnafafdfioaaGreatDoor.Gr
/-
  WHAT THE DOCUMENT's Shape GIVES, where a node has what it must: O1. Conditions: each theorem's own.
-/
namespace Go.Proofs.YtadgnafafdfioaaGreatDoor.Gr
open Go.Proofs.YtadgnafafdfioaaGreatDoor.Rd
set_option maxRecDepth 100000
open Go.RowKit
set_option linter.unusedVariables false
set_option linter.unusedSimpArgs false

set_option maxHeartbeats 1000000 in
theorem refShape_O1_yes (op name K : ByteArray) (i : Nat) (B n : Int) (zs xs : List Int) (sc dl dc ll c bl ol ac : Nat) (sa da aa : Option Addr) (w : World) (hm : prv op = 1) (hi : i < ll) (hB : B = 0) (f_Param : isw op lParam = false) (f_Input : isw op lInput = false) (f_Const : isw op lConst = false) (f_Matmul : isw op lMatmul = false) (f_Transpose : isw op lTranspose = false) (f_Sum : isw op lSum = false) (f_Scale : isw op lScale = false) (f_Power : isw op lPower = false) (f_Reshape : isw op lReshape = false) (f_Spread : isw op lSpread = false) (hn0 : name.size = 0) (hk : K.size = 0) (hn : n = 0) (hd : dl = 0) (hl : xs.length ≤ 1000) (hS : Sp.Sl w aa xs) (hC : w.cell? ⟨bl, ol + i * 8 + 4, none⟩ = some (.slice aa xs.length ac)) : Calls Tryz.prog 11 #[.slice (some ⟨bl, ol, none⟩) ll c, .agg #[.string op, .int .i64 (i : Int), .int .i64 B, .string name, .slice sa zs.length sc, .string K, .int .i64 n, .slice da dl dc]] w fun e w' => e = .returned (.tuple #[.slice aa xs.length ac, .bool (decide (Sp.Rgt xs))]) ∧ Below w.heap.size w w' := by
  have g_Param := isw_g f_Param
  have g_Input := isw_g f_Input
  have g_Const := isw_g f_Const
  have g_Matmul := isw_g f_Matmul
  have g_Transpose := isw_g f_Transpose
  have g_Sum := isw_g f_Sum
  have g_Scale := isw_g f_Scale
  have g_Power := isw_g f_Power
  have g_Reshape := isw_g f_Reshape
  have g_Spread := isw_g f_Spread
  clear f_Param f_Input f_Const f_Matmul f_Transpose f_Sum f_Scale f_Power f_Reshape f_Spread
  obtain ⟨r, hr⟩ : ∃ r, decide (Sp.Rgt xs) = r := ⟨_, rfl⟩
  have HRt : Hid (∀ v, Below w.heap.size w v → Calls Tryz.prog 26 #[.slice aa xs.length ac] v fun e w' => e = .returned (.bool r) ∧ w' = v) := fun v hv => hr ▸ Sp.refRight_any aa xs ac v hl (sl_below hS hv)
  rw [hr]
  clear hr hS
  have hke : (K.toList == []) = true := emp_yes hk
  have hne : (name.toList == []) = true := emp_yes hn0
  clear hk hn0
  have HPt : Hid (∀ v, Calls Tryz.prog 24 #[.string op] v fun e w' => e = .returned (.int .i64 (1)) ∧ Below v.heap.size v w') := fun v => by
    have := refParts_any op v
    rw [hm] at this
    exact this
  clear hm
  go_enter Tryz.func11, Tryz.ntmps11
  go_wp2_with fail
  refine (HPt.out _).mono ?_
  rintro e w1 ⟨rfl, hB1⟩
  obtain ⟨o1, -, hBx⟩ := own1 hB1
  have q0 := o1 0
  have q1 := o1 1
  have q2 := o1 2
  have q3 := o1 3
  have q4 := o1 4
  have q5 := o1 5
  have q6 := o1 6
  have q7 := o1 7
  simp at q0 q1 q2 q3 q4 q5 q6 q7
  have HB1 : Hid (Below w.heap.size w w1) := hBx
  have hCc := cell_below HB1.out hC
  clear hC
  obtain ⟨p, hp⟩ : ∃ p, w.heap.size = p := ⟨_, rfl⟩
  clear hB1 hBx o1 HPt
  simp only [hp] at q0 q1 q2 q3 q4 q5 q6 q7 ⊢
  have HP : Hid _ := hp
  clear hp
  go_wp2_with fail
  refine (HRt.out _ HB1.out).mono ?_
  rintro e w3 ⟨rfl, rfl⟩
  go_wp2
  go_ret2
  exact ⟨rfl, HP.out ▸ HB1.out⟩
end Go.Proofs.YtadgnafafdfioaaGreatDoor.Gr
/-
  WHAT THE DOCUMENT's Shape GIVES, where a node has what it must: Sum. Conditions: each theorem's own.
-/
namespace Go.Proofs.YtadgnafafdfioaaGreatDoor.Gr
open Go.Proofs.YtadgnafafdfioaaGreatDoor.Rd
set_option maxRecDepth 100000
open Go.RowKit
set_option linter.unusedVariables false
set_option linter.unusedSimpArgs false

set_option maxHeartbeats 1000000 in
theorem refShape_Sum_yes (op name K : ByteArray) (i : Nat) (B n : Int) (zs : List Int) (sc dl dc ll c bl ol ac nx : Nat) (sa da aa : Option Addr) (w : World) (hm : prv op = 1) (hi : i < ll) (hB : B = 0) (f_Param : isw op lParam = false) (f_Input : isw op lInput = false) (f_Const : isw op lConst = false) (f_Matmul : isw op lMatmul = false) (f_Transpose : isw op lTranspose = false) (f_Sum : isw op lSum = true) (f_Scale : isw op lScale = false) (f_Power : isw op lPower = false) (f_Reshape : isw op lReshape = false) (f_Spread : isw op lSpread = false) (hn0 : name.size = 0) (hk : K.size = 0) (hn : n = 0) (hd : dl = 0) (hC : w.cell? ⟨bl, ol + i * 8 + 4, none⟩ = some (.slice aa nx ac)) : Calls Tryz.prog 11 #[.slice (some ⟨bl, ol, none⟩) ll c, .agg #[.string op, .int .i64 (i : Int), .int .i64 B, .string name, .slice sa zs.length sc, .string K, .int .i64 n, .slice da dl dc]] w fun e w' => (∃ a c, e = .returned (.tuple #[.slice a 0 c, .bool true])) ∧ Below w.heap.size w w' := by
  have g_Param := isw_g f_Param
  have g_Input := isw_g f_Input
  have g_Const := isw_g f_Const
  have g_Matmul := isw_g f_Matmul
  have g_Transpose := isw_g f_Transpose
  have g_Sum := isw_g f_Sum
  have g_Scale := isw_g f_Scale
  have g_Power := isw_g f_Power
  have g_Reshape := isw_g f_Reshape
  have g_Spread := isw_g f_Spread
  clear f_Param f_Input f_Const f_Matmul f_Transpose f_Sum f_Scale f_Power f_Reshape f_Spread
  have HRt : Hid (∀ v a c, Calls Tryz.prog 26 #[.slice a 0 c] v fun e w' => e = .returned (.bool true) ∧ w' = v) := fun v a c => Sp.refRight_any a [] c v (by simp) (fun i hi => by cases hi)
  have hke : (K.toList == []) = true := emp_yes hk
  have hne : (name.toList == []) = true := emp_yes hn0
  clear hk hn0
  have HPt : Hid (∀ v, Calls Tryz.prog 24 #[.string op] v fun e w' => e = .returned (.int .i64 (1)) ∧ Below v.heap.size v w') := fun v => by
    have := refParts_any op v
    rw [hm] at this
    exact this
  clear hm
  go_enter Tryz.func11, Tryz.ntmps11
  go_wp2_with fail
  refine (HPt.out _).mono ?_
  rintro e w1 ⟨rfl, hB1⟩
  obtain ⟨o1, -, hBx⟩ := own1 hB1
  have q0 := o1 0
  have q1 := o1 1
  have q2 := o1 2
  have q3 := o1 3
  have q4 := o1 4
  have q5 := o1 5
  have q6 := o1 6
  have q7 := o1 7
  simp at q0 q1 q2 q3 q4 q5 q6 q7
  have HB1 : Hid (Below w.heap.size w w1) := hBx
  have kC := cell_below HB1.out hC
  clear hC
  obtain ⟨p, hp⟩ : ∃ p, w.heap.size = p := ⟨_, rfl⟩
  clear hB1 hBx o1 HPt
  simp only [hp] at q0 q1 q2 q3 q4 q5 q6 q7 ⊢
  have HP : Hid _ := hp
  clear hp
  go_wp2_with fail
  refine (HRt.out _ _ _).mono ?_
  rintro e w3 ⟨rfl, rfl⟩
  go_wp2
  go_ret2
  exact ⟨⟨_, _, rfl⟩, HP.out ▸ HB1.out⟩

end Go.Proofs.YtadgnafafdfioaaGreatDoor.Gr
