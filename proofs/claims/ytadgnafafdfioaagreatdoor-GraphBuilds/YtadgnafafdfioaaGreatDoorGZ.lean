/-
  WHAT THE DOCUMENT's Shape GIVES OF ANY NODE. Conditions: the theorem's own.
-/
import Derived.Test.YtadgnafafdfioaaGreatDoorGS
import Derived.Test.YtadgnafafdfioaaGreatDoorGP
import Derived.Test.YtadgnafafdfioaaGreatDoorGWA
import Derived.Test.YtadgnafafdfioaaGreatDoorGWB
import Derived.Test.YtadgnafafdfioaaGreatDoorGWC
import Derived.Deep.Cut
namespace Go.Proofs.YtadgnafafdfioaaGreatDoor.Gr
open Go.Proofs.YtadgnafafdfioaaGreatDoor.Rd
set_option maxRecDepth 100000
open Go.RowKit
set_option linter.unusedVariables false
set_option linter.unusedSimpArgs false

theorem Shp.rgo {w' : World} {a : Option Addr} {zs : List Int} {c : Nat} {e : Ending} (h : e = .returned (.tuple #[.slice a zs.length c, .bool (decide (Sp.Rgt zs))])) (hS : Sp.Sl w' a zs) : Shp w' (rgo zs) e := by
  unfold Gr.rgo
  by_cases hr : Sp.Rgt zs
  · rw [if_pos hr]; exact ⟨a, c, by rw [h, decide_eq_true hr], hS⟩
  · rw [if_neg hr]; exact ⟨a, _, c, by rw [h, decide_eq_false hr]⟩
theorem Shp.no {w' : World} {e : Ending} (h : ∃ a n c, e = .returned (.tuple #[.slice a n c, .bool false])) : Shp w' none e := h
theorem fok_iff {n : Nd} : fok n = true ↔ (isw n.op lScale = true ∨ n.k.size = 0) ∧ (isw n.op lPower = true ∨ n.n = 0) ∧ (isw n.op lConst = true ∨ n.data.length = 0) := by
  simp [fok, and_assoc]
theorem prv_some {x : ByteArray} {m : Nat} (h : prs x = some m) : prv x = (m : Int) := by unfold prv; rw [h]
theorem sl_list2 {w : World} {a : Option Addr} {x y : Int} (h : Sp.Sl w a [x, y]) : ∃ b off, a = some ⟨b, off, none⟩ ∧ w.cell? ⟨b, off, none⟩ = some (.int .i64 x) ∧ w.cell? ⟨b, off + 1, none⟩ = some (.int .i64 y) := by
  obtain ⟨b, off, e, h0⟩ := h 0 (by simp)
  obtain ⟨b', off', e', h1⟩ := h 1 (by simp)
  rw [e] at e'
  simp at e'
  obtain ⟨rfl, rfl⟩ := e'
  exact ⟨b, off, e, h0, h1⟩
theorem len_two {xs : List Int} (h : xs.length = 2) : ∃ x y, xs = [x, y] := by
  match xs, h with
  | [x, y], _ => exact ⟨x, y, rfl⟩

theorem one_no {op : ByteArray} (h : prs op = some 1) : isw op lParam = false ∧ isw op lInput = false ∧ isw op lConst = false := by
  rcases cases_one h with e | e | e | e | e | e | e | e | e | e <;> rw [e] <;> decide
theorem two_no {op : ByteArray} (h : prs op = some 2) : isw op lParam = false ∧ isw op lInput = false ∧ isw op lConst = false ∧ isw op lScale = false ∧ isw op lPower = false := by
  rcases cases_two h with e | e | e | e | e | e <;> rw [e] <;> decide
theorem refShape_bad (l : List Nd) (op name K : ByteArray) (A B n : Int) (zs : List Int) (data : List ByteArray) (sc dc c : Nat) (sa da ao : Option Addr) (w : World) (hns : name.size ≤ 20000)
    (h : ∀ m, prs op = some m → ¬ (pok m l.length A B = true ∧ nok op name = true ∧ fok ⟨op, A, B, name, zs, K, n, data⟩ = true)) :
    Calls Tryz.prog 11 #[.slice ao l.length c, .agg #[.string op, .int .i64 A, .int .i64 B, .string name, .slice sa zs.length sc, .string K, .int .i64 n, .slice da data.length dc]] w fun e w' => (∃ a n c, e = .returned (.tuple #[.slice a n c, .bool false])) ∧ Below w.heap.size w w' := by
  cases hm : prs op with
  | none => exact refShape_op op name K A B n _ sc _ dc _ c sa da ao w (by unfold prv; rw [hm])
  | some m =>
    have hv := prv_some hm
    have h' := h m hm
    clear h
    rcases prs_le hm with rfl | rfl | rfl
    · rw [pok0, fok_iff] at h'
      by_cases hA : A = 0
      rotate_left
      · exact refShape_0a op name K A B n _ sc _ dc _ c sa da ao w hv hA
      by_cases hB : B = 0
      rotate_left
      · exact refShape_0b op name K A B n _ sc _ dc _ c sa da ao w hv hA hB
      simp only [hA, hB, decide_true, Bool.and_self, true_and] at h'
      rcases cases_no hm with e | e | e
      · have hno : nok op name = nmb name := by rw [e]; rfl
        rw [hno] at h'
        by_cases hnm : nmb name = true
        · exact refShape_P_fok op name K A B n _ sc _ dc _ c sa da ao w hv hA hB (by rw [e]; decide) (by rw [e]; decide) (by rw [e]; decide) (by rw [e]; decide) hns hnm (fun hc => h' ⟨hnm, .inr hc.1, .inr hc.2.1, .inr hc.2.2⟩)
        · exact refShape_P_name op name K A B n _ sc _ dc _ c sa da ao w hv hA hB (by rw [e]; decide) (by rw [e]; decide) (by rw [e]; decide) (by rw [e]; decide) hns (show nmb name = false by simpa using hnm)
      · have hno : nok op name = nmb name := by rw [e]; rfl
        rw [hno] at h'
        by_cases hnm : nmb name = true
        · exact refShape_I_fok op name K A B n _ sc _ dc _ c sa da ao w hv hA hB (by rw [e]; decide) (by rw [e]; decide) (by rw [e]; decide) (by rw [e]; decide) (by rw [e]; decide) hns hnm (fun hc => h' ⟨hnm, .inr hc.1, .inr hc.2.1, .inr hc.2.2⟩)
        · exact refShape_I_name op name K A B n _ sc _ dc _ c sa da ao w hv hA hB (by rw [e]; decide) (by rw [e]; decide) (by rw [e]; decide) (by rw [e]; decide) (by rw [e]; decide) hns (show nmb name = false by simpa using hnm)
      · have hno : nok op name = decide (name.size = 0) := by rw [e]; rfl
        rw [hno] at h'
        by_cases hnm : name.size = 0
        · exact refShape_C_fok op name K A B n _ sc _ dc _ c sa da ao w hv hA hB (by rw [e]; decide) (by rw [e]; decide) (by rw [e]; decide) (by rw [e]; decide) (by rw [e]; decide) hnm (fun hc => h' ⟨by simp [hnm], .inr hc.1, .inr hc.2, .inl (by rw [e]; decide)⟩)
        · exact refShape_C_name op name K A B n _ sc _ dc _ c sa da ao w hv hA hB (by rw [e]; decide) (by rw [e]; decide) (by rw [e]; decide) (by rw [e]; decide) (by rw [e]; decide) hnm
    · rw [pok1, fok_iff, (nok_one (name := name) hm (by omega)).1] at h'
      by_cases hB : B = 0
      rotate_left
      · exact refShape_1b op name K A B n _ sc _ dc _ c sa da ao w hv hB
      by_cases hA : A < 0
      · exact refShape_1a op name K A B n _ sc _ dc _ c sa da ao w hv hB hA
      by_cases hA2 : (l.length : Int) ≤ A
      · exact refShape_1l op name K A B n _ sc _ dc _ c sa da ao w hv hB hA hA2
      have hin : inl l.length A = true := inl_iff.2 ⟨by omega, by omega⟩
      simp only [hB, hin, decide_true, Bool.and_self, true_and, decide_eq_true_eq] at h'
      by_cases hS : isw op lScale = true
      · have e := isw_eq hS
        by_cases hnm : name.size = 0
        · exact refShape_S_fok op name K A B n _ sc _ dc _ c sa da ao w hv hA hA2 hB (by rw [e]; decide) (by rw [e]; decide) (by rw [e]; decide) (by rw [e]; decide) (by rw [e]; decide) hnm (fun hc => h' ⟨hnm, .inl hS, .inr hc.1, .inr hc.2⟩)
        · exact refShape_S_name op name K A B n _ sc _ dc _ c sa da ao w hv hA hA2 hB (by rw [e]; decide) (by rw [e]; decide) (by rw [e]; decide) (by rw [e]; decide) (by rw [e]; decide) hnm
      by_cases hP : isw op lPower = true
      · have e := isw_eq hP
        by_cases hnm : name.size = 0
        · exact refShape_W_fok op name K A B n _ sc _ dc _ c sa da ao w hv hA hA2 hB (by rw [e]; decide) (by rw [e]; decide) (by rw [e]; decide) (by rw [e]; decide) (by rw [e]; decide) hnm (fun hc => h' ⟨hnm, .inr hc.1, .inl hP, .inr hc.2⟩)
        · exact refShape_W_name op name K A B n _ sc _ dc _ c sa da ao w hv hA hA2 hB (by rw [e]; decide) (by rw [e]; decide) (by rw [e]; decide) (by rw [e]; decide) (by rw [e]; decide) hnm
      obtain ⟨f1, f2, f3⟩ := one_no hm
      by_cases hnm : name.size = 0
      · exact refShape_O_fok op name K A B n _ sc _ dc _ c sa da ao w hv hA hA2 hB f1 f2 (by simpa using hS) (by simpa using hP) f3 hnm (fun hc => h' ⟨hnm, .inr hc.1, .inr hc.2.1, .inr hc.2.2⟩)
      · exact refShape_O_name op name K A B n _ sc _ dc _ c sa da ao w hv hA hA2 hB f1 f2 (by simpa using hS) (by simpa using hP) f3 hnm
    · rw [pok2, fok_iff, (nok_one (name := name) hm (by omega)).1] at h'
      by_cases hA : A < 0
      · exact refShape_2a op name K A B n _ sc _ dc _ c sa da ao w hv hA
      by_cases hA2 : (l.length : Int) ≤ A
      · exact refShape_2l op name K A B n _ sc _ dc _ c sa da ao w hv hA hA2
      by_cases hB : B < 0
      · exact refShape_2b op name K A B n _ sc _ dc _ c sa da ao w hv hA hA2 hB
      by_cases hB2 : (l.length : Int) ≤ B
      · exact refShape_2k op name K A B n _ sc _ dc _ c sa da ao w hv hA hA2 hB hB2
      have hin : inl l.length A = true := inl_iff.2 ⟨by omega, by omega⟩
      have hin2 : inl l.length B = true := inl_iff.2 ⟨by omega, by omega⟩
      simp only [hin, hin2, decide_true, Bool.and_self, true_and, decide_eq_true_eq] at h'
      obtain ⟨f1, f2, f3, f4, f5⟩ := two_no hm
      by_cases hnm : name.size = 0
      · exact refShape_T_fok op name K A B n _ sc _ dc _ c sa da ao w hv hA hA2 hB hB2 f1 f2 f4 f5 f3 hnm (fun hc => h' ⟨hnm, .inr hc.1, .inr hc.2.1, .inr hc.2.2⟩)
      · exact refShape_T_name op name K A B n _ sc _ dc _ c sa da ao w hv hA hA2 hB hB2 f1 f2 f4 f5 f3 hnm
end Go.Proofs.YtadgnafafdfioaaGreatDoor.Gr
/-
  WHERE THE SHAPE LIES THAT THE DOCUMENT's Shape GIVES OF ANY NODE: in a part's, in the node's own, or in a new block of ints. Conditions: each theorem's own.
-/
namespace Go.Proofs.YtadgnafafdfioaaGreatDoor.Gr
open Go.Proofs.YtadgnafafdfioaaGreatDoor.Rd
set_option maxRecDepth 100000
open Go.RowKit
set_option linter.unusedVariables false
set_option linter.unusedSimpArgs false

/-- below a number, or in a block of ints -/
def Pz (B : Nat) (w : World) (a : Option Addr) : Prop := ∀ x, a = some x → x.block < w.heap.size ∧ (x.block < B ∨ ∃ c, w.heap[x.block]? = some (.cells c 3 (0, 0)))
theorem Pz.below {B : Nat} {w v : World} {a : Option Addr} (h : Pz B w a) (hb : Below w.heap.size w v) : Pz B v a := fun x hx => by
  obtain ⟨h1, h2⟩ := h x hx
  refine ⟨Nat.lt_of_lt_of_le h1 hb.size, ?_⟩
  rcases h2 with h2 | ⟨c, h2⟩
  · exact .inl h2
  · exact .inr ⟨c, by rw [hb.block _ h1]; exact h2⟩
theorem Pz.new {B b : Nat} {w : World} {c : Array Value} (h : w.heap[b]? = some (.cells c 3 (0, 0))) : Pz B w (some ⟨b, 0, none⟩) := fun x hx => by
  simp only [Option.some.injEq] at hx
  subst hx
  exact ⟨(Array.getElem?_eq_some_iff.1 h).1, .inr ⟨c, h⟩⟩
/-- an empty list, or one that lies so -/
def Pe (B : Nat) (w : World) (a : Option Addr) (s : List Int) : Prop := s = [] ∨ Pz B w a
theorem Pe.below {B : Nat} {w v : World} {a : Option Addr} {s : List Int} (h : Pe B w a s) (hb : Below w.heap.size w v) : Pe B v a s := h.imp id fun h => h.below hb
def Shq (B : Nat) (w' : World) (o : Option (List Int)) (e : Ending) : Prop :=
  match o with
  | some s => ∃ a c, e = .returned (.tuple #[.slice a s.length c, .bool true]) ∧ Sp.Sl w' a s ∧ Pe B w' a s
  | none => ∃ a n c, e = .returned (.tuple #[.slice a n c, .bool false])
theorem Shq.rgo {B : Nat} {w' : World} {a : Option Addr} {zs : List Int} {c : Nat} {e : Ending} (h : e = .returned (.tuple #[.slice a zs.length c, .bool (decide (Sp.Rgt zs))])) (hS : Sp.Sl w' a zs) (hP : Pe B w' a zs) : Shq B w' (rgo zs) e := by
  unfold Gr.rgo
  by_cases hr : Sp.Rgt zs
  · rw [if_pos hr]; exact ⟨a, c, by rw [h, decide_eq_true hr], hS, hP⟩
  · rw [if_neg hr]; exact ⟨a, _, c, by rw [h, decide_eq_false hr]⟩
theorem refShape_badq (B0 : Nat) (l : List Nd) (op name K : ByteArray) (A B n : Int) (zs : List Int) (data : List ByteArray) (sc dc c : Nat) (sa da ao : Option Addr) (w : World) (hns : name.size ≤ 20000)
    (h : ∀ m, prs op = some m → ¬ (pok m l.length A B = true ∧ nok op name = true ∧ fok ⟨op, A, B, name, zs, K, n, data⟩ = true)) :
    Calls Tryz.prog 11 #[.slice ao l.length c, .agg #[.string op, .int .i64 A, .int .i64 B, .string name, .slice sa zs.length sc, .string K, .int .i64 n, .slice da data.length dc]] w fun e w' => Shq B0 w' none e ∧ Below w.heap.size w w' :=
  refShape_bad l op name K A B n zs data sc dc c sa da ao w hns h

set_option maxHeartbeats 1000000 in
theorem refShape_Transpose_yesq (B0 : Nat) (op name K : ByteArray) (i : Nat) (B n : Int) (zs : List Int) (sc dl dc ll c bl ol ac : Nat) (sa da aa : Option Addr) (x0 x1 : Int) (xb xo : Nat) (w : World) (hm : prv op = 1) (hi : i < ll) (hB : B = 0) (f_Param : isw op lParam = false) (f_Input : isw op lInput = false) (f_Const : isw op lConst = false) (f_Matmul : isw op lMatmul = false) (f_Transpose : isw op lTranspose = true) (f_Sum : isw op lSum = false) (f_Scale : isw op lScale = false) (f_Power : isw op lPower = false) (f_Reshape : isw op lReshape = false) (f_Spread : isw op lSpread = false) (hn0 : name.size = 0) (hk : K.size = 0) (hn : n = 0) (hd : dl = 0) (hC : w.cell? ⟨bl, ol + i * 8 + 4, none⟩ = some (.slice aa 2 ac)) (haa : aa = some ⟨xb, xo, none⟩) (hX : w.cell? ⟨xb, xo, none⟩ = some (.int .i64 x0)) (hY : w.cell? ⟨xb, xo + 1, none⟩ = some (.int .i64 x1)) : Calls Tryz.prog 11 #[.slice (some ⟨bl, ol, none⟩) ll c, .agg #[.string op, .int .i64 (i : Int), .int .i64 B, .string name, .slice sa zs.length sc, .string K, .int .i64 n, .slice da dl dc]] w fun e w' => (∃ a c, e = .returned (.tuple #[.slice a 2 c, .bool (decide (Sp.Rgt [x1, x0]))]) ∧ Sp.Sl w' a [x1, x0] ∧ Pe B0 w' a [x1, x0]) ∧ Below w.heap.size w w' := by
  have g_Param := isw_g f_Param
  have g_Input := isw_g f_Input
  have g_Const := isw_g f_Const
  have g_Matmul := isw_g f_Matmul
  have g_Transpose := isw_g f_Transpose
  have g_Sum := isw_g f_Sum
  have g_Scale := isw_g f_Scale
  have g_Power := isw_g f_Power
  have g_Reshape := isw_g f_Reshape
  have g_Spread := isw_g f_Spread
  clear f_Param f_Input f_Const f_Matmul f_Transpose f_Sum f_Scale f_Power f_Reshape f_Spread
  obtain ⟨r, hr⟩ : ∃ r, decide (Sp.Rgt [x1, x0]) = r := ⟨_, rfl⟩
  have HRt : Hid (∀ v a c, Sp.Sl v a [x1, x0] → Calls Tryz.prog 26 #[.slice a 2 c] v fun e w' => e = .returned (.bool r) ∧ w' = v) := fun v a c h => hr ▸ Sp.refRight_any a [x1, x0] c v (by simp) h
  have HPz : Hid (∀ v : World, Pz B0 (v.alloc (.cells #[.int .i64 x1, .int .i64 x0] 3)).drew (some ⟨v.heap.size, 0, none⟩)) := fun v => Pz.new (heap_alloc_new v _)
  have HSl : Hid (∀ v : World, Sp.Sl (v.alloc (.cells #[.int .i64 x1, .int .i64 x0] 3)).drew (some ⟨v.heap.size, 0, none⟩) [x1, x0]) := fun v => sl_two v _ _
  rw [hr]
  clear hr
  subst haa
  have hke : (K.toList == []) = true := emp_yes hk
  have hne : (name.toList == []) = true := emp_yes hn0
  clear hk hn0
  have HPt : Hid (∀ v, Calls Tryz.prog 24 #[.string op] v fun e w' => e = .returned (.int .i64 (1)) ∧ Below v.heap.size v w') := fun v => by
    have := refParts_any op v
    rw [hm] at this
    exact this
  clear hm
  go_enter Tryz.func11, Tryz.ntmps11
  go_wp2_with fail
  refine (HPt.out _).mono ?_
  rintro e w1 ⟨rfl, hB1⟩
  obtain ⟨o1, -, hBx⟩ := own1 hB1
  have q0 := o1 0
  have q1 := o1 1
  have q2 := o1 2
  have q3 := o1 3
  have q4 := o1 4
  have q5 := o1 5
  have q6 := o1 6
  have q7 := o1 7
  simp at q0 q1 q2 q3 q4 q5 q6 q7
  have HB1 : Hid (Below w.heap.size w w1) := hBx
  have kC := cell_below HB1.out hC
  clear hC
  have kX := cell_below HB1.out hX
  clear hX
  have kY := cell_below HB1.out hY
  clear hY
  have hBa : ∀ o, Below w.heap.size w (w1.alloc o).drew := fun o => (HB1.out.alloc HB1.out.size o).drew
  have HBa : Hid _ := hBa
  clear hBa
  obtain ⟨p, hp⟩ : ∃ p, w.heap.size = p := ⟨_, rfl⟩
  clear hB1 hBx o1 HPt
  simp only [hp] at q0 q1 q2 q3 q4 q5 q6 q7 ⊢
  have HP : Hid _ := hp
  clear hp
  go_upto_region 41 with fail
  go_region
  go_wp2_with fail
  refine (HRt.out _ _ _ (HSl.out _)).mono ?_
  rintro e w3 ⟨rfl, rfl⟩
  go_wp2
  go_ret2
  exact ⟨⟨_, _, rfl, HSl.out _, .inr (HPz.out _)⟩, HP.out ▸ HBa.out _⟩

set_option maxHeartbeats 1000000 in
theorem refShape_Matmul_yesq (B0 : Nat) (op name K : ByteArray) (i j : Nat) (n : Int) (zs : List Int) (sc dl dc ll c bl ol ac bc : Nat) (sa da aa ba : Option Addr) (x0 x1 y0 y1 : Int) (xb xo yb yo : Nat) (w : World) (hm : prv op = 2) (hi : i < ll) (hj : j < ll) (f_Param : isw op lParam = false) (f_Input : isw op lInput = false) (f_Const : isw op lConst = false) (f_Matmul : isw op lMatmul = true) (f_Transpose : isw op lTranspose = false) (f_Sum : isw op lSum = false) (f_Scale : isw op lScale = false) (f_Power : isw op lPower = false) (f_Reshape : isw op lReshape = false) (f_Spread : isw op lSpread = false) (hn0 : name.size = 0) (hk : K.size = 0) (hn : n = 0) (hd : dl = 0) (hC : w.cell? ⟨bl, ol + i * 8 + 4, none⟩ = some (.slice aa 2 ac)) (hD : w.cell? ⟨bl, ol + j * 8 + 4, none⟩ = some (.slice ba 2 bc)) (haa : aa = some ⟨xb, xo, none⟩) (hX : w.cell? ⟨xb, xo, none⟩ = some (.int .i64 x0)) (hY : w.cell? ⟨xb, xo + 1, none⟩ = some (.int .i64 x1)) (hba : ba = some ⟨yb, yo, none⟩) (hU : w.cell? ⟨yb, yo, none⟩ = some (.int .i64 y0)) (hV : w.cell? ⟨yb, yo + 1, none⟩ = some (.int .i64 y1)) (hxy : x1 = y0) : Calls Tryz.prog 11 #[.slice (some ⟨bl, ol, none⟩) ll c, .agg #[.string op, .int .i64 (i : Int), .int .i64 (j : Int), .string name, .slice sa zs.length sc, .string K, .int .i64 n, .slice da dl dc]] w fun e w' => (∃ a c, e = .returned (.tuple #[.slice a 2 c, .bool (decide (Sp.Rgt [x0, y1]))]) ∧ Sp.Sl w' a [x0, y1] ∧ Pe B0 w' a [x0, y1]) ∧ Below w.heap.size w w' := by
  have g_Param := isw_g f_Param
  have g_Input := isw_g f_Input
  have g_Const := isw_g f_Const
  have g_Matmul := isw_g f_Matmul
  have g_Transpose := isw_g f_Transpose
  have g_Sum := isw_g f_Sum
  have g_Scale := isw_g f_Scale
  have g_Power := isw_g f_Power
  have g_Reshape := isw_g f_Reshape
  have g_Spread := isw_g f_Spread
  clear f_Param f_Input f_Const f_Matmul f_Transpose f_Sum f_Scale f_Power f_Reshape f_Spread
  obtain ⟨r, hr⟩ : ∃ r, decide (Sp.Rgt [x0, y1]) = r := ⟨_, rfl⟩
  have HRt : Hid (∀ v a c, Sp.Sl v a [x0, y1] → Calls Tryz.prog 26 #[.slice a 2 c] v fun e w' => e = .returned (.bool r) ∧ w' = v) := fun v a c h => hr ▸ Sp.refRight_any a [x0, y1] c v (by simp) h
  have HPz : Hid (∀ v : World, Pz B0 (v.alloc (.cells #[.int .i64 x0, .int .i64 y1] 3)) (some ⟨v.heap.size, 0, none⟩)) := fun v => Pz.new (heap_alloc_new v _)
  have HSl : Hid (∀ v : World, Sp.Sl (v.alloc (.cells #[.int .i64 x0, .int .i64 y1] 3)) (some ⟨v.heap.size, 0, none⟩) [x0, y1]) := fun v => sl_two v _ _
  rw [hr]
  clear hr
  subst haa hba hxy
  have hke : (K.toList == []) = true := emp_yes hk
  have hne : (name.toList == []) = true := emp_yes hn0
  clear hk hn0
  have HPt : Hid (∀ v, Calls Tryz.prog 24 #[.string op] v fun e w' => e = .returned (.int .i64 (2)) ∧ Below v.heap.size v w') := fun v => by
    have := refParts_any op v
    rw [hm] at this
    exact this
  clear hm
  go_enter Tryz.func11, Tryz.ntmps11
  go_wp2_with fail
  refine (HPt.out _).mono ?_
  rintro e w1 ⟨rfl, hB1⟩
  obtain ⟨o1, -, hBx⟩ := own1 hB1
  have q0 := o1 0
  have q1 := o1 1
  have q2 := o1 2
  have q3 := o1 3
  have q4 := o1 4
  have q5 := o1 5
  have q6 := o1 6
  have q7 := o1 7
  simp at q0 q1 q2 q3 q4 q5 q6 q7
  have HB1 : Hid (Below w.heap.size w w1) := hBx
  have kC := cell_below HB1.out hC
  clear hC
  have kD := cell_below HB1.out hD
  clear hD
  have kX := cell_below HB1.out hX
  clear hX
  have kY := cell_below HB1.out hY
  clear hY
  have kU := cell_below HB1.out hU
  clear hU
  have kV := cell_below HB1.out hV
  clear hV
  have hBa : ∀ n o, Below w.heap.size w ((w1.drewN n).alloc o) := fun n o => (bl_n HB1.out n).alloc HB1.out.size o
  have HBa : Hid _ := hBa
  clear hBa
  obtain ⟨p, hp⟩ : ∃ p, w.heap.size = p := ⟨_, rfl⟩
  clear hB1 hBx o1 HPt
  simp only [hp] at q0 q1 q2 q3 q4 q5 q6 q7 ⊢
  have HP : Hid _ := hp
  clear hp
  go_upto_region 35 with fail
  go_quiet (fail)
  go_upto_region 37 with fail
  go_region
  go_wp2_with fail
  refine (HRt.out _ _ _ (HSl.out _)).mono ?_
  rintro e w3 ⟨rfl, rfl⟩
  go_wp2
  go_ret2
  exact ⟨⟨_, _, rfl, HSl.out _, .inr (HPz.out _)⟩, HP.out ▸ HBa.out _ _⟩

theorem refShape_goodq0 (B0 : Nat) (l : List Nd) (op name K : ByteArray) (A B n : Int) (zs : List Int) (data : List ByteArray) (sc dc c : Nat) (sa da ao : Option Addr) (w : World)
    (hm : prs op = some 0) (hp : pok 0 l.length A B = true) (hn : nok op name = true) (hf : fok ⟨op, A, B, name, zs, K, n, data⟩ = true)
    (hS : Sp.Sl w sa zs) (hPS : Pe B0 w sa zs) (hD : Row w da (txts data)) (hzs : zs.length ≤ 1000) (hns : name.size ≤ 20000) (hds : ∀ x ∈ data, x.size ≤ 20000) :
    Calls Tryz.prog 11 #[.slice ao l.length c, .agg #[.string op, .int .i64 A, .int .i64 B, .string name, .slice sa zs.length sc, .string K, .int .i64 n, .slice da data.length dc]] w fun e w' => Shq B0 w' (own ⟨op, A, B, name, zs, K, n, data⟩ [] []) e ∧ Below w.heap.size w w' := by
  have hv := prv_some hm
  rw [pok0] at hp
  simp only [Bool.and_eq_true, decide_eq_true_eq] at hp
  obtain ⟨hA, hB⟩ := hp
  rw [fok_iff] at hf
  obtain ⟨hk, hn', hd⟩ := hf
  simp only at hk hn' hd
  rcases cases_no hm with e | e | e
  · have ho : own ⟨op, A, B, name, zs, K, n, data⟩ [] [] = rgo zs := by simp [own, e, isw_str_eq]
    have hno : nok op name = nmb name := by rw [e]; rfl
    rw [hno] at hn
    have hk' : K.size = 0 := hk.resolve_left (by rw [e]; decide)
    have hn'' : n = 0 := hn'.resolve_left (by rw [e]; decide)
    have hd' : data.length = 0 := hd.resolve_left (by rw [e]; decide)
    rw [ho]
    refine (refShape_Param_yes op name K A B n zs sc _ dc _ c sa da ao w hv hA hB (by rw [e]; decide) (by rw [e]; decide) (by rw [e]; decide) (by rw [e]; decide) (by rw [e]; decide) (by rw [e]; decide) (by rw [e]; decide) (by rw [e]; decide) (by rw [e]; decide) (by rw [e]; decide) hns hn hk' hn'' hd' hzs hS).mono ?_
    rintro e w' ⟨he, hb⟩
    exact ⟨Shq.rgo he (sl_below hS hb) (hPS.below hb), hb⟩
  · have ho : own ⟨op, A, B, name, zs, K, n, data⟩ [] [] = rgo zs := by simp [own, e, isw_str_eq]
    have hno : nok op name = nmb name := by rw [e]; rfl
    rw [hno] at hn
    have hk' : K.size = 0 := hk.resolve_left (by rw [e]; decide)
    have hn'' : n = 0 := hn'.resolve_left (by rw [e]; decide)
    have hd' : data.length = 0 := hd.resolve_left (by rw [e]; decide)
    rw [ho]
    refine (refShape_Input_yes op name K A B n zs sc _ dc _ c sa da ao w hv hA hB (by rw [e]; decide) (by rw [e]; decide) (by rw [e]; decide) (by rw [e]; decide) (by rw [e]; decide) (by rw [e]; decide) (by rw [e]; decide) (by rw [e]; decide) (by rw [e]; decide) (by rw [e]; decide) hns hn hk' hn'' hd' hzs hS).mono ?_
    rintro e w' ⟨he, hb⟩
    exact ⟨Shq.rgo he (sl_below hS hb) (hPS.below hb), hb⟩
  · have ho : own ⟨op, A, B, name, zs, K, n, data⟩ [] [] = if Sp.Rgt zs ∧ data.length = Sp.szI zs ∧ data.all ra = true then some zs else none := by simp [own, e, isw_str_eq]
    have hno : nok op name = decide (name.size = 0) := by rw [e]; rfl
    rw [hno, decide_eq_true_eq] at hn
    have hk' : K.size = 0 := hk.resolve_left (by rw [e]; decide)
    have hn'' : n = 0 := hn'.resolve_left (by rw [e]; decide)
    rw [ho]
    by_cases hr : Sp.Rgt zs
    rotate_left
    · rw [if_neg fun c => hr c.1]
      exact refShape_Const_na op name K A B n zs data sc dc _ c sa da ao w hv hA hB (by rw [e]; decide) (by rw [e]; decide) (by rw [e]; decide) (by rw [e]; decide) (by rw [e]; decide) (by rw [e]; decide) (by rw [e]; decide) (by rw [e]; decide) (by rw [e]; decide) (by rw [e]; decide) hn hk' hn'' hzs hS hr
    by_cases he : data.length = Sp.szI zs
    rotate_left
    · rw [if_neg fun c => he c.2.1]
      exact refShape_Const_nb op name K A B n zs data sc dc _ c sa da ao w hv hA hB (by rw [e]; decide) (by rw [e]; decide) (by rw [e]; decide) (by rw [e]; decide) (by rw [e]; decide) (by rw [e]; decide) (by rw [e]; decide) (by rw [e]; decide) (by rw [e]; decide) (by rw [e]; decide) hn hk' hn'' hzs hS hr he
    refine (refShape_Const_any op name K A B n zs data sc dc _ c sa da ao w hv hA hB (by rw [e]; decide) (by rw [e]; decide) (by rw [e]; decide) (by rw [e]; decide) (by rw [e]; decide) (by rw [e]; decide) (by rw [e]; decide) (by rw [e]; decide) (by rw [e]; decide) (by rw [e]; decide) hn hk' hn'' hzs hS hr he hD (fun i hi => by
      rw [List.getD_eq_getElem?_getD, List.getElem?_eq_getElem hi]; exact hds _ (List.getElem_mem hi))).mono ?_
    rintro e w' ⟨he', hb⟩
    refine ⟨?_, hb⟩
    cases hal : data.all ra with
    | true =>
      rw [hal] at he'
      rw [if_pos ⟨hr, he, rfl⟩]
      exact ⟨sa, sc, he', sl_below hS hb, hPS.below hb⟩
    | false =>
      rw [hal] at he'
      rw [if_neg fun c => by have := c.2.2; cases this]
      exact he'

theorem refShape_goodq1 (B0 : Nat) (l : List Nd) (op name K : ByteArray) (i : Nat) (B n : Int) (zs xs : List Int) (data : List ByteArray) (sc dc c bl ol ac : Nat) (sa da aa : Option Addr) (w : World)
    (hm : prs op = some 1) (hi : i < l.length) (hB : B = 0) (hn0 : name.size = 0) (hf : fok ⟨op, i, B, name, zs, K, n, data⟩ = true)
    (hS : Sp.Sl w sa zs) (hPS : Pe B0 w sa zs) (hT : Sp.Sl w aa xs) (hPT : Pe B0 w aa xs) (hC : w.cell? ⟨bl, ol + i * 8 + 4, none⟩ = some (.slice aa xs.length ac)) (hzs : zs.length ≤ 1000) (hxs : xs.length ≤ 1000) (hks : K.size ≤ 20000) :
    Calls Tryz.prog 11 #[.slice (some ⟨bl, ol, none⟩) l.length c, .agg #[.string op, .int .i64 (i : Int), .int .i64 B, .string name, .slice sa zs.length sc, .string K, .int .i64 n, .slice da data.length dc]] w fun e w' => Shq B0 w' (own ⟨op, i, B, name, zs, K, n, data⟩ xs []) e ∧ Below w.heap.size w w' := by
  have hv := prv_some hm
  rw [fok_iff] at hf
  obtain ⟨hk, hn', hd⟩ := hf
  simp only at hk hn' hd
  have hd' : data.length = 0 := hd.resolve_left (by rw [(one_no hm).2.2]; decide)
  rcases cases_one hm with e | e | e | e | e | e | e | e | e | e
  · have ho : own ⟨op, i, B, name, zs, K, n, data⟩ xs [] = rgo xs := by simp [own, e, isw_str_eq]
    have hk' : K.size = 0 := hk.resolve_left (by rw [e]; decide)
    have hn'' : n = 0 := hn'.resolve_left (by rw [e]; decide)
    rw [ho]
    refine (refShape_O1_yes op name K i B n zs xs sc _ dc _ c bl ol ac sa da aa w hv hi hB (by rw [e]; decide) (by rw [e]; decide) (by rw [e]; decide) (by rw [e]; decide) (by rw [e]; decide) (by rw [e]; decide) (by rw [e]; decide) (by rw [e]; decide) (by rw [e]; decide) (by rw [e]; decide) hn0 hk' hn'' hd' hxs hT hC).mono ?_
    rintro e w' ⟨he, hb⟩
    exact ⟨Shq.rgo he (sl_below hT hb) (hPT.below hb), hb⟩
  · have ho : own ⟨op, i, B, name, zs, K, n, data⟩ xs [] = rgo xs := by simp [own, e, isw_str_eq]
    have hk' : K.size = 0 := hk.resolve_left (by rw [e]; decide)
    have hn'' : n = 0 := hn'.resolve_left (by rw [e]; decide)
    rw [ho]
    refine (refShape_O1_yes op name K i B n zs xs sc _ dc _ c bl ol ac sa da aa w hv hi hB (by rw [e]; decide) (by rw [e]; decide) (by rw [e]; decide) (by rw [e]; decide) (by rw [e]; decide) (by rw [e]; decide) (by rw [e]; decide) (by rw [e]; decide) (by rw [e]; decide) (by rw [e]; decide) hn0 hk' hn'' hd' hxs hT hC).mono ?_
    rintro e w' ⟨he, hb⟩
    exact ⟨Shq.rgo he (sl_below hT hb) (hPT.below hb), hb⟩
  · have ho : own ⟨op, i, B, name, zs, K, n, data⟩ xs [] = rgo xs := by simp [own, e, isw_str_eq]
    have hk' : K.size = 0 := hk.resolve_left (by rw [e]; decide)
    have hn'' : n = 0 := hn'.resolve_left (by rw [e]; decide)
    rw [ho]
    refine (refShape_O1_yes op name K i B n zs xs sc _ dc _ c bl ol ac sa da aa w hv hi hB (by rw [e]; decide) (by rw [e]; decide) (by rw [e]; decide) (by rw [e]; decide) (by rw [e]; decide) (by rw [e]; decide) (by rw [e]; decide) (by rw [e]; decide) (by rw [e]; decide) (by rw [e]; decide) hn0 hk' hn'' hd' hxs hT hC).mono ?_
    rintro e w' ⟨he, hb⟩
    exact ⟨Shq.rgo he (sl_below hT hb) (hPT.below hb), hb⟩
  · have ho : own ⟨op, i, B, name, zs, K, n, data⟩ xs [] = rgo xs := by simp [own, e, isw_str_eq]
    have hk' : K.size = 0 := hk.resolve_left (by rw [e]; decide)
    have hn'' : n = 0 := hn'.resolve_left (by rw [e]; decide)
    rw [ho]
    refine (refShape_O1_yes op name K i B n zs xs sc _ dc _ c bl ol ac sa da aa w hv hi hB (by rw [e]; decide) (by rw [e]; decide) (by rw [e]; decide) (by rw [e]; decide) (by rw [e]; decide) (by rw [e]; decide) (by rw [e]; decide) (by rw [e]; decide) (by rw [e]; decide) (by rw [e]; decide) hn0 hk' hn'' hd' hxs hT hC).mono ?_
    rintro e w' ⟨he, hb⟩
    exact ⟨Shq.rgo he (sl_below hT hb) (hPT.below hb), hb⟩
  · have ho : own ⟨op, i, B, name, zs, K, n, data⟩ xs [] = if ra K = true then rgo xs else none := by simp [own, e, isw_str_eq]
    have hn'' : n = 0 := hn'.resolve_left (by rw [e]; decide)
    rw [ho]
    cases hra : ra K with
    | true =>
      rw [if_pos rfl]
      refine (refShape_Scale_yes op name K i B n zs xs sc _ dc _ c bl ol ac sa da aa w hv hi hB (by rw [e]; decide) (by rw [e]; decide) (by rw [e]; decide) (by rw [e]; decide) (by rw [e]; decide) (by rw [e]; decide) (by rw [e]; decide) (by rw [e]; decide) (by rw [e]; decide) (by rw [e]; decide) hn0 hn'' hd' hks hra hxs hT hC).mono ?_
      rintro e w' ⟨he, hb⟩
      exact ⟨Shq.rgo he (sl_below hT hb) (hPT.below hb), hb⟩
    | false =>
      rw [if_neg (by decide)]
      exact refShape_Scale_no op name K i B n zs xs sc _ dc _ c bl ol ac sa da aa w hv hi hB (by rw [e]; decide) (by rw [e]; decide) (by rw [e]; decide) (by rw [e]; decide) (by rw [e]; decide) (by rw [e]; decide) (by rw [e]; decide) (by rw [e]; decide) (by rw [e]; decide) (by rw [e]; decide) hn0 hn'' hd' hks hra hC
  · have ho : own ⟨op, i, B, name, zs, K, n, data⟩ xs [] = if 0 ≤ n ∧ n ≤ 6 then rgo xs else none := by simp [own, e, isw_str_eq]
    have hk' : K.size = 0 := hk.resolve_left (by rw [e]; decide)
    rw [ho]
    by_cases h0 : n < 0
    · rw [if_neg (by omega)]
      exact refShape_Power_na op name K i B n zs xs sc _ dc _ c bl ol ac sa da aa w hv hi hB (by rw [e]; decide) (by rw [e]; decide) (by rw [e]; decide) (by rw [e]; decide) (by rw [e]; decide) (by rw [e]; decide) (by rw [e]; decide) (by rw [e]; decide) (by rw [e]; decide) (by rw [e]; decide) hn0 hk' hd' h0 hC
    by_cases h6 : 6 < n
    · rw [if_neg (by omega)]
      exact refShape_Power_nb op name K i B n zs xs sc _ dc _ c bl ol ac sa da aa w hv hi hB (by rw [e]; decide) (by rw [e]; decide) (by rw [e]; decide) (by rw [e]; decide) (by rw [e]; decide) (by rw [e]; decide) (by rw [e]; decide) (by rw [e]; decide) (by rw [e]; decide) (by rw [e]; decide) hn0 hk' hd' h0 h6 hC
    rw [if_pos (by omega)]
    refine (refShape_Power_yes op name K i B n zs xs sc _ dc _ c bl ol ac sa da aa w hv hi hB (by rw [e]; decide) (by rw [e]; decide) (by rw [e]; decide) (by rw [e]; decide) (by rw [e]; decide) (by rw [e]; decide) (by rw [e]; decide) (by rw [e]; decide) (by rw [e]; decide) (by rw [e]; decide) hn0 hk' hd' h0 h6 hxs hT hC).mono ?_
    rintro e w' ⟨he, hb⟩
    exact ⟨Shq.rgo he (sl_below hT hb) (hPT.below hb), hb⟩
  · have ho : own ⟨op, i, B, name, zs, K, n, data⟩ xs [] = if xs.length = 2 then rgo [xs.getD 1 0, xs.getD 0 0] else none := by simp [own, e, isw_str_eq]
    have hk' : K.size = 0 := hk.resolve_left (by rw [e]; decide)
    have hn'' : n = 0 := hn'.resolve_left (by rw [e]; decide)
    rw [ho]
    by_cases h2 : xs.length = 2
    rotate_left
    · rw [if_neg h2]
      exact refShape_Transpose_no op name K i B n zs sc _ dc _ c bl ol ac _ sa da aa w hv hi hB (by rw [e]; decide) (by rw [e]; decide) (by rw [e]; decide) (by rw [e]; decide) (by rw [e]; decide) (by rw [e]; decide) (by rw [e]; decide) (by rw [e]; decide) (by rw [e]; decide) (by rw [e]; decide) hn0 hk' hn'' hd' h2 hC
    rw [if_pos h2]
    obtain ⟨x0, x1, rfl⟩ := len_two h2
    obtain ⟨xb, xo, haa, hX, hY⟩ := sl_list2 hT
    refine (refShape_Transpose_yesq B0 op name K i B n zs sc _ dc _ c bl ol ac sa da aa x0 x1 xb xo w hv hi hB (by rw [e]; decide) (by rw [e]; decide) (by rw [e]; decide) (by rw [e]; decide) (by rw [e]; decide) (by rw [e]; decide) (by rw [e]; decide) (by rw [e]; decide) (by rw [e]; decide) (by rw [e]; decide) hn0 hk' hn'' hd' hC haa hX hY).mono ?_
    rintro e w' ⟨⟨a, c', he, hs, hp⟩, hb⟩
    exact ⟨Shq.rgo he hs hp, hb⟩
  · have ho : own ⟨op, i, B, name, zs, K, n, data⟩ xs [] = some [] := by simp [own, e, isw_str_eq]
    have hk' : K.size = 0 := hk.resolve_left (by rw [e]; decide)
    have hn'' : n = 0 := hn'.resolve_left (by rw [e]; decide)
    rw [ho]
    refine (refShape_Sum_yes op name K i B n zs sc _ dc _ c bl ol ac _ sa da aa w hv hi hB (by rw [e]; decide) (by rw [e]; decide) (by rw [e]; decide) (by rw [e]; decide) (by rw [e]; decide) (by rw [e]; decide) (by rw [e]; decide) (by rw [e]; decide) (by rw [e]; decide) (by rw [e]; decide) hn0 hk' hn'' hd' hC).mono ?_
    rintro e w' ⟨⟨a, c', he⟩, hb⟩
    exact ⟨⟨a, c', he, Sp.Sl.nil _ _, .inl rfl⟩, hb⟩
  · have ho : own ⟨op, i, B, name, zs, K, n, data⟩ xs [] = if Sp.Rgt zs ∧ Sp.Rgt xs ∧ Sp.szI zs = Sp.szI xs then some zs else none := by simp [own, e, isw_str_eq]
    have hk' : K.size = 0 := hk.resolve_left (by rw [e]; decide)
    have hn'' : n = 0 := hn'.resolve_left (by rw [e]; decide)
    rw [ho]
    by_cases hr : Sp.Rgt zs
    rotate_left
    · rw [if_neg fun c => hr c.1]
      exact refShape_Reshape_na op name K i B n zs xs sc _ dc _ c bl ol ac sa da aa w hv hi hB (by rw [e]; decide) (by rw [e]; decide) (by rw [e]; decide) (by rw [e]; decide) (by rw [e]; decide) (by rw [e]; decide) (by rw [e]; decide) (by rw [e]; decide) (by rw [e]; decide) (by rw [e]; decide) hn0 hk' hn'' hd' hzs hxs hS hT hC hr
    by_cases hq : Sp.Rgt xs
    rotate_left
    · rw [if_neg fun c => hq c.2.1]
      exact refShape_Reshape_nb op name K i B n zs xs sc _ dc _ c bl ol ac sa da aa w hv hi hB (by rw [e]; decide) (by rw [e]; decide) (by rw [e]; decide) (by rw [e]; decide) (by rw [e]; decide) (by rw [e]; decide) (by rw [e]; decide) (by rw [e]; decide) (by rw [e]; decide) (by rw [e]; decide) hn0 hk' hn'' hd' hzs hxs hS hT hC hr hq
    by_cases he : Sp.szI zs = Sp.szI xs
    rotate_left
    · rw [if_neg fun c => he c.2.2]
      exact refShape_Reshape_nc op name K i B n zs xs sc _ dc _ c bl ol ac sa da aa w hv hi hB (by rw [e]; decide) (by rw [e]; decide) (by rw [e]; decide) (by rw [e]; decide) (by rw [e]; decide) (by rw [e]; decide) (by rw [e]; decide) (by rw [e]; decide) (by rw [e]; decide) (by rw [e]; decide) hn0 hk' hn'' hd' hzs hxs hS hT hC hr hq he
    rw [if_pos ⟨hr, hq, he⟩, ← rgo_of hr]
    refine (refShape_Reshape_yes op name K i B n zs xs sc _ dc _ c bl ol ac sa da aa w hv hi hB (by rw [e]; decide) (by rw [e]; decide) (by rw [e]; decide) (by rw [e]; decide) (by rw [e]; decide) (by rw [e]; decide) (by rw [e]; decide) (by rw [e]; decide) (by rw [e]; decide) (by rw [e]; decide) hn0 hk' hn'' hd' hzs hxs hS hT hC hr hq he).mono ?_
    rintro e w' ⟨he, hb⟩
    exact ⟨Shq.rgo he (sl_below hS hb) (hPS.below hb), hb⟩
  · have ho : own ⟨op, i, B, name, zs, K, n, data⟩ xs [] = if xs.length = 0 then rgo zs else none := by simp [own, e, isw_str_eq]
    have hk' : K.size = 0 := hk.resolve_left (by rw [e]; decide)
    have hn'' : n = 0 := hn'.resolve_left (by rw [e]; decide)
    rw [ho]
    by_cases h0 : xs.length = 0
    rotate_left
    · rw [if_neg h0]
      exact refShape_Spread_no op name K i B n zs sc _ dc _ c bl ol ac _ sa da aa w hv hi hB (by rw [e]; decide) (by rw [e]; decide) (by rw [e]; decide) (by rw [e]; decide) (by rw [e]; decide) (by rw [e]; decide) (by rw [e]; decide) (by rw [e]; decide) (by rw [e]; decide) (by rw [e]; decide) hn0 hk' hn'' hd' h0 hC
    rw [if_pos h0]
    refine (refShape_Spread_yes op name K i B n zs sc _ dc _ c bl ol ac _ sa da aa w hv hi hB (by rw [e]; decide) (by rw [e]; decide) (by rw [e]; decide) (by rw [e]; decide) (by rw [e]; decide) (by rw [e]; decide) (by rw [e]; decide) (by rw [e]; decide) (by rw [e]; decide) (by rw [e]; decide) hn0 hk' hn'' hd' h0 hzs hS hC).mono ?_
    rintro e w' ⟨he, hb⟩
    exact ⟨Shq.rgo he (sl_below hS hb) (hPS.below hb), hb⟩

theorem refShape_goodq2 (B0 : Nat) (l : List Nd) (op name K : ByteArray) (i j : Nat) (n : Int) (zs xs ys : List Int) (data : List ByteArray) (sc dc c bl ol ac bc : Nat) (sa da aa ba : Option Addr) (w : World)
    (hm : prs op = some 2) (hi : i < l.length) (hj : j < l.length) (hn0 : name.size = 0) (hf : fok ⟨op, i, j, name, zs, K, n, data⟩ = true)
    (hT : Sp.Sl w aa xs) (hPT : Pe B0 w aa xs) (hU : Sp.Sl w ba ys) (hC : w.cell? ⟨bl, ol + i * 8 + 4, none⟩ = some (.slice aa xs.length ac)) (hD : w.cell? ⟨bl, ol + j * 8 + 4, none⟩ = some (.slice ba ys.length bc)) (hxs : xs.length ≤ 1000) (hys : ys.length ≤ 1000) :
    Calls Tryz.prog 11 #[.slice (some ⟨bl, ol, none⟩) l.length c, .agg #[.string op, .int .i64 (i : Int), .int .i64 (j : Int), .string name, .slice sa zs.length sc, .string K, .int .i64 n, .slice da data.length dc]] w fun e w' => Shq B0 w' (own ⟨op, i, j, name, zs, K, n, data⟩ xs ys) e ∧ Below w.heap.size w w' := by
  have hv := prv_some hm
  rw [fok_iff] at hf
  obtain ⟨hk, hn', hd⟩ := hf
  simp only at hk hn' hd
  obtain ⟨_, _, f3, f4, f5⟩ := two_no hm
  have hk' : K.size = 0 := hk.resolve_left (by rw [f4]; decide)
  have hn'' : n = 0 := hn'.resolve_left (by rw [f5]; decide)
  have hd' : data.length = 0 := hd.resolve_left (by rw [f3]; decide)
  rcases cases_two hm with e | e | e | e | e | e
  · have ho : own ⟨op, i, j, name, zs, K, n, data⟩ xs ys = if xs = ys then rgo xs else none := by simp [own, e, isw_str_eq]
    rw [ho]
    by_cases hxy : xs = ys
    rotate_left
    · rw [if_neg hxy]
      exact refShape_O2_no op name K i j n zs xs ys sc _ dc _ c bl ol ac bc sa da aa ba w hv hi hj (by rw [e]; decide) (by rw [e]; decide) (by rw [e]; decide) (by rw [e]; decide) (by rw [e]; decide) (by rw [e]; decide) (by rw [e]; decide) (by rw [e]; decide) (by rw [e]; decide) (by rw [e]; decide) hn0 hk' hn'' hd' hxs hys hT hU hC hD hxy
    rw [if_pos hxy]
    refine (refShape_O2_yes op name K i j n zs xs ys sc _ dc _ c bl ol ac bc sa da aa ba w hv hi hj (by rw [e]; decide) (by rw [e]; decide) (by rw [e]; decide) (by rw [e]; decide) (by rw [e]; decide) (by rw [e]; decide) (by rw [e]; decide) (by rw [e]; decide) (by rw [e]; decide) (by rw [e]; decide) hn0 hk' hn'' hd' hxs hys hT hU hC hD hxy).mono ?_
    rintro e w' ⟨he, hb⟩
    exact ⟨Shq.rgo he (sl_below hT hb) (hPT.below hb), hb⟩
  · have ho : own ⟨op, i, j, name, zs, K, n, data⟩ xs ys = if xs = ys then rgo xs else none := by simp [own, e, isw_str_eq]
    rw [ho]
    by_cases hxy : xs = ys
    rotate_left
    · rw [if_neg hxy]
      exact refShape_O2_no op name K i j n zs xs ys sc _ dc _ c bl ol ac bc sa da aa ba w hv hi hj (by rw [e]; decide) (by rw [e]; decide) (by rw [e]; decide) (by rw [e]; decide) (by rw [e]; decide) (by rw [e]; decide) (by rw [e]; decide) (by rw [e]; decide) (by rw [e]; decide) (by rw [e]; decide) hn0 hk' hn'' hd' hxs hys hT hU hC hD hxy
    rw [if_pos hxy]
    refine (refShape_O2_yes op name K i j n zs xs ys sc _ dc _ c bl ol ac bc sa da aa ba w hv hi hj (by rw [e]; decide) (by rw [e]; decide) (by rw [e]; decide) (by rw [e]; decide) (by rw [e]; decide) (by rw [e]; decide) (by rw [e]; decide) (by rw [e]; decide) (by rw [e]; decide) (by rw [e]; decide) hn0 hk' hn'' hd' hxs hys hT hU hC hD hxy).mono ?_
    rintro e w' ⟨he, hb⟩
    exact ⟨Shq.rgo he (sl_below hT hb) (hPT.below hb), hb⟩
  · have ho : own ⟨op, i, j, name, zs, K, n, data⟩ xs ys = if xs = ys then rgo xs else none := by simp [own, e, isw_str_eq]
    rw [ho]
    by_cases hxy : xs = ys
    rotate_left
    · rw [if_neg hxy]
      exact refShape_O2_no op name K i j n zs xs ys sc _ dc _ c bl ol ac bc sa da aa ba w hv hi hj (by rw [e]; decide) (by rw [e]; decide) (by rw [e]; decide) (by rw [e]; decide) (by rw [e]; decide) (by rw [e]; decide) (by rw [e]; decide) (by rw [e]; decide) (by rw [e]; decide) (by rw [e]; decide) hn0 hk' hn'' hd' hxs hys hT hU hC hD hxy
    rw [if_pos hxy]
    refine (refShape_O2_yes op name K i j n zs xs ys sc _ dc _ c bl ol ac bc sa da aa ba w hv hi hj (by rw [e]; decide) (by rw [e]; decide) (by rw [e]; decide) (by rw [e]; decide) (by rw [e]; decide) (by rw [e]; decide) (by rw [e]; decide) (by rw [e]; decide) (by rw [e]; decide) (by rw [e]; decide) hn0 hk' hn'' hd' hxs hys hT hU hC hD hxy).mono ?_
    rintro e w' ⟨he, hb⟩
    exact ⟨Shq.rgo he (sl_below hT hb) (hPT.below hb), hb⟩
  · have ho : own ⟨op, i, j, name, zs, K, n, data⟩ xs ys = if xs = ys then rgo xs else none := by simp [own, e, isw_str_eq]
    rw [ho]
    by_cases hxy : xs = ys
    rotate_left
    · rw [if_neg hxy]
      exact refShape_O2_no op name K i j n zs xs ys sc _ dc _ c bl ol ac bc sa da aa ba w hv hi hj (by rw [e]; decide) (by rw [e]; decide) (by rw [e]; decide) (by rw [e]; decide) (by rw [e]; decide) (by rw [e]; decide) (by rw [e]; decide) (by rw [e]; decide) (by rw [e]; decide) (by rw [e]; decide) hn0 hk' hn'' hd' hxs hys hT hU hC hD hxy
    rw [if_pos hxy]
    refine (refShape_O2_yes op name K i j n zs xs ys sc _ dc _ c bl ol ac bc sa da aa ba w hv hi hj (by rw [e]; decide) (by rw [e]; decide) (by rw [e]; decide) (by rw [e]; decide) (by rw [e]; decide) (by rw [e]; decide) (by rw [e]; decide) (by rw [e]; decide) (by rw [e]; decide) (by rw [e]; decide) hn0 hk' hn'' hd' hxs hys hT hU hC hD hxy).mono ?_
    rintro e w' ⟨he, hb⟩
    exact ⟨Shq.rgo he (sl_below hT hb) (hPT.below hb), hb⟩
  · have ho : own ⟨op, i, j, name, zs, K, n, data⟩ xs ys = if xs = ys then rgo xs else none := by simp [own, e, isw_str_eq]
    rw [ho]
    by_cases hxy : xs = ys
    rotate_left
    · rw [if_neg hxy]
      exact refShape_O2_no op name K i j n zs xs ys sc _ dc _ c bl ol ac bc sa da aa ba w hv hi hj (by rw [e]; decide) (by rw [e]; decide) (by rw [e]; decide) (by rw [e]; decide) (by rw [e]; decide) (by rw [e]; decide) (by rw [e]; decide) (by rw [e]; decide) (by rw [e]; decide) (by rw [e]; decide) hn0 hk' hn'' hd' hxs hys hT hU hC hD hxy
    rw [if_pos hxy]
    refine (refShape_O2_yes op name K i j n zs xs ys sc _ dc _ c bl ol ac bc sa da aa ba w hv hi hj (by rw [e]; decide) (by rw [e]; decide) (by rw [e]; decide) (by rw [e]; decide) (by rw [e]; decide) (by rw [e]; decide) (by rw [e]; decide) (by rw [e]; decide) (by rw [e]; decide) (by rw [e]; decide) hn0 hk' hn'' hd' hxs hys hT hU hC hD hxy).mono ?_
    rintro e w' ⟨he, hb⟩
    exact ⟨Shq.rgo he (sl_below hT hb) (hPT.below hb), hb⟩
  · have ho : own ⟨op, i, j, name, zs, K, n, data⟩ xs ys = if xs.length = 2 ∧ ys.length = 2 ∧ xs.getD 1 0 = ys.getD 0 0 then rgo [xs.getD 0 0, ys.getD 1 0] else none := by simp [own, e, isw_str_eq]
    rw [ho]
    by_cases h2 : xs.length = 2
    rotate_left
    · rw [if_neg fun c => h2 c.1]
      exact refShape_Matmul_na op name K i j n zs sc _ dc _ c bl ol ac bc _ _ sa da aa ba w hv hi hj (by rw [e]; decide) (by rw [e]; decide) (by rw [e]; decide) (by rw [e]; decide) (by rw [e]; decide) (by rw [e]; decide) (by rw [e]; decide) (by rw [e]; decide) (by rw [e]; decide) (by rw [e]; decide) hn0 hk' hn'' hd' h2 hC hD
    obtain ⟨x0, x1, rfl⟩ := len_two h2
    by_cases h3 : ys.length = 2
    rotate_left
    · rw [if_neg fun c => h3 c.2.1]
      exact refShape_Matmul_nb op name K i j n zs sc _ dc _ c bl ol ac bc _ sa da aa ba w hv hi hj (by rw [e]; decide) (by rw [e]; decide) (by rw [e]; decide) (by rw [e]; decide) (by rw [e]; decide) (by rw [e]; decide) (by rw [e]; decide) (by rw [e]; decide) (by rw [e]; decide) (by rw [e]; decide) hn0 hk' hn'' hd' h3 hC hD
    obtain ⟨y0, y1, rfl⟩ := len_two h3
    obtain ⟨xb, xo, haa, hX, hY⟩ := sl_list2 hT
    obtain ⟨yb, yo, hba, hZ, hV⟩ := sl_list2 hU
    by_cases hxy : x1 = y0
    rotate_left
    · rw [if_neg fun c => hxy c.2.2]
      exact refShape_Matmul_nc op name K i j n zs sc _ dc _ c bl ol ac bc sa da aa ba x0 x1 y0 y1 xb xo yb yo w hv hi hj (by rw [e]; decide) (by rw [e]; decide) (by rw [e]; decide) (by rw [e]; decide) (by rw [e]; decide) (by rw [e]; decide) (by rw [e]; decide) (by rw [e]; decide) (by rw [e]; decide) (by rw [e]; decide) hn0 hk' hn'' hd' hC hD haa hX hY hba hZ hV hxy
    rw [if_pos ⟨h2, h3, hxy⟩]
    refine (refShape_Matmul_yesq B0 op name K i j n zs sc _ dc _ c bl ol ac bc sa da aa ba x0 x1 y0 y1 xb xo yb yo w hv hi hj (by rw [e]; decide) (by rw [e]; decide) (by rw [e]; decide) (by rw [e]; decide) (by rw [e]; decide) (by rw [e]; decide) (by rw [e]; decide) (by rw [e]; decide) (by rw [e]; decide) (by rw [e]; decide) hn0 hk' hn'' hd' hC hD haa hX hY hba hZ hV hxy).mono ?_
    rintro e w' ⟨⟨a, c', he, hs, hp⟩, hb⟩
    exact ⟨Shq.rgo he hs hp, hb⟩

/-- the document's Shape of any node behind any nodes -/
theorem refShape_src (B0 : Nat) (l : List Nd) (nd : Nd) (sc dc c : Nat) (sa da ao : Option Addr) (w : World) (hl : Nl w ao l) (hS : Sp.Sl w sa nd.shape) (hPS : Pe B0 w sa nd.shape) (hPl : ∀ i bl ol aa ac, i < l.length → ao = some ⟨bl, ol, none⟩ → w.cell? ⟨bl, ol + i * 8 + 4, none⟩ = some (.slice aa (l.getD i zn).shape.length ac) → Pe B0 w aa (l.getD i zn).shape) (hD : Row w da (txts nd.data)) (hb : Nb nd) (hls : ∀ i, i < l.length → (l.getD i zn).shape.length ≤ 1000) :
    Calls Tryz.prog 11 #[.slice ao l.length c, nv nd sa sc da dc] w fun e w' => Shq B0 w' (shp l nd) e ∧ Below w.heap.size w w' := by
  obtain ⟨op, A, B, name, zs, K, n, data⟩ := nd
  obtain ⟨hzs, hdl, hks, hns, hds⟩ := hb
  simp only at hS hPS hD hzs hdl hks hns hds
  cases hm : prs op with
  | none =>
    have e : shp l ⟨op, A, B, name, zs, K, n, data⟩ = none := by unfold shp; simp only [hm]
    rw [e]
    exact refShape_badq B0 l op name K A B n zs data sc dc c sa da ao w hns (fun m h => by rw [hm] at h; cases h)
  | some m =>
    by_cases hc : pok m l.length A B = true ∧ nok op name = true ∧ fok ⟨op, A, B, name, zs, K, n, data⟩ = true
    rotate_left
    · have e : shp l ⟨op, A, B, name, zs, K, n, data⟩ = none := by unfold shp; simp only [hm]; rw [if_neg hc]
      rw [e]
      exact refShape_badq B0 l op name K A B n zs data sc dc c sa da ao w hns (fun m' h => by rw [hm] at h; cases h; exact hc)
    · have e : shp l ⟨op, A, B, name, zs, K, n, data⟩ = own ⟨op, A, B, name, zs, K, n, data⟩ (if 0 < m then sha l A else []) (if 1 < m then sha l B else []) := by unfold shp; simp only [hm]; rw [if_pos hc]
      rw [e]
      obtain ⟨h1, h2, h3⟩ := hc
      rcases prs_le hm with rfl | rfl | rfl
      · exact refShape_goodq0 B0 l op name K A B n zs data sc dc c sa da ao w hm h1 h2 h3 hS hPS hD hzs hns hds
      · rw [(nok_one (name := name) hm (by omega)).1, decide_eq_true_eq] at h2
        rw [pok1, Bool.and_eq_true, decide_eq_true_eq, inl_iff] at h1
        obtain ⟨i, rfl⟩ : ∃ i : Nat, A = i := ⟨A.toNat, by omega⟩
        have hi : i < l.length := by omega
        obtain ⟨bl, ol, aa, ac, rfl, hC, hT⟩ := hl.shape hi
        have es : sha l (i : Int) = (l.getD i zn).shape := rfl
        rw [if_pos (by omega), if_neg (by omega), es]
        exact refShape_goodq1 B0 l op name K i B n zs _ data sc dc c bl ol ac sa da aa w hm hi h1.1 h2 h3 hS hPS hT (hPl i bl ol aa ac hi rfl hC) hC hzs (hls i hi) hks
      · rw [(nok_one (name := name) hm (by omega)).1, decide_eq_true_eq] at h2
        rw [pok2, Bool.and_eq_true, inl_iff, inl_iff] at h1
        obtain ⟨i, rfl⟩ : ∃ i : Nat, A = i := ⟨A.toNat, by omega⟩
        obtain ⟨j, rfl⟩ : ∃ j : Nat, B = j := ⟨B.toNat, by omega⟩
        have hi : i < l.length := by omega
        have hj : j < l.length := by omega
        obtain ⟨bl, ol, aa, ac, rfl, hC, hT⟩ := hl.shape hi
        obtain ⟨bl', ol', ba, bc, e', hD', hU⟩ := hl.shape hj
        simp only [Option.some.injEq, Addr.mk.injEq, and_true] at e'
        obtain ⟨rfl, rfl⟩ := e'
        have es : sha l (i : Int) = (l.getD i zn).shape := rfl
        have es2 : sha l (j : Int) = (l.getD j zn).shape := rfl
        rw [if_pos (by omega), if_pos (by omega), es, es2]
        exact refShape_goodq2 B0 l op name K i j n zs _ _ data sc dc c bl ol ac bc sa da aa ba w hm hi hj h2 h3 hT (hPl i bl ol aa ac hi rfl hC) hU hC hD' (hls i hi) (hls j hj)
end Go.Proofs.YtadgnafafdfioaaGreatDoor.Gr
