/-
  WHAT THE DOCUMENT's Shape GIVES, case by case. Conditions: each theorem's own.
-/
import Derived.Test.YtadgnafafdfioaaGreatDoorGX
import Derived.Deep.Cut
namespace Go.Proofs.YtadgnafafdfioaaGreatDoor.Gr
open Go.Proofs.YtadgnafafdfioaaGreatDoor.Rd
set_option maxRecDepth 100000
open Go.RowKit
set_option linter.unusedVariables false
set_option linter.unusedSimpArgs false



set_option maxHeartbeats 1000000 in
theorem refShape_op (op name K : ByteArray) (A B n : Int) (sl sc dl dc ll c : Nat) (sa da ao : Option Addr) (w : World) (hm : prv op = -1)  : Calls Tryz.prog 11 #[.slice ao ll c, .agg #[.string op, .int .i64 A, .int .i64 B, .string name, .slice sa sl sc, .string K, .int .i64 n, .slice da dl dc]] w fun e w' => (∃ a n c, e = .returned (.tuple #[.slice a n c, .bool false])) ∧ Below w.heap.size w w' := by
  have HPt : Hid (∀ v, Calls Tryz.prog 24 #[.string op] v fun e w' => e = .returned (.int .i64 (-1)) ∧ Below v.heap.size v w') := fun v => by
    have := refParts_any op v
    rw [hm] at this
    exact this
  clear hm
  go_enter Tryz.func11, Tryz.ntmps11
  go_wp2_with fail
  refine (HPt.out _).mono ?_
  rintro e w1 ⟨rfl, hB1⟩
  obtain ⟨o1, -, hBx⟩ := own1 hB1
  have q0 := o1 0
  have q1 := o1 1
  have q2 := o1 2
  have q3 := o1 3
  have q4 := o1 4
  have q5 := o1 5
  have q6 := o1 6
  have q7 := o1 7
  simp at q0 q1 q2 q3 q4 q5 q6 q7
  have HB1 : Hid (Below w.heap.size w w1) := hBx
  obtain ⟨p, hp⟩ : ∃ p, w.heap.size = p := ⟨_, rfl⟩
  clear hB1 hBx o1 HPt
  simp only [hp] at q0 q1 q2 q3 q4 q5 q6 q7 ⊢
  have HP : Hid _ := hp
  clear hp
  go_wp2
  go_ret2
  exact ⟨⟨_, _, _, rfl⟩, HP.out ▸ HB1.out⟩

set_option maxHeartbeats 1000000 in
theorem refShape_0a (op name K : ByteArray) (A B n : Int) (sl sc dl dc ll c : Nat) (sa da ao : Option Addr) (w : World) (hm : prv op = 0) (hA : ¬ A = 0) : Calls Tryz.prog 11 #[.slice ao ll c, .agg #[.string op, .int .i64 A, .int .i64 B, .string name, .slice sa sl sc, .string K, .int .i64 n, .slice da dl dc]] w fun e w' => (∃ a n c, e = .returned (.tuple #[.slice a n c, .bool false])) ∧ Below w.heap.size w w' := by
  have HPt : Hid (∀ v, Calls Tryz.prog 24 #[.string op] v fun e w' => e = .returned (.int .i64 (0)) ∧ Below v.heap.size v w') := fun v => by
    have := refParts_any op v
    rw [hm] at this
    exact this
  clear hm
  go_enter Tryz.func11, Tryz.ntmps11
  go_wp2_with fail
  refine (HPt.out _).mono ?_
  rintro e w1 ⟨rfl, hB1⟩
  obtain ⟨o1, -, hBx⟩ := own1 hB1
  have q0 := o1 0
  have q1 := o1 1
  have q2 := o1 2
  have q3 := o1 3
  have q4 := o1 4
  have q5 := o1 5
  have q6 := o1 6
  have q7 := o1 7
  simp at q0 q1 q2 q3 q4 q5 q6 q7
  have HB1 : Hid (Below w.heap.size w w1) := hBx
  obtain ⟨p, hp⟩ : ∃ p, w.heap.size = p := ⟨_, rfl⟩
  clear hB1 hBx o1 HPt
  simp only [hp] at q0 q1 q2 q3 q4 q5 q6 q7 ⊢
  have HP : Hid _ := hp
  clear hp
  go_wp2
  go_ret2
  exact ⟨⟨_, _, _, rfl⟩, HP.out ▸ HB1.out⟩

set_option maxHeartbeats 1000000 in
theorem refShape_0b (op name K : ByteArray) (A B n : Int) (sl sc dl dc ll c : Nat) (sa da ao : Option Addr) (w : World) (hm : prv op = 0) (hA : A = 0) (hB : ¬ B = 0) : Calls Tryz.prog 11 #[.slice ao ll c, .agg #[.string op, .int .i64 A, .int .i64 B, .string name, .slice sa sl sc, .string K, .int .i64 n, .slice da dl dc]] w fun e w' => (∃ a n c, e = .returned (.tuple #[.slice a n c, .bool false])) ∧ Below w.heap.size w w' := by
  have HPt : Hid (∀ v, Calls Tryz.prog 24 #[.string op] v fun e w' => e = .returned (.int .i64 (0)) ∧ Below v.heap.size v w') := fun v => by
    have := refParts_any op v
    rw [hm] at this
    exact this
  clear hm
  go_enter Tryz.func11, Tryz.ntmps11
  go_wp2_with fail
  refine (HPt.out _).mono ?_
  rintro e w1 ⟨rfl, hB1⟩
  obtain ⟨o1, -, hBx⟩ := own1 hB1
  have q0 := o1 0
  have q1 := o1 1
  have q2 := o1 2
  have q3 := o1 3
  have q4 := o1 4
  have q5 := o1 5
  have q6 := o1 6
  have q7 := o1 7
  simp at q0 q1 q2 q3 q4 q5 q6 q7
  have HB1 : Hid (Below w.heap.size w w1) := hBx
  obtain ⟨p, hp⟩ : ∃ p, w.heap.size = p := ⟨_, rfl⟩
  clear hB1 hBx o1 HPt
  simp only [hp] at q0 q1 q2 q3 q4 q5 q6 q7 ⊢
  have HP : Hid _ := hp
  clear hp
  go_wp2
  go_ret2
  exact ⟨⟨_, _, _, rfl⟩, HP.out ▸ HB1.out⟩

set_option maxHeartbeats 1000000 in
theorem refShape_1b (op name K : ByteArray) (A B n : Int) (sl sc dl dc ll c : Nat) (sa da ao : Option Addr) (w : World) (hm : prv op = 1) (hB : ¬ B = 0) : Calls Tryz.prog 11 #[.slice ao ll c, .agg #[.string op, .int .i64 A, .int .i64 B, .string name, .slice sa sl sc, .string K, .int .i64 n, .slice da dl dc]] w fun e w' => (∃ a n c, e = .returned (.tuple #[.slice a n c, .bool false])) ∧ Below w.heap.size w w' := by
  have HPt : Hid (∀ v, Calls Tryz.prog 24 #[.string op] v fun e w' => e = .returned (.int .i64 (1)) ∧ Below v.heap.size v w') := fun v => by
    have := refParts_any op v
    rw [hm] at this
    exact this
  clear hm
  go_enter Tryz.func11, Tryz.ntmps11
  go_wp2_with fail
  refine (HPt.out _).mono ?_
  rintro e w1 ⟨rfl, hB1⟩
  obtain ⟨o1, -, hBx⟩ := own1 hB1
  have q0 := o1 0
  have q1 := o1 1
  have q2 := o1 2
  have q3 := o1 3
  have q4 := o1 4
  have q5 := o1 5
  have q6 := o1 6
  have q7 := o1 7
  simp at q0 q1 q2 q3 q4 q5 q6 q7
  have HB1 : Hid (Below w.heap.size w w1) := hBx
  obtain ⟨p, hp⟩ : ∃ p, w.heap.size = p := ⟨_, rfl⟩
  clear hB1 hBx o1 HPt
  simp only [hp] at q0 q1 q2 q3 q4 q5 q6 q7 ⊢
  have HP : Hid _ := hp
  clear hp
  go_wp2
  go_ret2
  exact ⟨⟨_, _, _, rfl⟩, HP.out ▸ HB1.out⟩

set_option maxHeartbeats 1000000 in
theorem refShape_1a (op name K : ByteArray) (A B n : Int) (sl sc dl dc ll c : Nat) (sa da ao : Option Addr) (w : World) (hm : prv op = 1) (hB : B = 0) (hA : A < 0) : Calls Tryz.prog 11 #[.slice ao ll c, .agg #[.string op, .int .i64 A, .int .i64 B, .string name, .slice sa sl sc, .string K, .int .i64 n, .slice da dl dc]] w fun e w' => (∃ a n c, e = .returned (.tuple #[.slice a n c, .bool false])) ∧ Below w.heap.size w w' := by
  have HPt : Hid (∀ v, Calls Tryz.prog 24 #[.string op] v fun e w' => e = .returned (.int .i64 (1)) ∧ Below v.heap.size v w') := fun v => by
    have := refParts_any op v
    rw [hm] at this
    exact this
  clear hm
  go_enter Tryz.func11, Tryz.ntmps11
  go_wp2_with fail
  refine (HPt.out _).mono ?_
  rintro e w1 ⟨rfl, hB1⟩
  obtain ⟨o1, -, hBx⟩ := own1 hB1
  have q0 := o1 0
  have q1 := o1 1
  have q2 := o1 2
  have q3 := o1 3
  have q4 := o1 4
  have q5 := o1 5
  have q6 := o1 6
  have q7 := o1 7
  simp at q0 q1 q2 q3 q4 q5 q6 q7
  have HB1 : Hid (Below w.heap.size w w1) := hBx
  obtain ⟨p, hp⟩ : ∃ p, w.heap.size = p := ⟨_, rfl⟩
  clear hB1 hBx o1 HPt
  simp only [hp] at q0 q1 q2 q3 q4 q5 q6 q7 ⊢
  have HP : Hid _ := hp
  clear hp
  go_wp2
  go_ret2
  exact ⟨⟨_, _, _, rfl⟩, HP.out ▸ HB1.out⟩

set_option maxHeartbeats 1000000 in
theorem refShape_1l (op name K : ByteArray) (A B n : Int) (sl sc dl dc ll c : Nat) (sa da ao : Option Addr) (w : World) (hm : prv op = 1) (hB : B = 0) (hA : ¬ A < 0) (hA2 : (ll : Int) ≤ A) : Calls Tryz.prog 11 #[.slice ao ll c, .agg #[.string op, .int .i64 A, .int .i64 B, .string name, .slice sa sl sc, .string K, .int .i64 n, .slice da dl dc]] w fun e w' => (∃ a n c, e = .returned (.tuple #[.slice a n c, .bool false])) ∧ Below w.heap.size w w' := by
  have HPt : Hid (∀ v, Calls Tryz.prog 24 #[.string op] v fun e w' => e = .returned (.int .i64 (1)) ∧ Below v.heap.size v w') := fun v => by
    have := refParts_any op v
    rw [hm] at this
    exact this
  clear hm
  go_enter Tryz.func11, Tryz.ntmps11
  go_wp2_with fail
  refine (HPt.out _).mono ?_
  rintro e w1 ⟨rfl, hB1⟩
  obtain ⟨o1, -, hBx⟩ := own1 hB1
  have q0 := o1 0
  have q1 := o1 1
  have q2 := o1 2
  have q3 := o1 3
  have q4 := o1 4
  have q5 := o1 5
  have q6 := o1 6
  have q7 := o1 7
  simp at q0 q1 q2 q3 q4 q5 q6 q7
  have HB1 : Hid (Below w.heap.size w w1) := hBx
  obtain ⟨p, hp⟩ : ∃ p, w.heap.size = p := ⟨_, rfl⟩
  clear hB1 hBx o1 HPt
  simp only [hp] at q0 q1 q2 q3 q4 q5 q6 q7 ⊢
  have HP : Hid _ := hp
  clear hp
  go_wp2
  go_ret2
  exact ⟨⟨_, _, _, rfl⟩, HP.out ▸ HB1.out⟩

set_option maxHeartbeats 1000000 in
theorem refShape_2a (op name K : ByteArray) (A B n : Int) (sl sc dl dc ll c : Nat) (sa da ao : Option Addr) (w : World) (hm : prv op = 2) (hA : A < 0) : Calls Tryz.prog 11 #[.slice ao ll c, .agg #[.string op, .int .i64 A, .int .i64 B, .string name, .slice sa sl sc, .string K, .int .i64 n, .slice da dl dc]] w fun e w' => (∃ a n c, e = .returned (.tuple #[.slice a n c, .bool false])) ∧ Below w.heap.size w w' := by
  have HPt : Hid (∀ v, Calls Tryz.prog 24 #[.string op] v fun e w' => e = .returned (.int .i64 (2)) ∧ Below v.heap.size v w') := fun v => by
    have := refParts_any op v
    rw [hm] at this
    exact this
  clear hm
  go_enter Tryz.func11, Tryz.ntmps11
  go_wp2_with fail
  refine (HPt.out _).mono ?_
  rintro e w1 ⟨rfl, hB1⟩
  obtain ⟨o1, -, hBx⟩ := own1 hB1
  have q0 := o1 0
  have q1 := o1 1
  have q2 := o1 2
  have q3 := o1 3
  have q4 := o1 4
  have q5 := o1 5
  have q6 := o1 6
  have q7 := o1 7
  simp at q0 q1 q2 q3 q4 q5 q6 q7
  have HB1 : Hid (Below w.heap.size w w1) := hBx
  obtain ⟨p, hp⟩ : ∃ p, w.heap.size = p := ⟨_, rfl⟩
  clear hB1 hBx o1 HPt
  simp only [hp] at q0 q1 q2 q3 q4 q5 q6 q7 ⊢
  have HP : Hid _ := hp
  clear hp
  go_wp2
  go_ret2
  exact ⟨⟨_, _, _, rfl⟩, HP.out ▸ HB1.out⟩

set_option maxHeartbeats 1000000 in
theorem refShape_2l (op name K : ByteArray) (A B n : Int) (sl sc dl dc ll c : Nat) (sa da ao : Option Addr) (w : World) (hm : prv op = 2) (hA : ¬ A < 0) (hA2 : (ll : Int) ≤ A) : Calls Tryz.prog 11 #[.slice ao ll c, .agg #[.string op, .int .i64 A, .int .i64 B, .string name, .slice sa sl sc, .string K, .int .i64 n, .slice da dl dc]] w fun e w' => (∃ a n c, e = .returned (.tuple #[.slice a n c, .bool false])) ∧ Below w.heap.size w w' := by
  have HPt : Hid (∀ v, Calls Tryz.prog 24 #[.string op] v fun e w' => e = .returned (.int .i64 (2)) ∧ Below v.heap.size v w') := fun v => by
    have := refParts_any op v
    rw [hm] at this
    exact this
  clear hm
  go_enter Tryz.func11, Tryz.ntmps11
  go_wp2_with fail
  refine (HPt.out _).mono ?_
  rintro e w1 ⟨rfl, hB1⟩
  obtain ⟨o1, -, hBx⟩ := own1 hB1
  have q0 := o1 0
  have q1 := o1 1
  have q2 := o1 2
  have q3 := o1 3
  have q4 := o1 4
  have q5 := o1 5
  have q6 := o1 6
  have q7 := o1 7
  simp at q0 q1 q2 q3 q4 q5 q6 q7
  have HB1 : Hid (Below w.heap.size w w1) := hBx
  obtain ⟨p, hp⟩ : ∃ p, w.heap.size = p := ⟨_, rfl⟩
  clear hB1 hBx o1 HPt
  simp only [hp] at q0 q1 q2 q3 q4 q5 q6 q7 ⊢
  have HP : Hid _ := hp
  clear hp
  go_wp2
  go_ret2
  exact ⟨⟨_, _, _, rfl⟩, HP.out ▸ HB1.out⟩

set_option maxHeartbeats 1000000 in
theorem refShape_2b (op name K : ByteArray) (A B n : Int) (sl sc dl dc ll c : Nat) (sa da ao : Option Addr) (w : World) (hm : prv op = 2) (hA : ¬ A < 0) (hA2 : ¬ (ll : Int) ≤ A) (hB : B < 0) : Calls Tryz.prog 11 #[.slice ao ll c, .agg #[.string op, .int .i64 A, .int .i64 B, .string name, .slice sa sl sc, .string K, .int .i64 n, .slice da dl dc]] w fun e w' => (∃ a n c, e = .returned (.tuple #[.slice a n c, .bool false])) ∧ Below w.heap.size w w' := by
  have HPt : Hid (∀ v, Calls Tryz.prog 24 #[.string op] v fun e w' => e = .returned (.int .i64 (2)) ∧ Below v.heap.size v w') := fun v => by
    have := refParts_any op v
    rw [hm] at this
    exact this
  clear hm
  go_enter Tryz.func11, Tryz.ntmps11
  go_wp2_with fail
  refine (HPt.out _).mono ?_
  rintro e w1 ⟨rfl, hB1⟩
  obtain ⟨o1, -, hBx⟩ := own1 hB1
  have q0 := o1 0
  have q1 := o1 1
  have q2 := o1 2
  have q3 := o1 3
  have q4 := o1 4
  have q5 := o1 5
  have q6 := o1 6
  have q7 := o1 7
  simp at q0 q1 q2 q3 q4 q5 q6 q7
  have HB1 : Hid (Below w.heap.size w w1) := hBx
  obtain ⟨p, hp⟩ : ∃ p, w.heap.size = p := ⟨_, rfl⟩
  clear hB1 hBx o1 HPt
  simp only [hp] at q0 q1 q2 q3 q4 q5 q6 q7 ⊢
  have HP : Hid _ := hp
  clear hp
  go_wp2
  go_ret2
  exact ⟨⟨_, _, _, rfl⟩, HP.out ▸ HB1.out⟩

set_option maxHeartbeats 1000000 in
theorem refShape_2k (op name K : ByteArray) (A B n : Int) (sl sc dl dc ll c : Nat) (sa da ao : Option Addr) (w : World) (hm : prv op = 2) (hA : ¬ A < 0) (hA2 : ¬ (ll : Int) ≤ A) (hB : ¬ B < 0) (hB2 : (ll : Int) ≤ B) : Calls Tryz.prog 11 #[.slice ao ll c, .agg #[.string op, .int .i64 A, .int .i64 B, .string name, .slice sa sl sc, .string K, .int .i64 n, .slice da dl dc]] w fun e w' => (∃ a n c, e = .returned (.tuple #[.slice a n c, .bool false])) ∧ Below w.heap.size w w' := by
  have HPt : Hid (∀ v, Calls Tryz.prog 24 #[.string op] v fun e w' => e = .returned (.int .i64 (2)) ∧ Below v.heap.size v w') := fun v => by
    have := refParts_any op v
    rw [hm] at this
    exact this
  clear hm
  go_enter Tryz.func11, Tryz.ntmps11
  go_wp2_with fail
  refine (HPt.out _).mono ?_
  rintro e w1 ⟨rfl, hB1⟩
  obtain ⟨o1, -, hBx⟩ := own1 hB1
  have q0 := o1 0
  have q1 := o1 1
  have q2 := o1 2
  have q3 := o1 3
  have q4 := o1 4
  have q5 := o1 5
  have q6 := o1 6
  have q7 := o1 7
  simp at q0 q1 q2 q3 q4 q5 q6 q7
  have HB1 : Hid (Below w.heap.size w w1) := hBx
  obtain ⟨p, hp⟩ : ∃ p, w.heap.size = p := ⟨_, rfl⟩
  clear hB1 hBx o1 HPt
  simp only [hp] at q0 q1 q2 q3 q4 q5 q6 q7 ⊢
  have HP : Hid _ := hp
  clear hp
  go_wp2
  go_ret2
  exact ⟨⟨_, _, _, rfl⟩, HP.out ▸ HB1.out⟩
end Go.Proofs.YtadgnafafdfioaaGreatDoor.Gr
/-
  WHAT THE DOCUMENT's Shape GIVES, case by case. Conditions: each theorem's own.
-/
namespace Go.Proofs.YtadgnafafdfioaaGreatDoor.Gr
open Go.Proofs.YtadgnafafdfioaaGreatDoor.Rd
set_option maxRecDepth 100000
open Go.RowKit
set_option linter.unusedVariables false
set_option linter.unusedSimpArgs false

theorem isw_g {x : ByteArray} {l : List UInt8} {b : Bool} (h : isw x l = b) : (x.toList == l) = b := by rw [isw_list]; exact h
theorem emp_no {x : ByteArray} (h : ¬ x.size = 0) : (x.toList == []) = false := by
  rw [toList_data]
  cases c : x.data.toList with
  | nil => exact absurd (by show x.data.size = 0; rw [← Array.length_toList, c]; rfl) h
  | cons a l => rfl
theorem emp_yes {x : ByteArray} (h : x.size = 0) : (x.toList == []) = true := by
  rw [toList_data]
  have : x.data.toList = [] := List.length_eq_zero_iff.1 (by simpa using h)
  rw [this]; rfl

set_option maxHeartbeats 1000000 in
theorem refShape_P_name (op name K : ByteArray) (A B n : Int) (sl sc dl dc ll c : Nat) (sa da ao : Option Addr) (w : World) (hm : prv op = 0) (hA : A = 0) (hB : B = 0) (f_param : isw op lParam = true) (f_scale : isw op lScale = false) (f_power : isw op lPower = false) (f_const : isw op lConst = false) (hns : name.size ≤ 20000) (hnm : Lx.nm name.data.toList = false) : Calls Tryz.prog 11 #[.slice ao ll c, .agg #[.string op, .int .i64 A, .int .i64 B, .string name, .slice sa sl sc, .string K, .int .i64 n, .slice da dl dc]] w fun e w' => (∃ a n c, e = .returned (.tuple #[.slice a n c, .bool false])) ∧ Below w.heap.size w w' := by
  have g_param := isw_g f_param
  have g_scale := isw_g f_scale
  have g_power := isw_g f_power
  have g_const := isw_g f_const
  clear f_param f_scale f_power f_const
  have HPt : Hid (∀ v, Calls Tryz.prog 24 #[.string op] v fun e w' => e = .returned (.int .i64 (0)) ∧ Below v.heap.size v w') := fun v => by
    have := refParts_any op v
    rw [hm] at this
    exact this
  clear hm
  go_enter Tryz.func11, Tryz.ntmps11
  go_wp2_with fail
  refine (HPt.out _).mono ?_
  rintro e w1 ⟨rfl, hB1⟩
  obtain ⟨o1, -, hBx⟩ := own1 hB1
  have q0 := o1 0
  have q1 := o1 1
  have q2 := o1 2
  have q3 := o1 3
  have q4 := o1 4
  have q5 := o1 5
  have q6 := o1 6
  have q7 := o1 7
  simp at q0 q1 q2 q3 q4 q5 q6 q7
  have HB1 : Hid (Below w.heap.size w w1) := hBx
  obtain ⟨p, hp⟩ : ∃ p, w.heap.size = p := ⟨_, rfl⟩
  clear hB1 hBx o1 HPt
  simp only [hp] at q0 q1 q2 q3 q4 q5 q6 q7 ⊢
  have HP : Hid _ := hp
  clear hp
  go_wp2_with fail
  refine (Lx.refName_any name _ (by omega)).mono ?_
  rintro e w2 ⟨rfl, rfl⟩
  rw [hnm]
  go_wp2
  go_ret2
  exact ⟨⟨_, _, _, rfl⟩, HP.out ▸ HB1.out⟩

set_option maxHeartbeats 1000000 in
theorem refShape_P_fok (op name K : ByteArray) (A B n : Int) (sl sc dl dc ll c : Nat) (sa da ao : Option Addr) (w : World) (hm : prv op = 0) (hA : A = 0) (hB : B = 0) (f_param : isw op lParam = true) (f_scale : isw op lScale = false) (f_power : isw op lPower = false) (f_const : isw op lConst = false) (hns : name.size ≤ 20000) (hnm : Lx.nm name.data.toList = true) (hf : ¬ (K.size = 0 ∧ n = 0 ∧ dl = 0)) : Calls Tryz.prog 11 #[.slice ao ll c, .agg #[.string op, .int .i64 A, .int .i64 B, .string name, .slice sa sl sc, .string K, .int .i64 n, .slice da dl dc]] w fun e w' => (∃ a n c, e = .returned (.tuple #[.slice a n c, .bool false])) ∧ Below w.heap.size w w' := by
  have g_param := isw_g f_param
  have g_scale := isw_g f_scale
  have g_power := isw_g f_power
  have g_const := isw_g f_const
  clear f_param f_scale f_power f_const
  have HPt : Hid (∀ v, Calls Tryz.prog 24 #[.string op] v fun e w' => e = .returned (.int .i64 (0)) ∧ Below v.heap.size v w') := fun v => by
    have := refParts_any op v
    rw [hm] at this
    exact this
  clear hm
  go_enter Tryz.func11, Tryz.ntmps11
  go_wp2_with fail
  refine (HPt.out _).mono ?_
  rintro e w1 ⟨rfl, hB1⟩
  obtain ⟨o1, -, hBx⟩ := own1 hB1
  have q0 := o1 0
  have q1 := o1 1
  have q2 := o1 2
  have q3 := o1 3
  have q4 := o1 4
  have q5 := o1 5
  have q6 := o1 6
  have q7 := o1 7
  simp at q0 q1 q2 q3 q4 q5 q6 q7
  have HB1 : Hid (Below w.heap.size w w1) := hBx
  obtain ⟨p, hp⟩ : ∃ p, w.heap.size = p := ⟨_, rfl⟩
  clear hB1 hBx o1 HPt
  simp only [hp] at q0 q1 q2 q3 q4 q5 q6 q7 ⊢
  have HP : Hid _ := hp
  clear hp
  go_wp2_with fail
  refine (Lx.refName_any name _ (by omega)).mono ?_
  rintro e w2 ⟨rfl, rfl⟩
  rw [hnm]
  go_upto_region 9 with fail
  by_cases hk : K.size = 0
  rotate_left
  · have hke : (K.toList == []) = false := emp_no hk
    clear hf
    go_wp2
    go_ret2
    exact ⟨⟨_, _, _, rfl⟩, HP.out ▸ HB1.out⟩
  have hke : (K.toList == []) = true := emp_yes hk
  by_cases hn : n = 0
  rotate_left
  · skip
    clear hf
    go_wp2
    go_ret2
    exact ⟨⟨_, _, _, rfl⟩, HP.out ▸ HB1.out⟩
  skip
  by_cases hd : dl = 0
  rotate_left
  · have hd0 : 0 < dl := by omega
    clear hf
    go_wp2
    go_ret2
    exact ⟨⟨_, _, _, rfl⟩, HP.out ▸ HB1.out⟩
  skip
  exact absurd ⟨hk, hn, hd⟩ hf

set_option maxHeartbeats 1000000 in
theorem refShape_I_name (op name K : ByteArray) (A B n : Int) (sl sc dl dc ll c : Nat) (sa da ao : Option Addr) (w : World) (hm : prv op = 0) (hA : A = 0) (hB : B = 0) (f_param : isw op lParam = false) (f_input : isw op lInput = true) (f_scale : isw op lScale = false) (f_power : isw op lPower = false) (f_const : isw op lConst = false) (hns : name.size ≤ 20000) (hnm : Lx.nm name.data.toList = false) : Calls Tryz.prog 11 #[.slice ao ll c, .agg #[.string op, .int .i64 A, .int .i64 B, .string name, .slice sa sl sc, .string K, .int .i64 n, .slice da dl dc]] w fun e w' => (∃ a n c, e = .returned (.tuple #[.slice a n c, .bool false])) ∧ Below w.heap.size w w' := by
  have g_param := isw_g f_param
  have g_input := isw_g f_input
  have g_scale := isw_g f_scale
  have g_power := isw_g f_power
  have g_const := isw_g f_const
  clear f_param f_input f_scale f_power f_const
  have HPt : Hid (∀ v, Calls Tryz.prog 24 #[.string op] v fun e w' => e = .returned (.int .i64 (0)) ∧ Below v.heap.size v w') := fun v => by
    have := refParts_any op v
    rw [hm] at this
    exact this
  clear hm
  go_enter Tryz.func11, Tryz.ntmps11
  go_wp2_with fail
  refine (HPt.out _).mono ?_
  rintro e w1 ⟨rfl, hB1⟩
  obtain ⟨o1, -, hBx⟩ := own1 hB1
  have q0 := o1 0
  have q1 := o1 1
  have q2 := o1 2
  have q3 := o1 3
  have q4 := o1 4
  have q5 := o1 5
  have q6 := o1 6
  have q7 := o1 7
  simp at q0 q1 q2 q3 q4 q5 q6 q7
  have HB1 : Hid (Below w.heap.size w w1) := hBx
  obtain ⟨p, hp⟩ : ∃ p, w.heap.size = p := ⟨_, rfl⟩
  clear hB1 hBx o1 HPt
  simp only [hp] at q0 q1 q2 q3 q4 q5 q6 q7 ⊢
  have HP : Hid _ := hp
  clear hp
  go_wp2_with fail
  refine (Lx.refName_any name _ (by omega)).mono ?_
  rintro e w2 ⟨rfl, rfl⟩
  rw [hnm]
  go_wp2
  go_ret2
  exact ⟨⟨_, _, _, rfl⟩, HP.out ▸ HB1.out⟩

set_option maxHeartbeats 1000000 in
theorem refShape_I_fok (op name K : ByteArray) (A B n : Int) (sl sc dl dc ll c : Nat) (sa da ao : Option Addr) (w : World) (hm : prv op = 0) (hA : A = 0) (hB : B = 0) (f_param : isw op lParam = false) (f_input : isw op lInput = true) (f_scale : isw op lScale = false) (f_power : isw op lPower = false) (f_const : isw op lConst = false) (hns : name.size ≤ 20000) (hnm : Lx.nm name.data.toList = true) (hf : ¬ (K.size = 0 ∧ n = 0 ∧ dl = 0)) : Calls Tryz.prog 11 #[.slice ao ll c, .agg #[.string op, .int .i64 A, .int .i64 B, .string name, .slice sa sl sc, .string K, .int .i64 n, .slice da dl dc]] w fun e w' => (∃ a n c, e = .returned (.tuple #[.slice a n c, .bool false])) ∧ Below w.heap.size w w' := by
  have g_param := isw_g f_param
  have g_input := isw_g f_input
  have g_scale := isw_g f_scale
  have g_power := isw_g f_power
  have g_const := isw_g f_const
  clear f_param f_input f_scale f_power f_const
  have HPt : Hid (∀ v, Calls Tryz.prog 24 #[.string op] v fun e w' => e = .returned (.int .i64 (0)) ∧ Below v.heap.size v w') := fun v => by
    have := refParts_any op v
    rw [hm] at this
    exact this
  clear hm
  go_enter Tryz.func11, Tryz.ntmps11
  go_wp2_with fail
  refine (HPt.out _).mono ?_
  rintro e w1 ⟨rfl, hB1⟩
  obtain ⟨o1, -, hBx⟩ := own1 hB1
  have q0 := o1 0
  have q1 := o1 1
  have q2 := o1 2
  have q3 := o1 3
  have q4 := o1 4
  have q5 := o1 5
  have q6 := o1 6
  have q7 := o1 7
  simp at q0 q1 q2 q3 q4 q5 q6 q7
  have HB1 : Hid (Below w.heap.size w w1) := hBx
  obtain ⟨p, hp⟩ : ∃ p, w.heap.size = p := ⟨_, rfl⟩
  clear hB1 hBx o1 HPt
  simp only [hp] at q0 q1 q2 q3 q4 q5 q6 q7 ⊢
  have HP : Hid _ := hp
  clear hp
  go_wp2_with fail
  refine (Lx.refName_any name _ (by omega)).mono ?_
  rintro e w2 ⟨rfl, rfl⟩
  rw [hnm]
  go_upto_region 9 with fail
  by_cases hk : K.size = 0
  rotate_left
  · have hke : (K.toList == []) = false := emp_no hk
    clear hf
    go_wp2
    go_ret2
    exact ⟨⟨_, _, _, rfl⟩, HP.out ▸ HB1.out⟩
  have hke : (K.toList == []) = true := emp_yes hk
  by_cases hn : n = 0
  rotate_left
  · skip
    clear hf
    go_wp2
    go_ret2
    exact ⟨⟨_, _, _, rfl⟩, HP.out ▸ HB1.out⟩
  skip
  by_cases hd : dl = 0
  rotate_left
  · have hd0 : 0 < dl := by omega
    clear hf
    go_wp2
    go_ret2
    exact ⟨⟨_, _, _, rfl⟩, HP.out ▸ HB1.out⟩
  skip
  exact absurd ⟨hk, hn, hd⟩ hf

set_option maxHeartbeats 1000000 in
theorem refShape_C_name (op name K : ByteArray) (A B n : Int) (sl sc dl dc ll c : Nat) (sa da ao : Option Addr) (w : World) (hm : prv op = 0) (hA : A = 0) (hB : B = 0) (f_param : isw op lParam = false) (f_input : isw op lInput = false) (f_const : isw op lConst = true) (f_scale : isw op lScale = false) (f_power : isw op lPower = false) (hn0 : ¬ name.size = 0) : Calls Tryz.prog 11 #[.slice ao ll c, .agg #[.string op, .int .i64 A, .int .i64 B, .string name, .slice sa sl sc, .string K, .int .i64 n, .slice da dl dc]] w fun e w' => (∃ a n c, e = .returned (.tuple #[.slice a n c, .bool false])) ∧ Below w.heap.size w w' := by
  have g_param := isw_g f_param
  have g_input := isw_g f_input
  have g_const := isw_g f_const
  have g_scale := isw_g f_scale
  have g_power := isw_g f_power
  clear f_param f_input f_const f_scale f_power
  have HPt : Hid (∀ v, Calls Tryz.prog 24 #[.string op] v fun e w' => e = .returned (.int .i64 (0)) ∧ Below v.heap.size v w') := fun v => by
    have := refParts_any op v
    rw [hm] at this
    exact this
  clear hm
  go_enter Tryz.func11, Tryz.ntmps11
  go_wp2_with fail
  refine (HPt.out _).mono ?_
  rintro e w1 ⟨rfl, hB1⟩
  obtain ⟨o1, -, hBx⟩ := own1 hB1
  have q0 := o1 0
  have q1 := o1 1
  have q2 := o1 2
  have q3 := o1 3
  have q4 := o1 4
  have q5 := o1 5
  have q6 := o1 6
  have q7 := o1 7
  simp at q0 q1 q2 q3 q4 q5 q6 q7
  have HB1 : Hid (Below w.heap.size w w1) := hBx
  obtain ⟨p, hp⟩ : ∃ p, w.heap.size = p := ⟨_, rfl⟩
  clear hB1 hBx o1 HPt
  simp only [hp] at q0 q1 q2 q3 q4 q5 q6 q7 ⊢
  have HP : Hid _ := hp
  clear hp
  have hne : (name.toList == []) = false := emp_no hn0
  go_wp2
  go_ret2
  exact ⟨⟨_, _, _, rfl⟩, HP.out ▸ HB1.out⟩

set_option maxHeartbeats 1000000 in
theorem refShape_C_fok (op name K : ByteArray) (A B n : Int) (sl sc dl dc ll c : Nat) (sa da ao : Option Addr) (w : World) (hm : prv op = 0) (hA : A = 0) (hB : B = 0) (f_param : isw op lParam = false) (f_input : isw op lInput = false) (f_const : isw op lConst = true) (f_scale : isw op lScale = false) (f_power : isw op lPower = false) (hn0 : name.size = 0) (hf : ¬ (K.size = 0 ∧ n = 0)) : Calls Tryz.prog 11 #[.slice ao ll c, .agg #[.string op, .int .i64 A, .int .i64 B, .string name, .slice sa sl sc, .string K, .int .i64 n, .slice da dl dc]] w fun e w' => (∃ a n c, e = .returned (.tuple #[.slice a n c, .bool false])) ∧ Below w.heap.size w w' := by
  have g_param := isw_g f_param
  have g_input := isw_g f_input
  have g_const := isw_g f_const
  have g_scale := isw_g f_scale
  have g_power := isw_g f_power
  clear f_param f_input f_const f_scale f_power
  have HPt : Hid (∀ v, Calls Tryz.prog 24 #[.string op] v fun e w' => e = .returned (.int .i64 (0)) ∧ Below v.heap.size v w') := fun v => by
    have := refParts_any op v
    rw [hm] at this
    exact this
  clear hm
  go_enter Tryz.func11, Tryz.ntmps11
  go_wp2_with fail
  refine (HPt.out _).mono ?_
  rintro e w1 ⟨rfl, hB1⟩
  obtain ⟨o1, -, hBx⟩ := own1 hB1
  have q0 := o1 0
  have q1 := o1 1
  have q2 := o1 2
  have q3 := o1 3
  have q4 := o1 4
  have q5 := o1 5
  have q6 := o1 6
  have q7 := o1 7
  simp at q0 q1 q2 q3 q4 q5 q6 q7
  have HB1 : Hid (Below w.heap.size w w1) := hBx
  obtain ⟨p, hp⟩ : ∃ p, w.heap.size = p := ⟨_, rfl⟩
  clear hB1 hBx o1 HPt
  simp only [hp] at q0 q1 q2 q3 q4 q5 q6 q7 ⊢
  have HP : Hid _ := hp
  clear hp
  have hne : (name.toList == []) = true := emp_yes hn0
  go_upto_region 9 with fail
  by_cases hk : K.size = 0
  rotate_left
  · have hke : (K.toList == []) = false := emp_no hk
    clear hf
    go_wp2
    go_ret2
    exact ⟨⟨_, _, _, rfl⟩, HP.out ▸ HB1.out⟩
  have hke : (K.toList == []) = true := emp_yes hk
  by_cases hn : n = 0
  rotate_left
  · skip
    clear hf
    go_wp2
    go_ret2
    exact ⟨⟨_, _, _, rfl⟩, HP.out ▸ HB1.out⟩
  skip
  exact absurd ⟨hk, hn⟩ hf

set_option maxHeartbeats 1000000 in
theorem refShape_S_name (op name K : ByteArray) (A B n : Int) (sl sc dl dc ll c : Nat) (sa da ao : Option Addr) (w : World) (hm : prv op = 1) (hA : ¬ A < 0) (hA2 : ¬ (ll : Int) ≤ A) (hB : B = 0) (f_param : isw op lParam = false) (f_input : isw op lInput = false) (f_scale : isw op lScale = true) (f_power : isw op lPower = false) (f_const : isw op lConst = false) (hn0 : ¬ name.size = 0) : Calls Tryz.prog 11 #[.slice ao ll c, .agg #[.string op, .int .i64 A, .int .i64 B, .string name, .slice sa sl sc, .string K, .int .i64 n, .slice da dl dc]] w fun e w' => (∃ a n c, e = .returned (.tuple #[.slice a n c, .bool false])) ∧ Below w.heap.size w w' := by
  have g_param := isw_g f_param
  have g_input := isw_g f_input
  have g_scale := isw_g f_scale
  have g_power := isw_g f_power
  have g_const := isw_g f_const
  clear f_param f_input f_scale f_power f_const
  have HPt : Hid (∀ v, Calls Tryz.prog 24 #[.string op] v fun e w' => e = .returned (.int .i64 (1)) ∧ Below v.heap.size v w') := fun v => by
    have := refParts_any op v
    rw [hm] at this
    exact this
  clear hm
  go_enter Tryz.func11, Tryz.ntmps11
  go_wp2_with fail
  refine (HPt.out _).mono ?_
  rintro e w1 ⟨rfl, hB1⟩
  obtain ⟨o1, -, hBx⟩ := own1 hB1
  have q0 := o1 0
  have q1 := o1 1
  have q2 := o1 2
  have q3 := o1 3
  have q4 := o1 4
  have q5 := o1 5
  have q6 := o1 6
  have q7 := o1 7
  simp at q0 q1 q2 q3 q4 q5 q6 q7
  have HB1 : Hid (Below w.heap.size w w1) := hBx
  obtain ⟨p, hp⟩ : ∃ p, w.heap.size = p := ⟨_, rfl⟩
  clear hB1 hBx o1 HPt
  simp only [hp] at q0 q1 q2 q3 q4 q5 q6 q7 ⊢
  have HP : Hid _ := hp
  clear hp
  have hne : (name.toList == []) = false := emp_no hn0
  go_wp2
  go_ret2
  exact ⟨⟨_, _, _, rfl⟩, HP.out ▸ HB1.out⟩
end Go.Proofs.YtadgnafafdfioaaGreatDoor.Gr
/-
  WHAT THE DOCUMENT's Shape GIVES, case by case. Conditions: each theorem's own.
-/
namespace Go.Proofs.YtadgnafafdfioaaGreatDoor.Gr
open Go.Proofs.YtadgnafafdfioaaGreatDoor.Rd
set_option maxRecDepth 100000
open Go.RowKit
set_option linter.unusedVariables false
set_option linter.unusedSimpArgs false

set_option maxHeartbeats 1000000 in
theorem refShape_S_fok (op name K : ByteArray) (A B n : Int) (sl sc dl dc ll c : Nat) (sa da ao : Option Addr) (w : World) (hm : prv op = 1) (hA : ¬ A < 0) (hA2 : ¬ (ll : Int) ≤ A) (hB : B = 0) (f_param : isw op lParam = false) (f_input : isw op lInput = false) (f_scale : isw op lScale = true) (f_power : isw op lPower = false) (f_const : isw op lConst = false) (hn0 : name.size = 0) (hf : ¬ (n = 0 ∧ dl = 0)) : Calls Tryz.prog 11 #[.slice ao ll c, .agg #[.string op, .int .i64 A, .int .i64 B, .string name, .slice sa sl sc, .string K, .int .i64 n, .slice da dl dc]] w fun e w' => (∃ a n c, e = .returned (.tuple #[.slice a n c, .bool false])) ∧ Below w.heap.size w w' := by
  have g_param := isw_g f_param
  have g_input := isw_g f_input
  have g_scale := isw_g f_scale
  have g_power := isw_g f_power
  have g_const := isw_g f_const
  clear f_param f_input f_scale f_power f_const
  have HPt : Hid (∀ v, Calls Tryz.prog 24 #[.string op] v fun e w' => e = .returned (.int .i64 (1)) ∧ Below v.heap.size v w') := fun v => by
    have := refParts_any op v
    rw [hm] at this
    exact this
  clear hm
  go_enter Tryz.func11, Tryz.ntmps11
  go_wp2_with fail
  refine (HPt.out _).mono ?_
  rintro e w1 ⟨rfl, hB1⟩
  obtain ⟨o1, -, hBx⟩ := own1 hB1
  have q0 := o1 0
  have q1 := o1 1
  have q2 := o1 2
  have q3 := o1 3
  have q4 := o1 4
  have q5 := o1 5
  have q6 := o1 6
  have q7 := o1 7
  simp at q0 q1 q2 q3 q4 q5 q6 q7
  have HB1 : Hid (Below w.heap.size w w1) := hBx
  obtain ⟨p, hp⟩ : ∃ p, w.heap.size = p := ⟨_, rfl⟩
  clear hB1 hBx o1 HPt
  simp only [hp] at q0 q1 q2 q3 q4 q5 q6 q7 ⊢
  have HP : Hid _ := hp
  clear hp
  have hne : (name.toList == []) = true := emp_yes hn0
  go_upto_region 9 with fail
  by_cases hn : n = 0
  rotate_left
  · skip
    clear hf
    go_wp2
    go_ret2
    exact ⟨⟨_, _, _, rfl⟩, HP.out ▸ HB1.out⟩
  skip
  by_cases hd : dl = 0
  rotate_left
  · have hd0 : 0 < dl := by omega
    clear hf
    go_wp2
    go_ret2
    exact ⟨⟨_, _, _, rfl⟩, HP.out ▸ HB1.out⟩
  skip
  exact absurd ⟨hn, hd⟩ hf

set_option maxHeartbeats 1000000 in
theorem refShape_W_name (op name K : ByteArray) (A B n : Int) (sl sc dl dc ll c : Nat) (sa da ao : Option Addr) (w : World) (hm : prv op = 1) (hA : ¬ A < 0) (hA2 : ¬ (ll : Int) ≤ A) (hB : B = 0) (f_param : isw op lParam = false) (f_input : isw op lInput = false) (f_scale : isw op lScale = false) (f_power : isw op lPower = true) (f_const : isw op lConst = false) (hn0 : ¬ name.size = 0) : Calls Tryz.prog 11 #[.slice ao ll c, .agg #[.string op, .int .i64 A, .int .i64 B, .string name, .slice sa sl sc, .string K, .int .i64 n, .slice da dl dc]] w fun e w' => (∃ a n c, e = .returned (.tuple #[.slice a n c, .bool false])) ∧ Below w.heap.size w w' := by
  have g_param := isw_g f_param
  have g_input := isw_g f_input
  have g_scale := isw_g f_scale
  have g_power := isw_g f_power
  have g_const := isw_g f_const
  clear f_param f_input f_scale f_power f_const
  have HPt : Hid (∀ v, Calls Tryz.prog 24 #[.string op] v fun e w' => e = .returned (.int .i64 (1)) ∧ Below v.heap.size v w') := fun v => by
    have := refParts_any op v
    rw [hm] at this
    exact this
  clear hm
  go_enter Tryz.func11, Tryz.ntmps11
  go_wp2_with fail
  refine (HPt.out _).mono ?_
  rintro e w1 ⟨rfl, hB1⟩
  obtain ⟨o1, -, hBx⟩ := own1 hB1
  have q0 := o1 0
  have q1 := o1 1
  have q2 := o1 2
  have q3 := o1 3
  have q4 := o1 4
  have q5 := o1 5
  have q6 := o1 6
  have q7 := o1 7
  simp at q0 q1 q2 q3 q4 q5 q6 q7
  have HB1 : Hid (Below w.heap.size w w1) := hBx
  obtain ⟨p, hp⟩ : ∃ p, w.heap.size = p := ⟨_, rfl⟩
  clear hB1 hBx o1 HPt
  simp only [hp] at q0 q1 q2 q3 q4 q5 q6 q7 ⊢
  have HP : Hid _ := hp
  clear hp
  have hne : (name.toList == []) = false := emp_no hn0
  go_wp2
  go_ret2
  exact ⟨⟨_, _, _, rfl⟩, HP.out ▸ HB1.out⟩

set_option maxHeartbeats 1000000 in
theorem refShape_W_fok (op name K : ByteArray) (A B n : Int) (sl sc dl dc ll c : Nat) (sa da ao : Option Addr) (w : World) (hm : prv op = 1) (hA : ¬ A < 0) (hA2 : ¬ (ll : Int) ≤ A) (hB : B = 0) (f_param : isw op lParam = false) (f_input : isw op lInput = false) (f_scale : isw op lScale = false) (f_power : isw op lPower = true) (f_const : isw op lConst = false) (hn0 : name.size = 0) (hf : ¬ (K.size = 0 ∧ dl = 0)) : Calls Tryz.prog 11 #[.slice ao ll c, .agg #[.string op, .int .i64 A, .int .i64 B, .string name, .slice sa sl sc, .string K, .int .i64 n, .slice da dl dc]] w fun e w' => (∃ a n c, e = .returned (.tuple #[.slice a n c, .bool false])) ∧ Below w.heap.size w w' := by
  have g_param := isw_g f_param
  have g_input := isw_g f_input
  have g_scale := isw_g f_scale
  have g_power := isw_g f_power
  have g_const := isw_g f_const
  clear f_param f_input f_scale f_power f_const
  have HPt : Hid (∀ v, Calls Tryz.prog 24 #[.string op] v fun e w' => e = .returned (.int .i64 (1)) ∧ Below v.heap.size v w') := fun v => by
    have := refParts_any op v
    rw [hm] at this
    exact this
  clear hm
  go_enter Tryz.func11, Tryz.ntmps11
  go_wp2_with fail
  refine (HPt.out _).mono ?_
  rintro e w1 ⟨rfl, hB1⟩
  obtain ⟨o1, -, hBx⟩ := own1 hB1
  have q0 := o1 0
  have q1 := o1 1
  have q2 := o1 2
  have q3 := o1 3
  have q4 := o1 4
  have q5 := o1 5
  have q6 := o1 6
  have q7 := o1 7
  simp at q0 q1 q2 q3 q4 q5 q6 q7
  have HB1 : Hid (Below w.heap.size w w1) := hBx
  obtain ⟨p, hp⟩ : ∃ p, w.heap.size = p := ⟨_, rfl⟩
  clear hB1 hBx o1 HPt
  simp only [hp] at q0 q1 q2 q3 q4 q5 q6 q7 ⊢
  have HP : Hid _ := hp
  clear hp
  have hne : (name.toList == []) = true := emp_yes hn0
  go_upto_region 9 with fail
  by_cases hk : K.size = 0
  rotate_left
  · have hke : (K.toList == []) = false := emp_no hk
    clear hf
    go_wp2
    go_ret2
    exact ⟨⟨_, _, _, rfl⟩, HP.out ▸ HB1.out⟩
  have hke : (K.toList == []) = true := emp_yes hk
  by_cases hd : dl = 0
  rotate_left
  · have hd0 : 0 < dl := by omega
    clear hf
    go_wp2
    go_ret2
    exact ⟨⟨_, _, _, rfl⟩, HP.out ▸ HB1.out⟩
  skip
  exact absurd ⟨hk, hd⟩ hf

set_option maxHeartbeats 1000000 in
theorem refShape_O_name (op name K : ByteArray) (A B n : Int) (sl sc dl dc ll c : Nat) (sa da ao : Option Addr) (w : World) (hm : prv op = 1) (hA : ¬ A < 0) (hA2 : ¬ (ll : Int) ≤ A) (hB : B = 0) (f_param : isw op lParam = false) (f_input : isw op lInput = false) (f_scale : isw op lScale = false) (f_power : isw op lPower = false) (f_const : isw op lConst = false) (hn0 : ¬ name.size = 0) : Calls Tryz.prog 11 #[.slice ao ll c, .agg #[.string op, .int .i64 A, .int .i64 B, .string name, .slice sa sl sc, .string K, .int .i64 n, .slice da dl dc]] w fun e w' => (∃ a n c, e = .returned (.tuple #[.slice a n c, .bool false])) ∧ Below w.heap.size w w' := by
  have g_param := isw_g f_param
  have g_input := isw_g f_input
  have g_scale := isw_g f_scale
  have g_power := isw_g f_power
  have g_const := isw_g f_const
  clear f_param f_input f_scale f_power f_const
  have HPt : Hid (∀ v, Calls Tryz.prog 24 #[.string op] v fun e w' => e = .returned (.int .i64 (1)) ∧ Below v.heap.size v w') := fun v => by
    have := refParts_any op v
    rw [hm] at this
    exact this
  clear hm
  go_enter Tryz.func11, Tryz.ntmps11
  go_wp2_with fail
  refine (HPt.out _).mono ?_
  rintro e w1 ⟨rfl, hB1⟩
  obtain ⟨o1, -, hBx⟩ := own1 hB1
  have q0 := o1 0
  have q1 := o1 1
  have q2 := o1 2
  have q3 := o1 3
  have q4 := o1 4
  have q5 := o1 5
  have q6 := o1 6
  have q7 := o1 7
  simp at q0 q1 q2 q3 q4 q5 q6 q7
  have HB1 : Hid (Below w.heap.size w w1) := hBx
  obtain ⟨p, hp⟩ : ∃ p, w.heap.size = p := ⟨_, rfl⟩
  clear hB1 hBx o1 HPt
  simp only [hp] at q0 q1 q2 q3 q4 q5 q6 q7 ⊢
  have HP : Hid _ := hp
  clear hp
  have hne : (name.toList == []) = false := emp_no hn0
  go_wp2
  go_ret2
  exact ⟨⟨_, _, _, rfl⟩, HP.out ▸ HB1.out⟩

set_option maxHeartbeats 1000000 in
theorem refShape_O_fok (op name K : ByteArray) (A B n : Int) (sl sc dl dc ll c : Nat) (sa da ao : Option Addr) (w : World) (hm : prv op = 1) (hA : ¬ A < 0) (hA2 : ¬ (ll : Int) ≤ A) (hB : B = 0) (f_param : isw op lParam = false) (f_input : isw op lInput = false) (f_scale : isw op lScale = false) (f_power : isw op lPower = false) (f_const : isw op lConst = false) (hn0 : name.size = 0) (hf : ¬ (K.size = 0 ∧ n = 0 ∧ dl = 0)) : Calls Tryz.prog 11 #[.slice ao ll c, .agg #[.string op, .int .i64 A, .int .i64 B, .string name, .slice sa sl sc, .string K, .int .i64 n, .slice da dl dc]] w fun e w' => (∃ a n c, e = .returned (.tuple #[.slice a n c, .bool false])) ∧ Below w.heap.size w w' := by
  have g_param := isw_g f_param
  have g_input := isw_g f_input
  have g_scale := isw_g f_scale
  have g_power := isw_g f_power
  have g_const := isw_g f_const
  clear f_param f_input f_scale f_power f_const
  have HPt : Hid (∀ v, Calls Tryz.prog 24 #[.string op] v fun e w' => e = .returned (.int .i64 (1)) ∧ Below v.heap.size v w') := fun v => by
    have := refParts_any op v
    rw [hm] at this
    exact this
  clear hm
  go_enter Tryz.func11, Tryz.ntmps11
  go_wp2_with fail
  refine (HPt.out _).mono ?_
  rintro e w1 ⟨rfl, hB1⟩
  obtain ⟨o1, -, hBx⟩ := own1 hB1
  have q0 := o1 0
  have q1 := o1 1
  have q2 := o1 2
  have q3 := o1 3
  have q4 := o1 4
  have q5 := o1 5
  have q6 := o1 6
  have q7 := o1 7
  simp at q0 q1 q2 q3 q4 q5 q6 q7
  have HB1 : Hid (Below w.heap.size w w1) := hBx
  obtain ⟨p, hp⟩ : ∃ p, w.heap.size = p := ⟨_, rfl⟩
  clear hB1 hBx o1 HPt
  simp only [hp] at q0 q1 q2 q3 q4 q5 q6 q7 ⊢
  have HP : Hid _ := hp
  clear hp
  have hne : (name.toList == []) = true := emp_yes hn0
  go_upto_region 9 with fail
  by_cases hk : K.size = 0
  rotate_left
  · have hke : (K.toList == []) = false := emp_no hk
    clear hf
    go_wp2
    go_ret2
    exact ⟨⟨_, _, _, rfl⟩, HP.out ▸ HB1.out⟩
  have hke : (K.toList == []) = true := emp_yes hk
  by_cases hn : n = 0
  rotate_left
  · skip
    clear hf
    go_wp2
    go_ret2
    exact ⟨⟨_, _, _, rfl⟩, HP.out ▸ HB1.out⟩
  skip
  by_cases hd : dl = 0
  rotate_left
  · have hd0 : 0 < dl := by omega
    clear hf
    go_wp2
    go_ret2
    exact ⟨⟨_, _, _, rfl⟩, HP.out ▸ HB1.out⟩
  skip
  exact absurd ⟨hk, hn, hd⟩ hf

set_option maxHeartbeats 1000000 in
theorem refShape_T_name (op name K : ByteArray) (A B n : Int) (sl sc dl dc ll c : Nat) (sa da ao : Option Addr) (w : World) (hm : prv op = 2) (hA : ¬ A < 0) (hA2 : ¬ (ll : Int) ≤ A) (hB : ¬ B < 0) (hB2 : ¬ (ll : Int) ≤ B) (f_param : isw op lParam = false) (f_input : isw op lInput = false) (f_scale : isw op lScale = false) (f_power : isw op lPower = false) (f_const : isw op lConst = false) (hn0 : ¬ name.size = 0) : Calls Tryz.prog 11 #[.slice ao ll c, .agg #[.string op, .int .i64 A, .int .i64 B, .string name, .slice sa sl sc, .string K, .int .i64 n, .slice da dl dc]] w fun e w' => (∃ a n c, e = .returned (.tuple #[.slice a n c, .bool false])) ∧ Below w.heap.size w w' := by
  have g_param := isw_g f_param
  have g_input := isw_g f_input
  have g_scale := isw_g f_scale
  have g_power := isw_g f_power
  have g_const := isw_g f_const
  clear f_param f_input f_scale f_power f_const
  have HPt : Hid (∀ v, Calls Tryz.prog 24 #[.string op] v fun e w' => e = .returned (.int .i64 (2)) ∧ Below v.heap.size v w') := fun v => by
    have := refParts_any op v
    rw [hm] at this
    exact this
  clear hm
  go_enter Tryz.func11, Tryz.ntmps11
  go_wp2_with fail
  refine (HPt.out _).mono ?_
  rintro e w1 ⟨rfl, hB1⟩
  obtain ⟨o1, -, hBx⟩ := own1 hB1
  have q0 := o1 0
  have q1 := o1 1
  have q2 := o1 2
  have q3 := o1 3
  have q4 := o1 4
  have q5 := o1 5
  have q6 := o1 6
  have q7 := o1 7
  simp at q0 q1 q2 q3 q4 q5 q6 q7
  have HB1 : Hid (Below w.heap.size w w1) := hBx
  obtain ⟨p, hp⟩ : ∃ p, w.heap.size = p := ⟨_, rfl⟩
  clear hB1 hBx o1 HPt
  simp only [hp] at q0 q1 q2 q3 q4 q5 q6 q7 ⊢
  have HP : Hid _ := hp
  clear hp
  have hne : (name.toList == []) = false := emp_no hn0
  go_wp2
  go_ret2
  exact ⟨⟨_, _, _, rfl⟩, HP.out ▸ HB1.out⟩

set_option maxHeartbeats 1000000 in
theorem refShape_T_fok (op name K : ByteArray) (A B n : Int) (sl sc dl dc ll c : Nat) (sa da ao : Option Addr) (w : World) (hm : prv op = 2) (hA : ¬ A < 0) (hA2 : ¬ (ll : Int) ≤ A) (hB : ¬ B < 0) (hB2 : ¬ (ll : Int) ≤ B) (f_param : isw op lParam = false) (f_input : isw op lInput = false) (f_scale : isw op lScale = false) (f_power : isw op lPower = false) (f_const : isw op lConst = false) (hn0 : name.size = 0) (hf : ¬ (K.size = 0 ∧ n = 0 ∧ dl = 0)) : Calls Tryz.prog 11 #[.slice ao ll c, .agg #[.string op, .int .i64 A, .int .i64 B, .string name, .slice sa sl sc, .string K, .int .i64 n, .slice da dl dc]] w fun e w' => (∃ a n c, e = .returned (.tuple #[.slice a n c, .bool false])) ∧ Below w.heap.size w w' := by
  have g_param := isw_g f_param
  have g_input := isw_g f_input
  have g_scale := isw_g f_scale
  have g_power := isw_g f_power
  have g_const := isw_g f_const
  clear f_param f_input f_scale f_power f_const
  have HPt : Hid (∀ v, Calls Tryz.prog 24 #[.string op] v fun e w' => e = .returned (.int .i64 (2)) ∧ Below v.heap.size v w') := fun v => by
    have := refParts_any op v
    rw [hm] at this
    exact this
  clear hm
  go_enter Tryz.func11, Tryz.ntmps11
  go_wp2_with fail
  refine (HPt.out _).mono ?_
  rintro e w1 ⟨rfl, hB1⟩
  obtain ⟨o1, -, hBx⟩ := own1 hB1
  have q0 := o1 0
  have q1 := o1 1
  have q2 := o1 2
  have q3 := o1 3
  have q4 := o1 4
  have q5 := o1 5
  have q6 := o1 6
  have q7 := o1 7
  simp at q0 q1 q2 q3 q4 q5 q6 q7
  have HB1 : Hid (Below w.heap.size w w1) := hBx
  obtain ⟨p, hp⟩ : ∃ p, w.heap.size = p := ⟨_, rfl⟩
  clear hB1 hBx o1 HPt
  simp only [hp] at q0 q1 q2 q3 q4 q5 q6 q7 ⊢
  have HP : Hid _ := hp
  clear hp
  have hne : (name.toList == []) = true := emp_yes hn0
  go_upto_region 9 with fail
  by_cases hk : K.size = 0
  rotate_left
  · have hke : (K.toList == []) = false := emp_no hk
    clear hf
    go_wp2
    go_ret2
    exact ⟨⟨_, _, _, rfl⟩, HP.out ▸ HB1.out⟩
  have hke : (K.toList == []) = true := emp_yes hk
  by_cases hn : n = 0
  rotate_left
  · skip
    clear hf
    go_wp2
    go_ret2
    exact ⟨⟨_, _, _, rfl⟩, HP.out ▸ HB1.out⟩
  skip
  by_cases hd : dl = 0
  rotate_left
  · have hd0 : 0 < dl := by omega
    clear hf
    go_wp2
    go_ret2
    exact ⟨⟨_, _, _, rfl⟩, HP.out ▸ HB1.out⟩
  skip
  exact absurd ⟨hk, hn, hd⟩ hf
end Go.Proofs.YtadgnafafdfioaaGreatDoor.Gr
