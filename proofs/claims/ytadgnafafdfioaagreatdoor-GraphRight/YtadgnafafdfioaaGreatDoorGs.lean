/-
  WHAT THE DOCUMENT's Shape GIVES, case by case. Conditions: each theorem's own.
-/
import Derived.Test.YtadgnafafdfioaaGreatDoorGm
namespace Go.Proofs.YtadgnafafdfioaaGreatDoor.Gr
open Go.Proofs.YtadgnafafdfioaaGreatDoor.Rd
set_option maxRecDepth 100000
open Go.RowKit
set_option linter.unusedVariables false
set_option linter.unusedSimpArgs false

/-- what Shape tells -/
def Shp (w' : World) (o : Option (List Int)) (e : Ending) : Prop :=
  match o with
  | some s => ∃ a c, e = .returned (.tuple #[.slice a s.length c, .bool true]) ∧ Sp.Sl w' a s
  | none => ∃ a n c, e = .returned (.tuple #[.slice a n c, .bool false])

set_option maxHeartbeats 1000000 in
theorem refShape_op (op name K : ByteArray) (A B n : Int) (sl sc dl dc ll c : Nat) (sa da ao : Option Addr) (w : World) (hm : prv op = -1)  : Calls Tryz.prog 11 #[.slice ao ll c, .agg #[.string op, .int .i64 A, .int .i64 B, .string name, .slice sa sl sc, .string K, .int .i64 n, .slice da dl dc]] w fun e w' => (∃ a n c, e = .returned (.tuple #[.slice a n c, .bool false])) ∧ Below w.heap.size w w' := by
  have HPt : Hid (∀ v, Calls Tryz.prog 24 #[.string op] v fun e w' => e = .returned (.int .i64 (-1)) ∧ Below v.heap.size v w') := fun v => by
    have := refParts_any op v
    rw [hm] at this
    exact this
  clear hm
  go_enter Tryz.func11, Tryz.ntmps11
  go_wp2_with fail
  refine (HPt.out _).mono ?_
  rintro e w1 ⟨rfl, hB1⟩
  obtain ⟨o1, -, hBx⟩ := own1 hB1
  have q0 := o1 0
  have q1 := o1 1
  have q2 := o1 2
  have q3 := o1 3
  have q4 := o1 4
  have q5 := o1 5
  have q6 := o1 6
  have q7 := o1 7
  simp at q0 q1 q2 q3 q4 q5 q6 q7
  have HB1 : Hid (Below w.heap.size w w1) := hBx
  obtain ⟨p, hp⟩ : ∃ p, w.heap.size = p := ⟨_, rfl⟩
  clear hB1 hBx o1 HPt
  simp only [hp] at q0 q1 q2 q3 q4 q5 q6 q7 ⊢
  have HP : Hid _ := hp
  clear hp
  go_wp2
  go_ret2
  exact ⟨⟨_, _, _, rfl⟩, HP.out ▸ HB1.out⟩

set_option maxHeartbeats 1000000 in
theorem refShape_0a (op name K : ByteArray) (A B n : Int) (sl sc dl dc ll c : Nat) (sa da ao : Option Addr) (w : World) (hm : prv op = 0) (hA : ¬ A = 0) : Calls Tryz.prog 11 #[.slice ao ll c, .agg #[.string op, .int .i64 A, .int .i64 B, .string name, .slice sa sl sc, .string K, .int .i64 n, .slice da dl dc]] w fun e w' => (∃ a n c, e = .returned (.tuple #[.slice a n c, .bool false])) ∧ Below w.heap.size w w' := by
  have HPt : Hid (∀ v, Calls Tryz.prog 24 #[.string op] v fun e w' => e = .returned (.int .i64 (0)) ∧ Below v.heap.size v w') := fun v => by
    have := refParts_any op v
    rw [hm] at this
    exact this
  clear hm
  go_enter Tryz.func11, Tryz.ntmps11
  go_wp2_with fail
  refine (HPt.out _).mono ?_
  rintro e w1 ⟨rfl, hB1⟩
  obtain ⟨o1, -, hBx⟩ := own1 hB1
  have q0 := o1 0
  have q1 := o1 1
  have q2 := o1 2
  have q3 := o1 3
  have q4 := o1 4
  have q5 := o1 5
  have q6 := o1 6
  have q7 := o1 7
  simp at q0 q1 q2 q3 q4 q5 q6 q7
  have HB1 : Hid (Below w.heap.size w w1) := hBx
  obtain ⟨p, hp⟩ : ∃ p, w.heap.size = p := ⟨_, rfl⟩
  clear hB1 hBx o1 HPt
  simp only [hp] at q0 q1 q2 q3 q4 q5 q6 q7 ⊢
  have HP : Hid _ := hp
  clear hp
  go_wp2
  go_ret2
  exact ⟨⟨_, _, _, rfl⟩, HP.out ▸ HB1.out⟩

set_option maxHeartbeats 1000000 in
theorem refShape_0b (op name K : ByteArray) (A B n : Int) (sl sc dl dc ll c : Nat) (sa da ao : Option Addr) (w : World) (hm : prv op = 0) (hA : A = 0) (hB : ¬ B = 0) : Calls Tryz.prog 11 #[.slice ao ll c, .agg #[.string op, .int .i64 A, .int .i64 B, .string name, .slice sa sl sc, .string K, .int .i64 n, .slice da dl dc]] w fun e w' => (∃ a n c, e = .returned (.tuple #[.slice a n c, .bool false])) ∧ Below w.heap.size w w' := by
  have HPt : Hid (∀ v, Calls Tryz.prog 24 #[.string op] v fun e w' => e = .returned (.int .i64 (0)) ∧ Below v.heap.size v w') := fun v => by
    have := refParts_any op v
    rw [hm] at this
    exact this
  clear hm
  go_enter Tryz.func11, Tryz.ntmps11
  go_wp2_with fail
  refine (HPt.out _).mono ?_
  rintro e w1 ⟨rfl, hB1⟩
  obtain ⟨o1, -, hBx⟩ := own1 hB1
  have q0 := o1 0
  have q1 := o1 1
  have q2 := o1 2
  have q3 := o1 3
  have q4 := o1 4
  have q5 := o1 5
  have q6 := o1 6
  have q7 := o1 7
  simp at q0 q1 q2 q3 q4 q5 q6 q7
  have HB1 : Hid (Below w.heap.size w w1) := hBx
  obtain ⟨p, hp⟩ : ∃ p, w.heap.size = p := ⟨_, rfl⟩
  clear hB1 hBx o1 HPt
  simp only [hp] at q0 q1 q2 q3 q4 q5 q6 q7 ⊢
  have HP : Hid _ := hp
  clear hp
  go_wp2
  go_ret2
  exact ⟨⟨_, _, _, rfl⟩, HP.out ▸ HB1.out⟩

set_option maxHeartbeats 1000000 in
theorem refShape_1b (op name K : ByteArray) (A B n : Int) (sl sc dl dc ll c : Nat) (sa da ao : Option Addr) (w : World) (hm : prv op = 1) (hB : ¬ B = 0) : Calls Tryz.prog 11 #[.slice ao ll c, .agg #[.string op, .int .i64 A, .int .i64 B, .string name, .slice sa sl sc, .string K, .int .i64 n, .slice da dl dc]] w fun e w' => (∃ a n c, e = .returned (.tuple #[.slice a n c, .bool false])) ∧ Below w.heap.size w w' := by
  have HPt : Hid (∀ v, Calls Tryz.prog 24 #[.string op] v fun e w' => e = .returned (.int .i64 (1)) ∧ Below v.heap.size v w') := fun v => by
    have := refParts_any op v
    rw [hm] at this
    exact this
  clear hm
  go_enter Tryz.func11, Tryz.ntmps11
  go_wp2_with fail
  refine (HPt.out _).mono ?_
  rintro e w1 ⟨rfl, hB1⟩
  obtain ⟨o1, -, hBx⟩ := own1 hB1
  have q0 := o1 0
  have q1 := o1 1
  have q2 := o1 2
  have q3 := o1 3
  have q4 := o1 4
  have q5 := o1 5
  have q6 := o1 6
  have q7 := o1 7
  simp at q0 q1 q2 q3 q4 q5 q6 q7
  have HB1 : Hid (Below w.heap.size w w1) := hBx
  obtain ⟨p, hp⟩ : ∃ p, w.heap.size = p := ⟨_, rfl⟩
  clear hB1 hBx o1 HPt
  simp only [hp] at q0 q1 q2 q3 q4 q5 q6 q7 ⊢
  have HP : Hid _ := hp
  clear hp
  go_wp2
  go_ret2
  exact ⟨⟨_, _, _, rfl⟩, HP.out ▸ HB1.out⟩

set_option maxHeartbeats 1000000 in
theorem refShape_1a (op name K : ByteArray) (A B n : Int) (sl sc dl dc ll c : Nat) (sa da ao : Option Addr) (w : World) (hm : prv op = 1) (hB : B = 0) (hA : A < 0) : Calls Tryz.prog 11 #[.slice ao ll c, .agg #[.string op, .int .i64 A, .int .i64 B, .string name, .slice sa sl sc, .string K, .int .i64 n, .slice da dl dc]] w fun e w' => (∃ a n c, e = .returned (.tuple #[.slice a n c, .bool false])) ∧ Below w.heap.size w w' := by
  have HPt : Hid (∀ v, Calls Tryz.prog 24 #[.string op] v fun e w' => e = .returned (.int .i64 (1)) ∧ Below v.heap.size v w') := fun v => by
    have := refParts_any op v
    rw [hm] at this
    exact this
  clear hm
  go_enter Tryz.func11, Tryz.ntmps11
  go_wp2_with fail
  refine (HPt.out _).mono ?_
  rintro e w1 ⟨rfl, hB1⟩
  obtain ⟨o1, -, hBx⟩ := own1 hB1
  have q0 := o1 0
  have q1 := o1 1
  have q2 := o1 2
  have q3 := o1 3
  have q4 := o1 4
  have q5 := o1 5
  have q6 := o1 6
  have q7 := o1 7
  simp at q0 q1 q2 q3 q4 q5 q6 q7
  have HB1 : Hid (Below w.heap.size w w1) := hBx
  obtain ⟨p, hp⟩ : ∃ p, w.heap.size = p := ⟨_, rfl⟩
  clear hB1 hBx o1 HPt
  simp only [hp] at q0 q1 q2 q3 q4 q5 q6 q7 ⊢
  have HP : Hid _ := hp
  clear hp
  go_wp2
  go_ret2
  exact ⟨⟨_, _, _, rfl⟩, HP.out ▸ HB1.out⟩

set_option maxHeartbeats 1000000 in
theorem refShape_1l (op name K : ByteArray) (A B n : Int) (sl sc dl dc ll c : Nat) (sa da ao : Option Addr) (w : World) (hm : prv op = 1) (hB : B = 0) (hA : ¬ A < 0) (hA2 : (ll : Int) ≤ A) : Calls Tryz.prog 11 #[.slice ao ll c, .agg #[.string op, .int .i64 A, .int .i64 B, .string name, .slice sa sl sc, .string K, .int .i64 n, .slice da dl dc]] w fun e w' => (∃ a n c, e = .returned (.tuple #[.slice a n c, .bool false])) ∧ Below w.heap.size w w' := by
  have HPt : Hid (∀ v, Calls Tryz.prog 24 #[.string op] v fun e w' => e = .returned (.int .i64 (1)) ∧ Below v.heap.size v w') := fun v => by
    have := refParts_any op v
    rw [hm] at this
    exact this
  clear hm
  go_enter Tryz.func11, Tryz.ntmps11
  go_wp2_with fail
  refine (HPt.out _).mono ?_
  rintro e w1 ⟨rfl, hB1⟩
  obtain ⟨o1, -, hBx⟩ := own1 hB1
  have q0 := o1 0
  have q1 := o1 1
  have q2 := o1 2
  have q3 := o1 3
  have q4 := o1 4
  have q5 := o1 5
  have q6 := o1 6
  have q7 := o1 7
  simp at q0 q1 q2 q3 q4 q5 q6 q7
  have HB1 : Hid (Below w.heap.size w w1) := hBx
  obtain ⟨p, hp⟩ : ∃ p, w.heap.size = p := ⟨_, rfl⟩
  clear hB1 hBx o1 HPt
  simp only [hp] at q0 q1 q2 q3 q4 q5 q6 q7 ⊢
  have HP : Hid _ := hp
  clear hp
  go_wp2
  go_ret2
  exact ⟨⟨_, _, _, rfl⟩, HP.out ▸ HB1.out⟩

set_option maxHeartbeats 1000000 in
theorem refShape_2a (op name K : ByteArray) (A B n : Int) (sl sc dl dc ll c : Nat) (sa da ao : Option Addr) (w : World) (hm : prv op = 2) (hA : A < 0) : Calls Tryz.prog 11 #[.slice ao ll c, .agg #[.string op, .int .i64 A, .int .i64 B, .string name, .slice sa sl sc, .string K, .int .i64 n, .slice da dl dc]] w fun e w' => (∃ a n c, e = .returned (.tuple #[.slice a n c, .bool false])) ∧ Below w.heap.size w w' := by
  have HPt : Hid (∀ v, Calls Tryz.prog 24 #[.string op] v fun e w' => e = .returned (.int .i64 (2)) ∧ Below v.heap.size v w') := fun v => by
    have := refParts_any op v
    rw [hm] at this
    exact this
  clear hm
  go_enter Tryz.func11, Tryz.ntmps11
  go_wp2_with fail
  refine (HPt.out _).mono ?_
  rintro e w1 ⟨rfl, hB1⟩
  obtain ⟨o1, -, hBx⟩ := own1 hB1
  have q0 := o1 0
  have q1 := o1 1
  have q2 := o1 2
  have q3 := o1 3
  have q4 := o1 4
  have q5 := o1 5
  have q6 := o1 6
  have q7 := o1 7
  simp at q0 q1 q2 q3 q4 q5 q6 q7
  have HB1 : Hid (Below w.heap.size w w1) := hBx
  obtain ⟨p, hp⟩ : ∃ p, w.heap.size = p := ⟨_, rfl⟩
  clear hB1 hBx o1 HPt
  simp only [hp] at q0 q1 q2 q3 q4 q5 q6 q7 ⊢
  have HP : Hid _ := hp
  clear hp
  go_wp2
  go_ret2
  exact ⟨⟨_, _, _, rfl⟩, HP.out ▸ HB1.out⟩

set_option maxHeartbeats 1000000 in
theorem refShape_2l (op name K : ByteArray) (A B n : Int) (sl sc dl dc ll c : Nat) (sa da ao : Option Addr) (w : World) (hm : prv op = 2) (hA : ¬ A < 0) (hA2 : (ll : Int) ≤ A) : Calls Tryz.prog 11 #[.slice ao ll c, .agg #[.string op, .int .i64 A, .int .i64 B, .string name, .slice sa sl sc, .string K, .int .i64 n, .slice da dl dc]] w fun e w' => (∃ a n c, e = .returned (.tuple #[.slice a n c, .bool false])) ∧ Below w.heap.size w w' := by
  have HPt : Hid (∀ v, Calls Tryz.prog 24 #[.string op] v fun e w' => e = .returned (.int .i64 (2)) ∧ Below v.heap.size v w') := fun v => by
    have := refParts_any op v
    rw [hm] at this
    exact this
  clear hm
  go_enter Tryz.func11, Tryz.ntmps11
  go_wp2_with fail
  refine (HPt.out _).mono ?_
  rintro e w1 ⟨rfl, hB1⟩
  obtain ⟨o1, -, hBx⟩ := own1 hB1
  have q0 := o1 0
  have q1 := o1 1
  have q2 := o1 2
  have q3 := o1 3
  have q4 := o1 4
  have q5 := o1 5
  have q6 := o1 6
  have q7 := o1 7
  simp at q0 q1 q2 q3 q4 q5 q6 q7
  have HB1 : Hid (Below w.heap.size w w1) := hBx
  obtain ⟨p, hp⟩ : ∃ p, w.heap.size = p := ⟨_, rfl⟩
  clear hB1 hBx o1 HPt
  simp only [hp] at q0 q1 q2 q3 q4 q5 q6 q7 ⊢
  have HP : Hid _ := hp
  clear hp
  go_wp2
  go_ret2
  exact ⟨⟨_, _, _, rfl⟩, HP.out ▸ HB1.out⟩

set_option maxHeartbeats 1000000 in
theorem refShape_2b (op name K : ByteArray) (A B n : Int) (sl sc dl dc ll c : Nat) (sa da ao : Option Addr) (w : World) (hm : prv op = 2) (hA : ¬ A < 0) (hA2 : ¬ (ll : Int) ≤ A) (hB : B < 0) : Calls Tryz.prog 11 #[.slice ao ll c, .agg #[.string op, .int .i64 A, .int .i64 B, .string name, .slice sa sl sc, .string K, .int .i64 n, .slice da dl dc]] w fun e w' => (∃ a n c, e = .returned (.tuple #[.slice a n c, .bool false])) ∧ Below w.heap.size w w' := by
  have HPt : Hid (∀ v, Calls Tryz.prog 24 #[.string op] v fun e w' => e = .returned (.int .i64 (2)) ∧ Below v.heap.size v w') := fun v => by
    have := refParts_any op v
    rw [hm] at this
    exact this
  clear hm
  go_enter Tryz.func11, Tryz.ntmps11
  go_wp2_with fail
  refine (HPt.out _).mono ?_
  rintro e w1 ⟨rfl, hB1⟩
  obtain ⟨o1, -, hBx⟩ := own1 hB1
  have q0 := o1 0
  have q1 := o1 1
  have q2 := o1 2
  have q3 := o1 3
  have q4 := o1 4
  have q5 := o1 5
  have q6 := o1 6
  have q7 := o1 7
  simp at q0 q1 q2 q3 q4 q5 q6 q7
  have HB1 : Hid (Below w.heap.size w w1) := hBx
  obtain ⟨p, hp⟩ : ∃ p, w.heap.size = p := ⟨_, rfl⟩
  clear hB1 hBx o1 HPt
  simp only [hp] at q0 q1 q2 q3 q4 q5 q6 q7 ⊢
  have HP : Hid _ := hp
  clear hp
  go_wp2
  go_ret2
  exact ⟨⟨_, _, _, rfl⟩, HP.out ▸ HB1.out⟩

set_option maxHeartbeats 1000000 in
theorem refShape_2k (op name K : ByteArray) (A B n : Int) (sl sc dl dc ll c : Nat) (sa da ao : Option Addr) (w : World) (hm : prv op = 2) (hA : ¬ A < 0) (hA2 : ¬ (ll : Int) ≤ A) (hB : ¬ B < 0) (hB2 : (ll : Int) ≤ B) : Calls Tryz.prog 11 #[.slice ao ll c, .agg #[.string op, .int .i64 A, .int .i64 B, .string name, .slice sa sl sc, .string K, .int .i64 n, .slice da dl dc]] w fun e w' => (∃ a n c, e = .returned (.tuple #[.slice a n c, .bool false])) ∧ Below w.heap.size w w' := by
  have HPt : Hid (∀ v, Calls Tryz.prog 24 #[.string op] v fun e w' => e = .returned (.int .i64 (2)) ∧ Below v.heap.size v w') := fun v => by
    have := refParts_any op v
    rw [hm] at this
    exact this
  clear hm
  go_enter Tryz.func11, Tryz.ntmps11
  go_wp2_with fail
  refine (HPt.out _).mono ?_
  rintro e w1 ⟨rfl, hB1⟩
  obtain ⟨o1, -, hBx⟩ := own1 hB1
  have q0 := o1 0
  have q1 := o1 1
  have q2 := o1 2
  have q3 := o1 3
  have q4 := o1 4
  have q5 := o1 5
  have q6 := o1 6
  have q7 := o1 7
  simp at q0 q1 q2 q3 q4 q5 q6 q7
  have HB1 : Hid (Below w.heap.size w w1) := hBx
  obtain ⟨p, hp⟩ : ∃ p, w.heap.size = p := ⟨_, rfl⟩
  clear hB1 hBx o1 HPt
  simp only [hp] at q0 q1 q2 q3 q4 q5 q6 q7 ⊢
  have HP : Hid _ := hp
  clear hp
  go_wp2
  go_ret2
  exact ⟨⟨_, _, _, rfl⟩, HP.out ▸ HB1.out⟩
end Go.Proofs.YtadgnafafdfioaaGreatDoor.Gr
