/-
  THE FIXED ANSWER: a call of awake gives true. No conditions. And what a call of short gives.
-/
import Derived.Test.YtpmnfgbbkmodpaaGreatDoorQuot
namespace Go.Proofs.YtpmnfgbbkmodpaaGreatDoor
set_option maxRecDepth 100000
open Go.RowKit Nm
set_option linter.unusedVariables false

theorem S_lit {l : List UInt8} {n : Nat} (h : rt l = true) (e : dv l = n) : S n = ⟨l.toArray⟩ := by
  unfold S; rw [tx_of h e]

theorem mul_lit (w : World) : Calls Tryz.prog 108 #[.string ⟨#[57, 57, 57, 57, 57, 57, 57, 57, 57, 57, 57]⟩, .string ⟨#[57, 57, 57, 57, 57, 57, 57, 57, 57, 57, 57]⟩] w fun e w' => e = .returned (.tuple #[.string ⟨#[57, 57, 57, 57, 57, 57, 57, 57, 57, 57, 56, 48, 48, 48, 48, 48, 48, 48, 48, 48, 48, 49]⟩, .int .i64 0]) ∧ Below w.heap.size w w' := by
  have e1 : S 99999999999 = ⟨#[57, 57, 57, 57, 57, 57, 57, 57, 57, 57, 57]⟩ := S_lit (l := [57, 57, 57, 57, 57, 57, 57, 57, 57, 57, 57]) (by decide) (by decide)
  have e2 : S (99999999999 * 99999999999) = ⟨#[57, 57, 57, 57, 57, 57, 57, 57, 57, 57, 56, 48, 48, 48, 48, 48, 48, 48, 48, 48, 48, 49]⟩ := S_lit (l := [57, 57, 57, 57, 57, 57, 57, 57, 57, 57, 56, 48, 48, 48, 48, 48, 48, 48, 48, 48, 48, 49]) (by decide) (by decide)
  have ht : tl 99999999999 ≤ 11 := tl_le (by decide) (by decide)
  have h := Mul_any 99999999999 99999999999 w (by omega) (by omega)
  rw [e1, e2] at h
  exact h

theorem div_lit (w : World) : Calls Tryz.prog 82 #[.string ⟨#[49, 48, 48]⟩, .string ⟨#[55]⟩] w fun e w' => e = .returned (.tuple #[.string ⟨#[49, 52]⟩, .string ⟨#[50]⟩, .int .i64 0]) ∧ Below w.heap.size w w' := by
  have e1 : S 100 = ⟨#[49, 48, 48]⟩ := S_lit (l := [49, 48, 48]) (by decide) (by decide)
  have e2 : S 7 = ⟨#[55]⟩ := S_lit (l := [55]) (by decide) (by decide)
  have e3 : S (100 / 7) = ⟨#[49, 52]⟩ := S_lit (l := [49, 52]) (by decide) (by decide)
  have e4 : S (100 % 7) = ⟨#[50]⟩ := S_lit (l := [50]) (by decide) (by decide)
  have ht : tl 100 ≤ 3 := tl_le (by decide) (by decide)
  have h := Div_short 100 7 w (by omega) (by omega) (by omega)
  rw [e1, e2, e3, e4] at h
  exact h

theorem eqS {x y : Nat} (h : x ≠ y) : ((S x).toList == (S y).toList) = false := by
  rw [toList_data, toList_data, S_data, S_data]
  apply beq_eq_false_iff_ne.2
  exact fun e => h (tx_inj e)

/-- two texts in a new block -/
theorem two_cells (w : World) (a b : ByteArray) : ∀ i, i < 2 → (w.alloc (.cells #[.string a, .string b] 9)).cell? ⟨w.heap.size, i, none⟩ = some (.string (if i = 0 then a else b)) := by
  intro i hi
  rw [World.cell?_alloc_new]
  match i, hi with
  | 0, _ => rfl
  | 1, _ => rfl

theorem three_cells (w : World) (a b c : ByteArray) : ∀ i, i < 3 → (w.alloc (.cells #[.string a, .string b, .string c] 9)).cell? ⟨w.heap.size, i, none⟩ = some (.string (if i = 0 then a else if i = 1 then b else c)) := by
  intro i hi
  rw [World.cell?_alloc_new]
  match i, hi with
  | 0, _ => rfl
  | 1, _ => rfl
  | 2, _ => rfl

theorem one_cell (w : World) (a : ByteArray) : ∀ i, i < 1 → (w.alloc (.cells #[.string a] 9)).cell? ⟨w.heap.size, i, none⟩ = some (.string a) := by
  intro i hi
  rw [World.cell?_alloc_new]
  match i, hi with
  | 0, _ => rfl
end Go.Proofs.YtpmnfgbbkmodpaaGreatDoor
