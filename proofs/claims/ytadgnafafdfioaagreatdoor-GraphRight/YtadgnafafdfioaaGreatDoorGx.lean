/-
  SMALL THINGS OF LISTS AND CELLS. Conditions: each theorem's own.
-/
import Derived.Test.YtadgnafafdfioaaGreatDoorGm
namespace Go.Proofs.YtadgnafafdfioaaGreatDoor.Gr
open Go.Proofs.YtadgnafafdfioaaGreatDoor.Rd
set_option maxRecDepth 100000
open Go.RowKit
set_option linter.unusedVariables false
set_option linter.unusedSimpArgs false

theorem row_s {w : World} {bo : Option Addr} {xs : List ByteArray} (h : Row w bo (txts xs)) {i : Nat} (hi : i < xs.length) : ∃ b off, bo = some ⟨b, off, none⟩ ∧ w.cell? ⟨b, off + i, none⟩ = some (.string (xs.getD i em)) := h i _ (txts_at hi)
theorem all_y {p : ByteArray → Bool} {xs : List ByteArray} (h : ∀ i, i < xs.length → p (xs.getD i em) = true) : xs.all p = true := by
  rw [List.all_eq_true]
  intro x hx
  obtain ⟨i, hi, rfl⟩ := List.getElem_of_mem hx
  have := h i hi
  rw [List.getD_eq_getElem?_getD, List.getElem?_eq_getElem hi] at this
  exact this
theorem all_n {p : ByteArray → Bool} {xs : List ByteArray} {i : Nat} (hi : i < xs.length) (h : p (xs.getD i em) = false) : xs.all p = false := by
  rw [List.all_eq_false]
  rw [List.getD_eq_getElem?_getD, List.getElem?_eq_getElem hi] at h
  have h' : p xs[i] = false := h
  exact ⟨xs[i], List.getElem_mem hi, by rw [h']; decide⟩
/-- a value and true, or nothing and false -/
def Cst (b : Bool) (v : Value) (e : Ending) : Prop :=
  match b with
  | true => e = .returned (.tuple #[v, .bool true])
  | false => ∃ a n c, e = .returned (.tuple #[.slice a n c, .bool false])
theorem Cst.yes {b : Bool} {v : Value} {e : Ending} (hb : b = true) (h : e = .returned (.tuple #[v, .bool true])) : Cst b v e := by subst hb; exact h
theorem Cst.no {b : Bool} {v : Value} {e : Ending} (hb : b = false) (h : ∃ a n c, e = .returned (.tuple #[.slice a n c, .bool false])) : Cst b v e := by subst hb; exact h
theorem bl_n {B : Nat} {w v : World} (h : Below B w v) (n : Nat) : Below B w (v.drewN n) := h.trans ⟨rfl, rfl, rfl, Nat.le_refl _, fun _ _ => rfl⟩
theorem sl_two (v : World) (x y : Int) : Sp.Sl (v.alloc (.cells #[.int .i64 x, .int .i64 y] 3)) (some ⟨v.heap.size, 0, none⟩) [x, y] := by
  refine Sp.Sl.mk fun i hi => ?_
  rw [World.cell?_alloc_new]
  have hi' : i < 2 := hi
  have : i = 0 ∨ i = 1 := by omega
  rcases this with rfl | rfl <;> rfl
end Go.Proofs.YtadgnafafdfioaaGreatDoor.Gr
