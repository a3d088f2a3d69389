/-
  WHAT THE DOCUMENT's Parts AND find GIVE. Conditions: each theorem's own.
-/
import Derived.Test.YtadgnafafdfioaaDoorGP
import Derived.Test.YtadgnafafdfioaaDoorNam
import Derived.Test.YtadgnafafdfioaaDoorTell
namespace Go.Proofs.YtadgnafafdfioaaDoor.Gr
open Go.Proofs.YtadgnafafdfioaaDoor.Rd
set_option maxRecDepth 100000
open Go.RowKit
set_option linter.unusedVariables false
set_option linter.unusedSimpArgs false

def prv (x : ByteArray) : Int := match prs x with | some m => (m : Int) | none => -1
theorem lit_cells (w : World) (L : List (List UInt8)) (e : TypeId) (i : Nat) (hi : i < L.length) : (w.alloc (.cells (txts (L.map str)).toArray e)).cell? ⟨w.heap.size, i, none⟩ = some (.string (str (L.getD i []))) := by
  rw [World.cell?_alloc_new]
  simp [txts, List.getD, hi]
theorem isw_ne {x : ByteArray} {l : List UInt8} (h : ¬ str l = x) : isw x l = false := by
  cases c : isw x l with
  | false => rfl
  | true => exact absurd (isw_eq c).symm h
theorem list_ne {x y : ByteArray} (h : ¬ y = x) : (y.toList == x.toList) = false := by
  cases c : (y.toList == x.toList) with
  | false => rfl
  | true =>
    have e := eq_of_beq c
    rw [toList_data, toList_data] at e
    exact absurd (by cases x; cases y; simpa using e) h
theorem any_none {x : ByteArray} {L : List (List UInt8)} (h : ∀ j, j < L.length → isw x (L.getD j []) = false) : L.any (isw x) = false := by
  rw [List.any_eq_false]
  intro l hl
  obtain ⟨i, hi, rfl⟩ := List.getElem_of_mem hl
  have := h i hi
  simp [List.getD, hi] at this
  simp [this]
theorem prv_none {x : ByteArray} (h0 : ∀ j, j < 3 → isw x (noLs.getD j []) = false) (h1 : ∀ j, j < 10 → isw x (oneLs.getD j []) = false) (h2 : ∀ j, j < 6 → isw x (twoLs.getD j []) = false) : prv x = -1 := by
  unfold prv prs
  rw [any_none (L := noLs) h0, any_none (L := oneLs) h1, any_none (L := twoLs) h2]
  rfl
theorem prv_no : ∀ k, k < 3 → prv (str (noLs.getD k [])) = 0 := by decide
theorem prv_one : ∀ k, k < 10 → prv (str (oneLs.getD k [])) = 1 := by decide
theorem prv_two : ∀ k, k < 6 → prv (str (twoLs.getD k [])) = 2 := by decide
end Go.Proofs.YtadgnafafdfioaaDoor.Gr
