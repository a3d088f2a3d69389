/-
  THE PROGRAM's LINES AS THE DOCUMENT's; ARE LINES THE SAME? Conditions: each theorem's own.
-/
import Derived.Test.YtokfkmncabmmcaaGreatDoorLi
namespace Go.Proofs.YtokfkmncabmmcaaGreatDoor.Lx
set_option maxRecDepth 100000
open Go.RowKit
set_option linter.unusedVariables false

theorem one_cell_ow {w : World} {u : Value} {ws : List Bt} (h : Ow w u ws) : u.oneCell' = true := one_cell_slice u ws h
theorem take_more {α : Type} (l : List α) (k : Nat) (x : α) (h : l[k]? = some x) : l.take (k + 1) = l.take k ++ [x] := by
  rw [List.take_add_one, h]; rfl
theorem getE {α : Type} (l : List α) (k : Nat) (h : k < l.length) : ∃ x, l[k]? = some x := ⟨l[k], List.getElem?_eq_getElem h⟩

theorem arr_tx (x y : Bt) : ((⟨x.toArray⟩ : ByteArray) = ⟨y.toArray⟩) ↔ x = y := by
  constructor
  · intro h
    have := congrArg (fun b : ByteArray => b.data.toList) h
    simpa using this
  · rintro rfl; rfl
theorem eq_upto {la lb : List (Nat × List Bt)} (hl : la.length = lb.length) (h : ∀ (j : Nat) (x y : Nat × List Bt), la[j]? = some x → lb[j]? = some y → x = y) : la = lb := by
  apply List.ext_getElem? 
  intro j
  by_cases c : j < la.length
  · obtain ⟨x, hx⟩ := getE la j c
    obtain ⟨y, hy⟩ := getE lb j (by omega)
    rw [hx, hy, h j x y hx hy]
  · rw [List.getElem?_eq_none (by omega), List.getElem?_eq_none (by omega)]

end Go.Proofs.YtokfkmncabmmcaaGreatDoor.Lx
