/-
  THE PACKAGE's ERROR IN ITS VARIABLE. Nothing else of errors is asked in this stage. Conditions: it stands where it was laid (Er).
-/
import Derived.Test.YtadgnafafdfioaaGreatDoorLeaf
import Derived.Test.YtadgnafafdfioaaGreatDoorWhole
namespace Go.Proofs.YtadgnafafdfioaaGreatDoor
section
set_option maxRecDepth 100000
open Go.RowKit Nm
set_option linter.unusedVariables false

/-- an error of the package, at its address -/
abbrev sentinel (a : Addr) : Value := .iface 161 (.pointer (some a))
/-- a text and what is wrong with it -/
abbrev fault (s : ByteArray) (a : Addr) : Value := .iface 110 (.agg #[.string s, sentinel a])

/-- the error of the package in its variable -/
structure Er (w : World) (aF aZ : Addr) : Prop where
  f : w.cell? ⟨0, 0, none⟩ = some (sentinel aF)

theorem lt_of_some {w : World} {k : Nat} {o : Obj} (h : w.heap[k]? = some o) : k < w.heap.size := by
  rcases Nat.lt_or_ge k w.heap.size with h1 | h1
  · exact h1
  · rw [Array.getElem?_eq_none h1] at h; cases h
theorem lt_of_cell {w : World} {a : Addr} {v : Value} (h : w.cell? a = some v) : a.block < w.heap.size := by
  rcases Nat.lt_or_ge a.block w.heap.size with h1 | h1
  · exact h1
  · simp [World.cell?, Array.getElem?_eq_none h1] at h
theorem cell_below {w v : World} (h : Below w.heap.size w v) {a : Addr} {x : Value} (e : w.cell? a = some x) : v.cell? a = some x := by
  have := h.block a.block (lt_of_cell e)
  rw [← e]; unfold World.cell?; rw [this]
theorem Er.below {w v : World} {aF aZ : Addr} (e : Er w aF aZ) (h : Below w.heap.size w v) : Er v aF aZ := ⟨cell_below h e.f⟩
theorem Er.more {w : World} {aF aZ : Addr} (e : Er w aF aZ) (o : Obj) : Er (w.alloc o) aF aZ := e.below (bl_alloc (Below.refl _ _) o)
end
end Go.Proofs.YtadgnafafdfioaaGreatDoor
