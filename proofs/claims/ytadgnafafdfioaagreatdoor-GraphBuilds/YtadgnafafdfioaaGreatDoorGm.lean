/-
  NODES IN MEMORY, as they are read; whether a text is a rational. Conditions: each theorem's own.
-/
import Derived.Test.YtadgnafafdfioaaGreatDoorGq
import Derived.Test.YtadgnafafdfioaaGreatDoorReadR
namespace Go.Proofs.YtadgnafafdfioaaGreatDoor.Gr
open Go.Proofs.YtadgnafafdfioaaGreatDoor.Rd
set_option maxRecDepth 100000
open Go.RowKit
set_option linter.unusedVariables false
set_option linter.unusedSimpArgs false

/-- a text is a rational, or none -/
theorem refRead_any (s : ByteArray) (hs : s.size ≤ 20000) : ∃ X Y, ∀ w : World, Calls Tryz.prog 28 #[.string s] w fun e w' => e = .returned (.tuple #[.agg #[.string X, .string Y], .bool (ra s)]) ∧ Below w.heap.size w w' := by
  cases h : ra s with
  | true =>
    obtain ⟨q, rfl⟩ := R_of h
    exact ⟨_, _, fun w => Read_R q w hs⟩
  | false => exact Read_one s hs h

/-- the eight cells of a node -/
def ncl (nd : Nd) (sa : Option Addr) (sc : Nat) (da : Option Addr) (dc : Nat) : List Value :=
  [.string nd.op, .int .i64 nd.a, .int .i64 nd.b, .string nd.name, .slice sa nd.shape.length sc, .string nd.k, .int .i64 nd.n, .slice da nd.data.length dc]
/-- cells that are a node's -/
def Nc (w : World) (cs : List Value) (nd : Nd) : Prop := ∃ sa sc da dc, cs = ncl nd sa sc da dc ∧ Sp.Sl w sa nd.shape ∧ Row w da (txts nd.data)
theorem sl_below {w v : World} {a : Option Addr} {zs : List Int} (h : Sp.Sl w a zs) (hb : Below w.heap.size w v) : Sp.Sl v a zs := fun i hi => by
  obtain ⟨b, off, e, hc⟩ := h i hi
  exact ⟨b, off, e, cell_below hb hc⟩
theorem Nc.below {w v : World} {cs : List Value} {nd : Nd} (h : Nc w cs nd) (hb : Below w.heap.size w v) : Nc v cs nd := by
  obtain ⟨sa, sc, da, dc, e, h1, h2⟩ := h
  exact ⟨sa, sc, da, dc, e, sl_below h1 hb, h2.below hb⟩
/-- nodes in memory -/
def Nl (w : World) (ao : Option Addr) (l : List Nd) : Prop := ∀ i, i < l.length → ∃ b off cs, ao = some ⟨b, off, none⟩ ∧ Nc w cs (l.getD i zn) ∧ ∀ j, j < 8 → w.cell? ⟨b, off + i * 8 + j, none⟩ = cs[j]?
theorem ncl_at (nd : Nd) (sa : Option Addr) (sc : Nat) (da : Option Addr) (dc : Nat) {j : Nat} (hj : j < 8) : ∃ x, (ncl nd sa sc da dc)[j]? = some x := by
  have : j = 0 ∨ j = 1 ∨ j = 2 ∨ j = 3 ∨ j = 4 ∨ j = 5 ∨ j = 6 ∨ j = 7 := by omega
  rcases this with rfl | rfl | rfl | rfl | rfl | rfl | rfl | rfl <;> exact ⟨_, rfl⟩
theorem Nl.below {w v : World} {ao : Option Addr} {l : List Nd} (h : Nl w ao l) (hb : Below w.heap.size w v) : Nl v ao l := by
  intro i hi
  obtain ⟨b, off, cs, e, hn, hc⟩ := h i hi
  refine ⟨b, off, cs, e, hn.below hb, fun j hj => ?_⟩
  have hn' := hn
  obtain ⟨sa, sc, da, dc, rfl, _⟩ := hn'
  obtain ⟨x, hx⟩ := ncl_at (l.getD i zn) sa sc da dc hj
  have := hc j hj
  rw [hx] at this ⊢
  exact cell_below hb this
/-- the shape of the node at a place, in memory -/
theorem Nl.shape {w : World} {ao : Option Addr} {l : List Nd} (h : Nl w ao l) {i : Nat} (hi : i < l.length) :
    ∃ b off sa sc, ao = some ⟨b, off, none⟩ ∧ w.cell? ⟨b, off + i * 8 + 4, none⟩ = some (.slice sa (l.getD i zn).shape.length sc) ∧ Sp.Sl w sa (l.getD i zn).shape := by
  obtain ⟨b, off, cs, e, ⟨sa, sc, da, dc, rfl, h1, h2⟩, hc⟩ := h i hi
  exact ⟨b, off, sa, sc, e, hc 4 (by omega), h1⟩
/-- a node by value -/
def nv (nd : Nd) (sa : Option Addr) (sc : Nat) (da : Option Addr) (dc : Nat) : Value := .agg (ncl nd sa sc da dc).toArray
/-- what a node may hold at the most -/
def Nb (nd : Nd) : Prop := nd.shape.length ≤ 1000 ∧ nd.data.length ≤ 1000000 ∧ nd.k.size ≤ 20000 ∧ nd.name.size ≤ 20000 ∧ ∀ x ∈ nd.data, x.size ≤ 20000
end Go.Proofs.YtadgnafafdfioaaGreatDoor.Gr
