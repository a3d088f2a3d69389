/-
  QUOTIENTS OF LIMBS, where the divisor is above the number or has one limb: what a call of divide gives then. Conditions: sizes; the limbs' form.
-/
import Derived.Test.YtmmhekjnijjbnaaShort
namespace Go.Proofs.Ytmmhekjnijjbnaa
open Go.RowKit Nm
set_option linter.unusedVariables false

/-- a quotient, and what is left over -/
def Quo (w : World) (x y : Nat) (e : Ending) (w' : World) : Prop :=
  ∃ ao m c1 q g n c2 r, e = .returned (.tuple #[.slice ao m c1, .slice (some ⟨g, 0, none⟩) n c2]) ∧ (m = 0 ∨ ∃ g1, ao = some ⟨g1, 0, none⟩ ∧ Ow w' .i64 g1 q m) ∧ Nrm q m ∧ lv q m = x / y ∧ m ≤ 100000 ∧
    Ow w' .i64 g r n ∧ n ≤ c2 ∧ Nrm r n ∧ lv r n = x % y ∧ n ≤ 100000 ∧ w.heap.size ≤ g ∧ Below w.heap.size w w' ∧ Shp w' g c2

theorem Shp.new (w : World) (xs : Array Value) (h : xs.size ≤ 100) : Shp (w.alloc (.cells xs 2)) w.heap.size xs.size := by
  refine ⟨xs, ?_, rfl, by unfold maxLen; omega⟩
  show (w.heap.push (.cells xs 2))[w.heap.size]? = _
  rw [Array.getElem?_push, if_pos rfl]

theorem Ow.one (w : World) (r : Nat) : Ow (w.alloc (.cells #[.int .i64 (r : Nat)] 2)) .i64 w.heap.size (fun _ => r) 1 := by
  refine ⟨fun i hi => ?_, fun i => ?_, by simp⟩
  · obtain rfl : i = 0 := by omega
    rw [World.cell?_alloc_new]; rfl
  · rw [World.frozen?_alloc_new]

theorem sg_nonneg {a b : Int} (h : b ≤ a) : ¬ sg a b < 0 := by unfold sg; split; omega; split <;> omega

theorem eq0 (y : Nat) (h : 0 < y) : ((S y).toList == [48]) = false := by
  rw [toList_data, S_data]
  apply beq_eq_false_iff_ne.2
  intro e
  have := congrArg dv e
  rw [dv_tx] at this
  have h0 : dv [48] = 0 := by decide
  omega

end Go.Proofs.Ytmmhekjnijjbnaa
