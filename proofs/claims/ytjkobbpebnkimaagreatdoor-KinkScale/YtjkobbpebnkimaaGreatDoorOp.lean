/-
  WHAT AN ARGUMENT HOLDS, OUT OF HOW IT READS: slices of numbers, slices of texts, a struct of both. Of whatever program. Conditions: what the types are.
-/
import Derived.Test.YtjkobbpebnkimaaGreatDoorTw
import Derived.Test.YtjkobbpebnkimaaGreatDoorLitR
import Derived.WalkKit
import Derived.ProofKit
import Derived.OpenShut
import Derived.Lib.SmallJoins
namespace Go.Proofs.YtjkobbpebnkimaaGreatDoor.Tn
open Go.ChangeShapes Go.WideShapes Go.ChangeAt Go.RowKit
set_option maxRecDepth 100000
set_option linter.unusedVariables false

theorem row_of_cells {w : World} {a : Addr} {f : Nat → Value} {n : Nat} {vs : List Value} (h : ∀ i, i < n → w.cell? (a.add i) = some (f i)) (hl : vs.length ≤ n) (he : ∀ i, i < vs.length → vs[i]? = some (f i)) : Row w (some a) vs := by
  intro i v hi
  have hi2 : i < vs.length := (List.getElem?_eq_some_iff.1 hi).1
  obtain ⟨b, off, spot⟩ := a
  have hspot : spot = none := by simpa [Addr.add] using World.cell?_spot (h 0 (by omega))
  subst hspot
  refine ⟨b, off, rfl, ?_⟩
  have := h i (by omega)
  rw [row_add] at this
  rw [this, ← he i hi2, hi]

theorem opened_nums {H : Type} {enc : TypeId × Value → H} {P : Program} {W : World} {t e : TypeId} (ht : P.underlying t = some (.slice e)) (he : P.underlying e = some (.int .i64)) (hc : P.cellsOf e = 1)
    {fuel : Nat} {c : Value} {x : DataW H × List MemPlace} (h : DataW.trod enc P W 0 (fun _ => true) true fuel t [c] = some x) :
    ∃ (ao : Option Addr) (zs : List Int) (cap : Nat), c = .slice ao zs.length cap ∧ Row W ao (nums zs) ∧ (ao = none → cap = 0) ∧ zs.length ≤ maxLen := by
  rcases open_ints ht he hc h with ⟨hcs, hx⟩ | ⟨a', len', cap', zs, hcs, _, hl, hm, hz, hx, hcell, hwz⟩
  · simp at hcs
    subst hcs
    exact ⟨none, [], 0, rfl, Row.nil _ _, fun _ => rfl, by simp⟩
  · simp at hcs
    subst hcs
    rw [if_pos rfl] at hz
    have hlen : (zs.take len').length = len' := by rw [List.length_take]; omega
    refine ⟨some a', zs.take len', cap', by rw [hlen], row_of_cells hcell (by simp [nums]; omega) (fun i hi => ?_), (fun h => by cases h), by omega⟩
    have hi2 : i < len' ∧ i < zs.length := by simp [nums] at hi; omega
    simp [nums, List.getD, hi2.1, hi2.2]

theorem opened_txts {H : Type} {enc : TypeId × Value → H} {P : Program} {W : World} {t e : TypeId} (ht : P.underlying t = some (.slice e)) (he : P.underlying e = some .string) (hc : P.cellsOf e = 1)
    {fuel : Nat} {c : Value} {x : DataW H × List MemPlace} (h : DataW.trod enc P W 0 (fun _ => true) true fuel t [c] = some x) :
    ∃ (ao : Option Addr) (xs : List ByteArray) (cap : Nat), c = .slice ao xs.length cap ∧ Row W ao (txts xs) ∧ (ao = none → cap = 0) ∧ xs.length ≤ maxLen := by
  rcases open_strings ht he hc h with ⟨hcs, hx⟩ | ⟨a', len', cap', zs, hcs, _, hl, hm, hz, hx, hcell, hwz⟩
  · simp at hcs
    subst hcs
    exact ⟨none, [], 0, rfl, Row.nil _ _, fun _ => rfl, by simp⟩
  · simp at hcs
    subst hcs
    rw [if_pos rfl] at hz
    have hlen : (zs.take len').length = len' := by rw [List.length_take]; omega
    refine ⟨some a', zs.take len', cap', by rw [hlen], row_of_cells hcell (by rw [txts_len]; omega) (fun i hi => ?_), (fun h => by cases h), by omega⟩
    have hi2 : i < len' ∧ i < zs.length := by rw [txts_len] at hi; omega
    simp [txts, List.getD, hi2.1, hi2.2]

theorem cells3 : Tryz.prog.cellsOf 3 = 1 := by kernel_rfl
theorem cells9 : Tryz.prog.cellsOf 9 = 1 := by kernel_rfl
theorem cells25 : Tryz.prog.cellsOf 25 = 2 := by kernel_rfl
theorem stand25 : Tryz.prog.wantsStandIn 25 = false := by kernel_rfl
theorem laidOut : laidOutB Tryz.prog = true := by kernel_rfl
/-- what an argument that is a tensor holds -/
theorem opened {H : Type} {enc : TypeId × Value → H} {W : World} {r : Reach} {b0 : Nat} {v : Value} {d : DataW H} {p : List MemPlace} (hv : Value.okWide Tryz.prog W r b0 25 v) (h : DataW.Trod enc Tryz.prog W 0 (fun _ => true) true 25 v d p) :
    ∃ (a b : Option Addr) (zs : List Int) (xs : List ByteArray) (c e : Nat), v = .agg #[.slice a zs.length c, .slice b xs.length e] ∧ Tm W 0 a b zs xs := by
  obtain ⟨v0, v1, y0, y1, n, rfl, _, _, h0, h1⟩ := Joins.open_agg2 Tryz.underlying25 (by kernel_rfl) cells25 hv h
  obtain ⟨a, zs, c, rfl, k0, _, _⟩ := opened_nums Tryz.underlying22 Tryz.underlying3 cells3 h0
  obtain ⟨b, xs, e, rfl, k1, _, _⟩ := opened_txts Tryz.underlying23 Tryz.underlying9 cells9 h1
  exact ⟨a, b, zs, xs, c, e, rfl, ⟨row_sl k0, k1, fun _ _ _ _ => Nat.zero_le _, fun _ _ _ _ => Nat.zero_le _⟩⟩
end Go.Proofs.YtjkobbpebnkimaaGreatDoor.Tn
