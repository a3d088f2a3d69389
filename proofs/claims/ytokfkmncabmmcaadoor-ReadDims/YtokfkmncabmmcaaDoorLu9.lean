/-
  WHAT AN ARGUMENT THAT IS A SLICE OF BYTES HOLDS. No conditions.
-/
import Derived.Test.YtokfkmncabmmcaaDoorLit9
import Derived.Test.YtokfkmncabmmcaaDoorWd9
import Derived.ChangeSlices
namespace Go.Proofs.YtokfkmncabmmcaaDoor.Rd
set_option maxRecDepth 100000
open Go.RowKit Go.ChangeShapes Go.WideShapes
set_option linter.unusedVariables false
theorem stand32 : Tryd.prog.wantsStandIn 32 = false := by kernel_rfl
theorem cells5 : Tryd.prog.cellsOf 5 = 1 := by kernel_rfl
theorem wf_u8 {n : Int} (h : (Lit.int .u8 n).wf = true) : ((UInt8.ofNat n.toNat).toNat : Int) = n := by
  simp only [Lit.wf, IntKind.min, IntKind.max, IntKind.signed, IntKind.bits, Bool.and_eq_true, decide_eq_true_eq, Bool.false_eq_true, if_false] at h
  show ((n.toNat % 256 : Nat) : Int) = n
  omega
theorem opened_u {H : Type} {enc : TypeId × Value → H} {W : World} {d : DataW H} {p : List MemPlace} {a : Option Addr} {len cap : Nat}
    (h : DataW.Trod enc Tryd.prog W 0 (fun _ => true) true 32 (.slice a len cap) d p) : ∃ bs : List UInt8, len = bs.length ∧ Row W a (byts bs) ∧ len ≤ cap ∧ cap ≤ maxLen := by
  obtain ⟨fuel, hf⟩ := h
  rcases Go.ChangeShapes.open_ints Tryd.underlying32 Tryd.underlying5 cells5 hf with ⟨hcs, hx⟩ | ⟨a', len', cap', zs, hcs, _, hl, hm, hz, hx, hcell, hwz⟩
  · simp [Value.cells] at hcs
    obtain ⟨rfl, rfl, rfl⟩ := hcs
    exact ⟨[], rfl, Row.nil _ _, Nat.le_refl _, by unfold maxLen; omega⟩
  · simp [Value.cells] at hcs
    obtain ⟨rfl, rfl, rfl⟩ := hcs
    rw [if_pos rfl] at hz
    refine ⟨(zs.take len).map (fun n => UInt8.ofNat n.toNat), by simp; omega, fun i v hi => ?_, hl, hm⟩
    have hil : i < len := by
      have := (List.getElem?_eq_some_iff.1 hi).1
      simp [byts] at this; omega
    have hiz : i < zs.length := by omega
    have hc := hcell i (by omega)
    have hv : v = .int .u8 (zs.getD i 0) := by
      unfold byts at hi
      rw [List.map_map, List.getElem?_map, List.getElem?_take, if_pos hil, List.getElem?_eq_getElem hiz] at hi
      simp only [Option.map_some, Option.some.injEq, Function.comp] at hi
      rw [← hi, List.getD_eq_getElem?_getD, List.getElem?_eq_getElem hiz]
      show Value.int .u8 _ = .int .u8 _
      rw [wf_u8 (hwz _ (List.getElem_mem hiz))]
      rfl
    obtain ⟨b, off, spot⟩ := a'
    have hspot : spot = none := by simpa [Addr.add] using World.cell?_spot (hcell 0 (by omega))
    subst hspot
    exact ⟨b, off, rfl, by rw [← row_add, hv]; exact hc⟩
end Go.Proofs.YtokfkmncabmmcaaDoor.Rd
