/-
  WHAT THE ROWS LIST GIVES A WALK; WHAT AN ARGUMENT THAT IS A SLICE OF TEXTS HOLDS. No conditions.
-/
import Derived.Test.YtadgnafafdfioaaGreatDoorRows
import Derived.Test.YtadgnafafdfioaaGreatDoorTell
import Derived.Test.YtadgnafafdfioaaGreatDoorRq
import Derived.Stop.LaidErr
import Derived.LaidMore
import Derived.Lib.LaidTab
import Derived.LaidHandle
import Derived.SevenTiedAt
import Derived.ProofKit
import Derived.OpenShut
import Derived.SliceStrings
namespace Go.Proofs.YtadgnafafdfioaaGreatDoor.Rd
set_option maxRecDepth 100000
open Go.RowKit Go.ChangeShapes Go.WideShapes
set_option linter.unusedVariables false

/-- what the rows list -/
abbrev listed : List (String × DataW Unit) := [("tapewright/rat.errForm", Rows.laid_tapewright_rat_errForm)]
theorem door_met (os : Os) (args : Array Value) : laidMetH Tryz.prog listed ((World.doorLaid Tryz.prog 400 os).forCall (fun _ _ => 0) ⟨#[], args, []⟩).memory :=
  laidMetH_of_parts3 (fuel := 8) (laidMet_of_run' 8 (by kernel_rfl) (by kernel_rfl)) (by kernel_rfl) (by kernel_rfl)
theorem door_shaped (os : Os) (args : Array Value) : World.Shaped Tryz.prog ((World.doorLaid Tryz.prog 400 os).forCall (fun _ _ => 0) ⟨#[], args, []⟩) :=
  World.shaped_of_RefB (by kernel_rfl) (by kernel_rfl)
theorem stand9 : Tryz.prog.wantsStandIn 9 = false := by kernel_rfl
theorem stand22 : Tryz.prog.wantsStandIn 26 = false := by kernel_rfl
theorem star_is : "*" ++ "errors.errorString" = "*errors.errorString" := by decide
theorem row_ptr (u : TypeId) (h : Tryz.prog.typeName? 3 u = some "*errors.errorString") : u = 161 :=
  typeName_ptr_named (nm := "errors.errorString") (by rw [star_is]; kernel_rfl) (by kernel_rfl) (by decide) u (by rw [star_is]; exact h)
theorem er_of {W : World} (h : laidMetH Tryz.prog listed W) : ∃ aF aZ, Er W aF aZ := by
  have hl : laidMet Tryz.prog [("tapewright/rat.errForm", Rows.laid_tapewright_rat_errForm)] W := h
  have gF : Tryz.prog.globalNamed "tapewright/rat.errForm" = some 0 := by kernel_rfl
  have tF : (Tryz.prog.globals[0]?).map (·.type) = some 98 := by kernel_rfl
  have c182 : Tryz.prog.cellsOf 176 = 1 := by kernel_rfl
  have c9 : Tryz.prog.cellsOf 9 = 1 := by kernel_rfl
  obtain ⟨a0, s0, hv0, _⟩ := laid_sentinel hl gF tF Tryz.underlying98 row_ptr Tryz.underlying161 Tryz.underlying176 rfl rfl Tryz.underlying9 c182 c9
  exact ⟨a0, a0, ⟨by simpa using World.var?_cell gF hv0 0⟩⟩

theorem cells9 : Tryz.prog.cellsOf 9 = 1 := by kernel_rfl
theorem laidOut : laidOutB Tryz.prog = true := by kernel_rfl
theorem opened {H : Type} {enc : TypeId × Value → H} {W : World} {d : DataW H} {p : List MemPlace} {a : Option Addr} {len cap : Nat}
    (h : DataW.Trod enc Tryz.prog W 0 (fun _ => true) true 26 (.slice a len cap) d p) : ∃ zs : List ByteArray, len = zs.length ∧ Row W a (txts zs) ∧ len ≤ cap ∧ cap ≤ maxLen := by
  obtain ⟨fuel, hf⟩ := h
  rcases Go.ChangeShapes.open_strings Tryz.underlying26 Tryz.underlying9 cells9 hf with ⟨hcs, hx⟩ | ⟨a', len', cap', zs, hcs, _, hl, hm, hz, hx, hcell, hwz⟩
  · simp [Value.cells] at hcs
    obtain ⟨rfl, rfl, rfl⟩ := hcs
    exact ⟨[], rfl, Row.nil _ _, Nat.le_refl _, by unfold maxLen; omega⟩
  · simp [Value.cells] at hcs
    obtain ⟨rfl, rfl, rfl⟩ := hcs
    rw [if_pos rfl] at hz
    refine ⟨zs.take len, by simp; omega, fun i v hi => ?_, hl, hm⟩
    have hil : i < len := by
      have := (List.getElem?_eq_some_iff.1 hi).1
      simp [txts] at this; omega
    have hc := hcell i (by omega)
    have hv : v = .string (zs.getD i ByteArray.empty) := by
      have hiz : i < zs.length := by omega
      unfold txts at hi
      rw [List.getElem?_map, List.getElem?_take, if_pos hil, List.getElem?_eq_getElem hiz] at hi
      simp only [Option.map_some, Option.some.injEq] at hi
      rw [← hi, List.getD_eq_getElem?_getD, List.getElem?_eq_getElem hiz]
      rfl
    obtain ⟨b, off, spot⟩ := a'
    have hspot : spot = none := by simpa [Addr.add] using World.cell?_spot (hcell 0 (by omega))
    subst hspot
    exact ⟨b, off, rfl, by rw [← row_add, hv]; exact hc⟩
end Go.Proofs.YtadgnafafdfioaaGreatDoor.Rd
