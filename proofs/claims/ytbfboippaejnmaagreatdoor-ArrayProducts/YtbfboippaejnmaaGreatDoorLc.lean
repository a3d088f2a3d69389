/-
  WHAT THE LAWS OF STAGE 6 SHARE: an empty tensor; what an argument that is a slice of numbers holds. Conditions: each theorem's own.
-/
import Derived.Test.YtbfboippaejnmaaGreatDoorAw6
import Derived.Test.YtbfboippaejnmaaGreatDoorOp
import Derived.Test.YtbfboippaejnmaaGreatDoorLb
namespace Go.Proofs.YtbfboippaejnmaaGreatDoor.Tn
open Go.ChangeShapes Go.WideShapes Go.ChangeAt Go.RowKit
set_option maxRecDepth 100000
set_option linter.unusedVariables false

theorem no_empty : tn [] [] = false := by decide +kernel
theorem Ta.empty (w : World) : Ta w 0 none none [] [] := ⟨⟨Sp.Sl.nil _ _, Row.nil _ _, (fun _ _ _ e => by cases e), (fun _ _ _ e => by cases e)⟩, by simp, by simp, by simp⟩
theorem opened_sl {H : Type} {enc : TypeId × Value → H} {W : World} {d : DataW H} {p : List MemPlace} {a : Option Addr} {len cap : Nat}
    (h : DataW.Trod enc Tryz.prog W 0 (fun _ => true) true 22 (.slice a len cap) d p) : ∃ zs : List Int, len = zs.length ∧ Sp.Sl W a zs ∧ len ≤ maxLen := by
  obtain ⟨fuel, hf⟩ := h
  obtain ⟨ao, zs, cap', e, hr, _, hm⟩ := opened_nums Tryz.underlying22 Tryz.underlying3 cells3 (c := .slice a len cap) (by simpa [Value.cells] using hf)
  simp only [Value.slice.injEq] at e
  obtain ⟨rfl, rfl, rfl⟩ := e
  exact ⟨zs, rfl, row_sl hr, hm⟩
theorem stand22 : Tryz.prog.wantsStandIn 22 = false := by kernel_rfl
end Go.Proofs.YtbfboippaejnmaaGreatDoor.Tn
