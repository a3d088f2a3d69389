/-
  ArrayRows, WALKED: the call answers true, whatever tensor is handed in. Conditions: what the argument holds.
-/
import Derived.Test.YtbfboippaejnmaaGreatDoorWRows
namespace Go.Proofs.YtbfboippaejnmaaGreatDoor.Tn
set_option maxRecDepth 100000
open Go.RowKit Nm
set_option linter.unusedVariables false

theorem rows_any (a1 b1 : Option Addr) (c1 d1 : Nat) (zs : List Int) (xs : List ByteArray) (aF aZ : Addr) (w : World) (hE : Er w aF aZ) (h1 : Tm w 0 a1 b1 zs xs) :
    Calls Tryz.prog 11 #[.agg #[.slice a1 zs.length c1, .slice b1 xs.length d1]] w fun e w' => e = .returned (.bool true) ∧ Below w.heap.size w w' := by
  have S1 := fun (v : World) (hv : Below w.heap.size w v) => small_below c1 d1 (h1.below hv)
  cases e1 : small zs xs with
  | false => rw [e1] at S1; exact rows_long1 a1 b1 c1 d1 _ _ aF aZ w hE S1
  | true =>
    rw [e1] at S1
    have A1 := Ta.small h1 e1
    have R1 := fun (v : World) (hv : Below w.heap.size w v) => (A1.below hv).rright e1 c1 d1
    cases t1 : tn zs xs with
    | false => rw [t1] at R1; exact rows_bad a1 b1 c1 d1 _ _ aF aZ w hE S1 R1
    | true =>
      rw [t1] at R1
      by_cases l2 : zs.length = 2
      · obtain ⟨qs, ex, T1⟩ := Tt.small h1 e1 t1
        obtain ⟨p, q, rfl⟩ := of_two T1.tr.r l2
        obtain ⟨x, y, rfl, x0, x1⟩ := sl_two T1.tm.s
        exact rows_good x y b1 c1 d1 _ p q qs aF aZ w hE S1 R1 T1 x0 x1
      · exact rows_flat a1 b1 c1 d1 _ _ aF aZ w hE S1 R1 (int_no (k := 2) l2) (int_ne (k := 2) l2)
end Go.Proofs.YtbfboippaejnmaaGreatDoor.Tn
