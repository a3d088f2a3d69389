/-
  KinkFlat, WALKED: the call answers true, whatever is handed in. Conditions: what the arguments hold.
-/
import Derived.Test.YtjkobbpebnkimaaGreatDoorWFlat
namespace Go.Proofs.YtjkobbpebnkimaaGreatDoor.Tn
set_option maxRecDepth 100000
open Go.RowKit Nm
set_option linter.unusedVariables false

theorem lflat_any (a1 b1 : Option Addr) (c1 d1 : Nat) (zs : List Int) (xs : List ByteArray) (aF aZ : Addr) (w : World) (hE : Er w aF aZ) (h1 : Tm w 0 a1 b1 zs xs) :
    Calls Tryz.prog 9 #[.agg #[.slice a1 zs.length c1, .slice b1 xs.length d1]] w fun e w' => e = .returned (.bool true) ∧ Below w.heap.size w w' := by
  have S1 := fun (v : World) (hv : Below w.heap.size w v) => small_below c1 d1 (h1.below hv)
  cases e1 : small zs xs with
  | false => rw [e1] at S1; exact lflat_long a1 b1 c1 d1 _ _ aF aZ w hE S1
  | true =>
    rw [e1] at S1
    have A1 := Ta.small h1 e1
    cases t1 : tn zs xs with
    | false => exact lflat_no a1 b1 c1 d1 _ _ 1 aF aZ w hE S1 (fun v hv => zabs_no c1 d1 (hE.below hv) (A1.below hv) rfl rfl t1) (by decide)
    | true =>
      obtain ⟨qs, ex, T1⟩ := Tt.small h1 e1 t1
      exact lflat_good a1 b1 c1 d1 _ _ zs qs aF aZ w hE S1 T1
end Go.Proofs.YtjkobbpebnkimaaGreatDoor.Tn
