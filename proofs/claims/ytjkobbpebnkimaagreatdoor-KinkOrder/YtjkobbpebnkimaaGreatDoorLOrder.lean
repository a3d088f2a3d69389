/-
  KinkOrder, WALKED: the call answers true, whatever is handed in. Conditions: what the arguments hold.
-/
import Derived.Test.YtjkobbpebnkimaaGreatDoorWOrder
namespace Go.Proofs.YtjkobbpebnkimaaGreatDoor.Tn
set_option maxRecDepth 100000
open Go.RowKit Nm
set_option linter.unusedVariables false

theorem order_any (a1 b1 a2 b2 : Option Addr) (c1 d1 c2 d2 : Nat) (zs us : List Int) (xs ys : List ByteArray) (aF aZ : Addr) (w : World) (hE : Er w aF aZ) (h1 : Tm w 0 a1 b1 zs xs) (h2 : Tm w 0 a2 b2 us ys) :
    Calls Tryz.prog 8 #[.agg #[.slice a1 zs.length c1, .slice b1 xs.length d1], .agg #[.slice a2 us.length c2, .slice b2 ys.length d2]] w fun e w' => e = .returned (.bool true) ∧ Below w.heap.size w w' := by
  have S1 := fun (v : World) (hv : Below w.heap.size w v) => small_below c1 d1 (h1.below hv)
  have S2 := fun (v : World) (hv : Below w.heap.size w v) => small_below c2 d2 (h2.below hv)
  cases e1 : small zs xs with
  | false => rw [e1] at S1; exact order_long1 a1 b1 a2 b2 c1 d1 _ _ c2 d2 _ _ aF aZ w hE S1
  | true =>
    rw [e1] at S1
    cases e2 : small us ys with
    | false => rw [e2] at S2; exact order_long2 a1 b1 a2 b2 c1 d1 _ _ c2 d2 _ _ aF aZ w hE S1 S2
    | true =>
      rw [e2] at S2
      have A1 := Ta.small h1 e1
      have A2 := Ta.small h2 e2
      by_cases hg : (tn zs xs && tn us ys) = true ∧ zs = us
      · obtain ⟨hb, rfl⟩ := hg
        simp only [Bool.and_eq_true] at hb
        obtain ⟨qs, rs, _, _, el, T1, T2⟩ := Tt.pair h1 h2 e1 e2 hb.1 hb.2
        rw [el] at S2 ⊢
        exact order_good a1 b1 a2 b2 c1 d1 c2 d2 _ _ zs qs rs aF aZ w hE S1 S2 T1 T2
      · exact order_no a1 b1 a2 b2 c1 d1 _ _ c2 d2 _ _ _ aF aZ w hE S1 S2 (fun v hv => zmax_no c1 d1 c2 d2 (hE.below hv) (A1.below hv) (A2.below hv) rfl rfl rfl rfl hg) (zerr_ne _ _)
end Go.Proofs.YtjkobbpebnkimaaGreatDoor.Tn
