/-
  ArrayBack, WALKED: the call answers true, whatever tensor and numbers are handed in. Conditions: what the arguments hold.
-/
import Derived.Test.YtbfboippaejnmaaGreatDoorLc
import Derived.Test.YtbfboippaejnmaaGreatDoorWBack
namespace Go.Proofs.YtbfboippaejnmaaGreatDoor.Tn
set_option maxRecDepth 100000
open Go.RowKit Nm
set_option linter.unusedVariables false

theorem back_any (a1 b1 : Option Addr) (c1 d1 : Nat) (zs : List Int) (xs : List ByteArray) (a2 : Option Addr) (c2 : Nat) (us : List Int) (aF aZ : Addr) (w : World) (hE : Er w aF aZ) (h1 : Tm w 0 a1 b1 zs xs) (h2 : Sp.Sl w a2 us) :
    Calls Tryz.prog 9 #[.agg #[.slice a1 zs.length c1, .slice b1 xs.length d1], .slice a2 us.length c2] w fun e w' => e = .returned (.bool true) ∧ Below w.heap.size w w' := by
  have S1 := fun (v : World) (hv : Below w.heap.size w v) => small_below c1 d1 (h1.below hv)
  cases e1 : small zs xs with
  | false => rw [e1] at S1; exact back_long1 a1 b1 c1 d1 _ _ a2 _ c2 aF aZ w hE S1
  | true =>
    rw [e1] at S1
    by_cases hl : 10 < us.length
    · exact back_long2 a1 b1 c1 d1 _ _ a2 _ c2 aF aZ w hE S1 hl
    have A1 := Ta.small h1 e1
    have hz := (small_of e1).1
    have Y := fun (v : World) (hv : Below w.heap.size w v) => zfail_re (m1 := zs.length) (n1 := xs.length) (m2 := us.length) c1 d1 c2 (hE.below hv) (A1.below hv) (h2.below hv) (by omega) rfl rfl rfl
    have Z := fun (v : World) (hv : Below w.heap.size w v) => zfail_re (m1 := 0) (n1 := 0) (m2 := zs.length) 0 0 c1 (hE.below hv) (Ta.empty v) (h1.s.below hv) (by omega) rfl rfl rfl (fun c => by rw [no_empty] at c; cases c.1)
    cases t1 : tn zs xs with
    | false =>
      have O : ∀ v, Below w.heap.size w v → Calls Tryz.prog 20 #[.agg #[.slice a1 zs.length c1, .slice b1 xs.length d1], .slice a1 zs.length c1] v fun e w' => e = .returned (noTensor 1) ∧ Below v.heap.size v w' := fun v hv => by
        have k := zfail_re (m1 := zs.length) (n1 := xs.length) (m2 := zs.length) c1 d1 c1 (hE.below hv) (A1.below hv) (h1.s.below hv) (by omega) rfl rfl rfl (fun c => by rw [t1] at c; cases c.1)
        rw [t1] at k
        exact k
      exact back_bad a1 b1 c1 d1 _ _ a2 _ c2 _ _ aF aZ w hE S1 hl (fun v hv => Y v hv (fun c => by rw [t1] at c; cases c.1)) (zerr_ne _ _) Z O
    | true =>
      obtain ⟨qs, ex, T1⟩ := Tt.small h1 e1 t1
      by_cases hr : Sp.Rgt us ∧ Sp.szI us = xs.length
      · exact back_good a1 b1 c1 d1 _ _ a2 _ c2 zs us qs aF aZ w hE S1 hl T1 h2 hr.1 rfl hr.2
      · exact back_no a1 b1 c1 d1 _ _ a2 _ c2 _ _ zs qs aF aZ w hE S1 hl T1 (fun v hv => Y v hv (fun c => hr ⟨c.2.1, c.2.2⟩)) (zerr_ne _ _) Z
end Go.Proofs.YtbfboippaejnmaaGreatDoor.Tn
