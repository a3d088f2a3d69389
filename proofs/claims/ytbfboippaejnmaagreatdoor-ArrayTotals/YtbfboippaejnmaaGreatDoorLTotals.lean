/-
  ArrayTotals, WALKED: the call answers true, whatever tensor and numbers are handed in. Conditions: what the arguments hold.
-/
import Derived.Test.YtbfboippaejnmaaGreatDoorLc
import Derived.Test.YtbfboippaejnmaaGreatDoorWTotals
namespace Go.Proofs.YtbfboippaejnmaaGreatDoor.Tn
set_option maxRecDepth 100000
open Go.RowKit Nm
set_option linter.unusedVariables false

theorem totals_any (a1 b1 : Option Addr) (c1 d1 : Nat) (zs : List Int) (xs : List ByteArray) (a2 : Option Addr) (c2 : Nat) (us : List Int) (aF aZ : Addr) (w : World) (hE : Er w aF aZ) (h1 : Tm w 0 a1 b1 zs xs) (h2 : Sp.Sl w a2 us) :
    Calls Tryz.prog 7 #[.agg #[.slice a1 zs.length c1, .slice b1 xs.length d1], .slice a2 us.length c2] w fun e w' => e = .returned (.bool true) ∧ Below w.heap.size w w' := by
  have S1 := fun (v : World) (hv : Below w.heap.size w v) => small_below c1 d1 (h1.below hv)
  cases e1 : small zs xs with
  | false => rw [e1] at S1; exact totals_long1 a1 b1 c1 d1 _ _ a2 _ c2 aF aZ w hE S1
  | true =>
    rw [e1] at S1
    by_cases hl : 10 < us.length
    · exact totals_long2 a1 b1 c1 d1 _ _ a2 _ c2 aF aZ w hE S1 hl
    have A1 := Ta.small h1 e1
    have R1 := fun (v : World) (hv : Below w.heap.size w v) => (A1.below hv).rright e1 c1 d1
    have E0 := fun (v : World) (hv : Below w.heap.size w v) => zfail_tot (m1 := 0) (n1 := 0) 0 0 (hE.below hv) (Ta.empty v) rfl rfl no_empty
    have Y := fun (v : World) (hv : Below w.heap.size w v) => zfail_re (m1 := zs.length) (n1 := xs.length) (m2 := us.length) c1 d1 c2 (hE.below hv) (A1.below hv) (h2.below hv) (by omega) rfl rfl rfl
    have X := fun (v : World) (hv : Below w.heap.size w v) => zfail_tr (m1 := zs.length) (n1 := xs.length) c1 d1 (hE.below hv) (A1.below hv) rfl rfl
    cases t1 : tn zs xs with
    | false => rw [t1] at R1; exact totals_bad a1 b1 c1 d1 _ _ a2 _ c2 aF aZ w hE S1 R1 hl
    | true =>
      rw [t1] at R1
      obtain ⟨qs, ex, T1⟩ := Tt.small h1 e1 t1
      by_cases l2 : zs.length = 2
      · obtain ⟨p, q, rfl⟩ := of_two T1.tr.r l2
        by_cases hr : Sp.Rgt us ∧ Sp.szI us = xs.length
        · exact totals_yy a1 b1 c1 d1 _ a2 _ c2 p q us qs aF aZ w hE S1 R1 T1 hl h2 hr.1 rfl hr.2
        · exact totals_yn a1 b1 c1 d1 _ a2 _ c2 p q us qs _ aF aZ w hE S1 R1 T1 hl (fun v hv => Y v hv (fun c => hr ⟨c.2.1, c.2.2⟩)) (zerr_ne _ _) E0
      · by_cases hr : Sp.Rgt us ∧ Sp.szI us = xs.length
        · exact totals_ny a1 b1 c1 d1 _ _ a2 _ c2 zs us qs _ aF aZ w hE S1 R1 T1 hl (fun v hv => X v hv (fun c => l2 c.2)) (zerr_ne _ _) h2 hr.1 rfl hr.2 E0
        · exact totals_nn a1 b1 c1 d1 _ _ a2 _ c2 zs us qs _ _ aF aZ w hE S1 R1 T1 hl (fun v hv => X v hv (fun c => l2 c.2)) (zerr_ne _ _) (fun v hv => Y v hv (fun c => hr ⟨c.2.1, c.2.2⟩)) (zerr_ne _ _) E0
end Go.Proofs.YtbfboippaejnmaaGreatDoor.Tn
