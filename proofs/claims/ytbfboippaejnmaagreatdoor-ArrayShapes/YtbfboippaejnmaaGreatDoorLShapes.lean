/-
  ArrayShapes, WALKED: the call answers true, whatever tensor and numbers are handed in. Conditions: what the arguments hold.
-/
import Derived.Test.YtbfboippaejnmaaGreatDoorLc
import Derived.Test.YtbfboippaejnmaaGreatDoorWShapes1
import Derived.Test.YtbfboippaejnmaaGreatDoorWShapes2
namespace Go.Proofs.YtbfboippaejnmaaGreatDoor.Tn
set_option maxRecDepth 100000
open Go.RowKit Nm
set_option linter.unusedVariables false

theorem one_of {zs : List Int} {qs : List Rat} {k : Nat} (h : Tr zs qs k) (hz : zs.length = 0) : zs = [] ∧ ∃ y, qs = [y] := by
  have e := List.length_eq_zero_iff.1 hz
  refine ⟨e, ?_⟩
  have hl := h.l
  rw [e, sz_nil] at hl
  exact List.length_eq_one_iff.1 hl
theorem shapes_any (a1 b1 : Option Addr) (c1 d1 : Nat) (zs : List Int) (xs : List ByteArray) (a2 : Option Addr) (c2 : Nat) (us : List Int) (aF aZ : Addr) (w : World) (hE : Er w aF aZ) (h1 : Tm w 0 a1 b1 zs xs) (h2 : Sp.Sl w a2 us) :
    Calls Tryz.prog 4 #[.agg #[.slice a1 zs.length c1, .slice b1 xs.length d1], .slice a2 us.length c2] w fun e w' => e = .returned (.bool true) ∧ Below w.heap.size w w' := by
  have S1 := fun (v : World) (hv : Below w.heap.size w v) => small_below c1 d1 (h1.below hv)
  cases e1 : small zs xs with
  | false => rw [e1] at S1; exact shapes_long1 a1 b1 c1 d1 _ _ a2 _ c2 aF aZ w hE S1
  | true =>
    rw [e1] at S1
    by_cases hl : 10 < us.length
    · exact shapes_long2 a1 b1 c1 d1 _ _ a2 _ c2 aF aZ w hE S1 hl
    have A1 := Ta.small h1 e1
    have R1 := fun (v : World) (hv : Below w.heap.size w v) => (A1.below hv).rright e1 c1 d1
    have Y := fun (hb : ¬ (tn zs xs = true ∧ Sp.Rgt us ∧ Sp.szI us = xs.length)) (v : World) (hv : Below w.heap.size w v) => zfail_re (m1 := zs.length) (n1 := xs.length) (m2 := us.length) c1 d1 c2 (hE.below hv) (A1.below hv) (h2.below hv) (by omega) rfl rfl rfl hb
    have Z := fun (hb : ¬ (tn zs xs = true ∧ Sp.Rgt us ∧ zs.length = 0)) (v : World) (hv : Below w.heap.size w v) => zfail_spr (m1 := zs.length) (n1 := xs.length) (m2 := us.length) c1 d1 c2 (hE.below hv) (A1.below hv) (h2.below hv) (by omega) rfl rfl rfl hb
    have Q : ∀ v, Below w.heap.size w v → Calls Tryz.prog 23 #[.slice a2 us.length c2] v fun e w' => e = .returned (.bool (decide (Sp.Rgt us))) ∧ Below v.heap.size v w' := fun v hv =>
      (Sp.refRight_any a2 us c2 v (by omega) (h2.below hv)).mono fun e w' h => ⟨h.1, by rw [h.2]; exact Below.refl _ _⟩
    cases t1 : tn zs xs with
    | false =>
      have T := fun (v : World) (hv : Below w.heap.size w v) => zfail_tot (m1 := zs.length) (n1 := xs.length) c1 d1 (hE.below hv) (A1.below hv) rfl rfl t1
      have Y1 := Y (fun c => by have := c.1; rw [t1] at this; cases this)
      have Z1 := Z (fun c => by have := c.1; rw [t1] at this; cases this)
      rw [t1] at R1 Y1 Z1
      exact shapes_bad a1 b1 c1 d1 _ _ a2 _ c2 aF aZ w hE S1 hl Y1 T Z1 R1
    | true =>
      rw [t1] at R1
      obtain ⟨qs, ex, T1⟩ := Tt.small h1 e1 t1
      by_cases hr : Sp.Rgt us
      · have N : ∀ v, Below w.heap.size w v → Calls Tryz.prog 24 #[.slice a2 us.length c2] v fun e w' => e = .returned (.int .i64 ((Sp.szI us : Nat) : Int)) ∧ Below v.heap.size v w' := fun v hv =>
          (Sp.refSize_any a2 us c2 v hr (h2.below hv)).mono fun e w' h => ⟨h.1, by rw [h.2]; exact Below.refl _ _⟩
        rw [decide_eq_true hr] at Q
        have hpos := (Sp.szI_pos us).2 hr
        by_cases hz : zs.length = 0
        · have G : ∀ v, Below w.heap.size w v → Calls Tryz.prog 22 #[.agg #[.slice a1 zs.length c1, .slice b1 xs.length d1], .slice a2 us.length c2] v (Got v us us.length (Sp.szI us) (List.replicate (Sp.szI us) (qs.getD 0 0)) 40) := fun v hv => by
            obtain ⟨e0, y, ey⟩ := one_of T1.tr hz
            have T2 := T1.below hv
            subst ey
            subst e0
            have hx : xs.length = 1 := by rw [← T2.hn]; rfl
            rw [hx] at T2 ⊢
            exact zspread c1 d1 c2 y (hE.below hv) T2 (h2.below hv) hr rfl rfl (by omega)
          have m0 : ((zs.length : Int) != 0) = false := by rw [hz]; rfl
          by_cases hn : Sp.szI us = xs.length
          · rw [hn] at N G
            exact shapes_yy a1 b1 c1 d1 _ _ a2 _ c2 zs us qs aF aZ w hE S1 R1 T1 hl h2 rfl hr hn G m0 Q N
          · have Y1 := Y (fun c => hn c.2.2)
            rw [t1, decide_eq_true hr] at Y1
            exact shapes_ny a1 b1 c1 d1 _ _ a2 _ c2 zs us qs _ aF aZ w hE S1 R1 T1 hl h2 rfl Y1 G m0 hpos Q N (int_no hn) (int_ne hn)
        · have Z1 := Z (fun c => hz c.2.2)
          rw [t1, decide_eq_true hr] at Z1
          have m1 : ((zs.length : Int) != 0) = true := int_no (k := 0) hz
          by_cases hn : Sp.szI us = xs.length
          · rw [hn] at N
            exact shapes_yn a1 b1 c1 d1 _ _ a2 _ c2 zs us qs aF aZ w hE S1 R1 T1 hl h2 rfl hr hn Z1 m1 Q N
          · have Y1 := Y (fun c => hn c.2.2)
            rw [t1, decide_eq_true hr] at Y1
            exact shapes_nn a1 b1 c1 d1 _ _ a2 _ c2 zs us qs _ aF aZ w hE S1 R1 T1 hl h2 rfl Y1 Z1 m1 Q N (int_no hn) (int_ne hn)
      · have Y1 := Y (fun c => hr c.2.1)
        have Z1 := Z (fun c => hr c.2.1)
        rw [t1, decide_eq_false hr] at Y1 Z1
        rw [decide_eq_false hr] at Q
        exact shapes_none a1 b1 c1 d1 _ _ a2 _ c2 zs us qs aF aZ w hE S1 R1 T1 hl h2 rfl Y1 Z1 Q
end Go.Proofs.YtbfboippaejnmaaGreatDoor.Tn
