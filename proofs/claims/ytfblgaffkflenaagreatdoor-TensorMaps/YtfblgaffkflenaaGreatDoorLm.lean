/-
  THE LAW TensorMaps, WALKED. Conditions: what the arguments hold.
-/
import Derived.Test.YtfblgaffkflenaaGreatDoorWMb
import Derived.Test.YtfblgaffkflenaaGreatDoorWMe
import Derived.Test.YtfblgaffkflenaaGreatDoorWMf
namespace Go.Proofs.YtfblgaffkflenaaGreatDoor.Tn
set_option maxRecDepth 100000
open Go.RowKit Nm
set_option linter.unusedVariables false


theorem maps_any (a1 b1 : Option Addr) (c1 d1 : Nat) (zs : List Int) (xs : List ByteArray) (aF aZ : Addr) (w : World) (hE : Er w aF aZ) (y : ByteArray) (z : Int) (h1 : Tm w 0 a1 b1 zs xs) (hz : (Lit.int .i64 z).wf = true) :
    Calls Tryz.prog 4 #[.agg #[.slice a1 zs.length c1, .slice b1 xs.length d1], .string y, .int .i64 z] w fun e w' => e = .returned (.bool true) ∧ Below w.heap.size w w' := by
  have S1 := fun (v : World) (hv : Below w.heap.size w v) => small_below c1 d1 (h1.below hv)
  clear hz
  cases s1 : small zs xs with
  | false => rw [s1] at S1; exact maps_long1 a1 b1 c1 d1 _ _ y z aF aZ w hE S1
  | true =>
    rw [s1] at S1
    by_cases hy : 40 < y.size
    · exact maps_long2 a1 b1 c1 d1 _ _ y z aF aZ w hE S1 hy
    have A1 := Ta.small h1 s1
    have sm := small_of s1
    have Q1 := fun (v : World) (hv : Below w.heap.size w v) => (A1.below hv).rright s1 c1 d1
    have H1 : ∀ v, Below w.heap.size w v → Calls Tryz.prog 25 #[.slice a1 zs.length c1] v fun e w' => e = .returned (.bool (decide (Sp.Rgt zs))) ∧ Below v.heap.size v w' := by
      intro v hv
      exact (Sp.refRight_any a1 zs c1 v A1.zl (h1.below hv).s).mono fun e w' ⟨he, hs⟩ => ⟨he, by subst hs; exact Below.refl _ _⟩
    cases t1 : tn zs xs with
    | false =>
      rw [t1] at Q1
      have C := fun (v : World) (hv : Below w.heap.size w v) => sfail c1 d1 y (hE.below hv) (A1.below hv) rfl rfl (by omega) (by rw [t1]; rfl)
      have P := fun (v : World) (hv : Below w.heap.size w v) => pfail c1 d1 z (hE.below hv) (A1.below hv) rfl rfl (fun x hx => by have := sm.2.2 x hx; omega) (Or.inl t1)
      have U := fun (v : World) (hv : Below w.heap.size w v) => Sum_no a1 b1 c1 d1 0 zs xs aF aZ v (hE.below hv) (A1.below hv) t1
      cases hk : ra y with
      | false =>
        obtain ⟨X, Y, hD⟩ := Read_one y (by omega) hk
        have F := fun (v : World) (hv : Below w.heap.size w v) => Fill_no a1 c1 zs y A1.zl (by omega) aF aZ v (hE.below hv) (h1.below hv).s (by rw [hk]; simp)
        exact maps_a a1 b1 c1 d1 _ _ y z X Y aF aZ w hE S1 C P U F (fun v _ => hD v) Q1 hy
      | true =>
        obtain ⟨r, rfl⟩ := R_of hk
        by_cases hr : Sp.Rgt zs
        · rw [decide_eq_true hr] at H1
          exact maps_d a1 b1 c1 d1 _ _ (Sp.szI zs) zs xs r z aF aZ w hE S1 C P U Q1 H1 hy (Bd.of_size (by omega)) h1 hr rfl rfl (Sp.szI_le zs)
        · rw [decide_eq_false hr] at H1
          have F := fun (v : World) (hv : Below w.heap.size w v) => Fill_no a1 c1 zs (R r) A1.zl (by omega) aF aZ v (hE.below hv) (h1.below hv).s (fun c => hr c.1)
          exact maps_c a1 b1 c1 d1 _ _ (R r) z _ _ aF aZ w hE S1 C P U F (fun v _ => Read_R r v (by omega)) Q1 H1 hy
    | true =>
      rw [t1] at Q1
      obtain ⟨qs, e1, k1⟩ := Tt.small h1 s1 t1
      have P : z < 0 ∨ 6 < z → ∀ v, Below w.heap.size w v → Calls Tryz.prog 21 #[.agg #[.slice a1 zs.length c1, .slice b1 xs.length d1], .int .i64 z] v fun e w' => e = .returned (noTensor 1) ∧ Below v.heap.size v w' :=
        fun h v hv => pfail c1 d1 z (hE.below hv) (A1.below hv) rfl rfl (fun x hx => by have := sm.2.2 x hx; omega) (Or.inr h)
      cases hk : ra y with
      | false =>
        obtain ⟨X, Y, hD⟩ := Read_one y (by omega) hk
        have C := fun (v : World) (hv : Below w.heap.size w v) => sfail c1 d1 y (hE.below hv) (A1.below hv) rfl rfl (by omega) (by rw [hk, Bool.and_false])
        have F := fun (v : World) (hv : Below w.heap.size w v) => Fill_no a1 c1 zs y A1.zl (by omega) aF aZ v (hE.below hv) (h1.below hv).s (by rw [hk]; simp)
        by_cases z0 : z < 0
        · exact maps_b_lo a1 b1 c1 d1 _ _ zs qs y X Y z aF aZ w hE S1 Q1 C F (fun v _ => hD v) (P (Or.inl z0)) k1 hy z0
        by_cases z6 : 6 < z
        · exact maps_b_hi a1 b1 c1 d1 _ _ zs qs y X Y z aF aZ w hE S1 Q1 C F (fun v _ => hD v) (P (Or.inr z6)) k1 hy z0 (by omega) z6
        obtain ⟨n, rfl⟩ := Int.eq_ofNat_of_zero_le (show 0 ≤ z by omega)
        exact maps_b_in a1 b1 c1 d1 _ _ zs qs y X Y n aF aZ w hE S1 Q1 C F (fun v _ => hD v) k1 hy (by omega) (by omega)
      | true =>
        obtain ⟨r, rfl⟩ := R_of hk
        have hr : Sp.Rgt zs := k1.tr.r
        rw [decide_eq_true hr] at H1
        have hn : Sp.szI zs = xs.length := k1.tr.l.symm.trans k1.hn
        by_cases z0 : z < 0
        · exact maps_e_lo a1 b1 c1 d1 _ _ zs qs r z aF aZ w hE S1 Q1 H1 (P (Or.inl z0)) k1 hy (Bd.of_size (by omega)) hr hn z0
        by_cases z6 : 6 < z
        · exact maps_e_hi a1 b1 c1 d1 _ _ zs qs r z aF aZ w hE S1 Q1 H1 (P (Or.inr z6)) k1 hy (Bd.of_size (by omega)) hr hn z0 (by omega) z6
        obtain ⟨n, rfl⟩ := Int.eq_ofNat_of_zero_le (show 0 ≤ z by omega)
        exact maps_e_in a1 b1 c1 d1 _ _ zs qs r n aF aZ w hE S1 Q1 H1 k1 hy (Bd.of_size (by omega)) hr hn (by omega) (by omega)
end Go.Proofs.YtfblgaffkflenaaGreatDoor.Tn
