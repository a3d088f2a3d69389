/-
  WHAT IS REFUSED, as the laws' walks take it; and the laws of stage 5 but TensorZips and TensorMaps, walked. Conditions: what the arguments hold.
-/
import Derived.Test.YtfblgaffkflenaaGreatDoorWPowers
import Derived.Test.YtfblgaffkflenaaGreatDoorWNone
import Derived.Test.YtfblgaffkflenaaGreatDoorWSums
import Derived.Test.YtfblgaffkflenaaGreatDoorWTimes
import Derived.Test.YtfblgaffkflenaaGreatDoorWLaws
import Derived.Test.YtfblgaffkflenaaGreatDoorWScales
import Derived.Test.YtfblgaffkflenaaGreatDoorWShapes
namespace Go.Proofs.YtfblgaffkflenaaGreatDoor.Tn
set_option maxRecDepth 100000
open Go.RowKit Nm
set_option linter.unusedVariables false

/-- which error -/
def zerr (b c : Bool) : Int := if (b && c) = true then 4 else 1
theorem zerr_comm (b c : Bool) : zerr b c = zerr c b := by unfold zerr; rw [Bool.and_comm]
theorem zerr_ne (b c : Bool) : (zerr b c != 0) = true := by unfold zerr; split <;> decide
theorem zerr_eq (b c : Bool) : (zerr b c == 0) = false := by unfold zerr; split <;> decide

section
variable {a1 b1 a2 b2 : Option Addr} {B1 B2 m1 n1 m2 n2 : Nat} {zs us : List Int} {xs ys : List ByteArray} {aF aZ : Addr} {w : World}
theorem zfail (op : ByteArray) (hk : known op = true) (hos : op.size ≤ maxLen) (c1 d1 c2 d2 : Nat) (hE : Er w aF aZ) (h1 : Ta w B1 a1 b1 zs xs) (h2 : Ta w B2 a2 b2 us ys) (e1 : zs.length = m1) (e2 : xs.length = n1) (e3 : us.length = m2) (e4 : ys.length = n2)
    (hbad : ¬ ((tn zs xs && tn us ys) = true ∧ zs = us)) :
    Calls Tryz.prog 14 #[.string op, .agg #[.slice a1 m1 c1, .slice b1 n1 d1], .agg #[.slice a2 m2 c2, .slice b2 n2 d2]] w fun e w' => e = .returned (noTensor (zerr (tn zs xs) (tn us ys))) ∧ Below w.heap.size w w' := by
  subst e1 e2 e3 e4
  have hf : fits op zs us xs ys = (tn zs xs && tn us ys) := by unfold fits; rw [hk, Bool.true_and]
  have k := Zip_no a1 b1 a2 b2 c1 d1 c2 d2 B1 B2 zs us xs ys op hos aF aZ w hE h1 h2 (by rw [hf]; exact hbad)
  rw [hf] at k
  exact k
theorem sfail (c1 d1 : Nat) (y : ByteArray) (hE : Er w aF aZ) (h1 : Ta w B1 a1 b1 zs xs) (e1 : zs.length = m1) (e2 : xs.length = n1) (hy : y.size ≤ 200000) (hbad : (tn zs xs && ra y) = false) :
    Calls Tryz.prog 20 #[.agg #[.slice a1 m1 c1, .slice b1 n1 d1], .string y] w fun e w' => e = .returned (noTensor 1) ∧ Below w.heap.size w w' := by
  subst e1 e2
  exact Scale_no a1 b1 c1 d1 B1 zs xs y hy aF aZ w hE h1 hbad
theorem pfail (c1 d1 : Nat) (y : Int) (hE : Er w aF aZ) (h1 : Ta w B1 a1 b1 zs xs) (e1 : zs.length = m1) (e2 : xs.length = n1) (hs : ∀ x, x ∈ xs → x.size ≤ 50000) (hbad : tn zs xs = false ∨ y < 0 ∨ 6 < y) :
    Calls Tryz.prog 21 #[.agg #[.slice a1 m1 c1, .slice b1 n1 d1], .int .i64 y] w fun e w' => e = .returned (noTensor 1) ∧ Below w.heap.size w w' := by
  subst e1 e2
  exact Pow_no a1 b1 c1 d1 B1 zs xs y aF aZ w hE h1 hbad hs
theorem Tt.ta {a b : Option Addr} {B m n : Nat} {qs : List Rat} {k : Nat} (h : Tt w B a b zs m n qs k) (hk : k ≤ 20000) : Ta w B a b zs (qs.map R) := Ta.of h.tm h.tr hk
theorem Tt.xl {a b : Option Addr} {B m n : Nat} {qs : List Rat} {k : Nat} (h : Tt w B a b zs m n qs k) : (qs.map R).length = n := by rw [mapR_len]; exact h.hn
/-- two small tensors of one shape -/
theorem Tt.pair (h1 : Tm w 0 a1 b1 zs xs) (h2 : Tm w 0 a2 b2 zs ys) (s1 : Tn.small zs xs = true) (s2 : Tn.small zs ys = true) (t1 : tn zs xs = true) (t2 : tn zs ys = true) :
    ∃ qs rs : List Rat, xs = qs.map R ∧ ys = rs.map R ∧ ys.length = xs.length ∧ Tt w 0 a1 b1 zs zs.length xs.length qs 40 ∧ Tt w 0 a2 b2 zs zs.length xs.length rs 40 := by
  obtain ⟨qs, e1, k1⟩ := Tt.small h1 s1 t1
  obtain ⟨rs, e2, k2⟩ := Tt.small h2 s2 t2
  have e : ys.length = xs.length := by rw [← k1.hn, ← k2.hn, k1.tr.l, k2.tr.l]
  exact ⟨qs, rs, e1, e2, e, k1, ⟨k2.tm, k2.tr, k2.hm, k2.hn.trans e⟩⟩
end
theorem kA : known sAdd = true := by decide
theorem kS : known sSub = true := by decide
theorem kM : known sMul = true := by decide
theorem oA : sAdd.size ≤ maxLen := by decide
theorem oS : sSub.size ≤ maxLen := by decide
theorem oM : sMul.size ≤ maxLen := by decide

section
variable (a1 b1 a2 b2 a3 b3 : Option Addr) (c1 d1 c2 d2 c3 d3 : Nat) (zs us vs : List Int) (xs ys ts : List ByteArray) (aF aZ : Addr) (w : World)
theorem none_any (hE : Er w aF aZ) (h1 : Tm w 0 a1 b1 zs xs) :
    Calls Tryz.prog 11 #[.agg #[.slice a1 zs.length c1, .slice b1 xs.length d1]] w fun e w' => e = .returned (.bool true) ∧ Below w.heap.size w w' := by
  have S1 := fun (v : World) (hv : Below w.heap.size w v) => small_below c1 d1 (h1.below hv)
  cases hs : small zs xs with
  | false => rw [hs] at S1; exact none_long a1 b1 c1 d1 _ _ aF aZ w hE S1
  | true =>
    rw [hs] at S1
    have hA := Ta.small h1 hs
    cases ht : tn zs xs with
    | false =>
      have R1 := fun (v : World) (hv : Below w.heap.size w v) => (hA.below hv).right c1 d1 (hE.below hv)
      rw [ht] at R1
      exact none_bad a1 b1 c1 d1 _ _ _ aF aZ w hE S1 (fun v hv => zfail sSub kS oS c1 d1 c1 d1 (hE.below hv) (hA.below hv) (hA.below hv) rfl rfl rfl rfl (by rw [ht]; simp)) R1 (zerr_ne _ _)
    | true =>
      obtain ⟨qs, e, hT⟩ := Tt.small h1 hs ht
      exact none_good a1 b1 c1 d1 _ _ zs qs aF aZ w hE S1 hT

theorem powers_any (hE : Er w aF aZ) (h1 : Tm w 0 a1 b1 zs xs) :
    Calls Tryz.prog 6 #[.agg #[.slice a1 zs.length c1, .slice b1 xs.length d1]] w fun e w' => e = .returned (.bool true) ∧ Below w.heap.size w w' := by
  have S1 := fun (v : World) (hv : Below w.heap.size w v) => small_below c1 d1 (h1.below hv)
  cases hs : small zs xs with
  | false => rw [hs] at S1; exact powers_long a1 b1 c1 d1 _ _ aF aZ w hE S1
  | true =>
    rw [hs] at S1
    have hA := Ta.small h1 hs
    cases ht : tn zs xs with
    | false =>
      have R1 := fun (v : World) (hv : Below w.heap.size w v) => (hA.below hv).right c1 d1 (hE.below hv)
      rw [ht] at R1
      exact powers_bad a1 b1 c1 d1 _ _ aF aZ w hE S1 R1
    | true =>
      obtain ⟨qs, e, hT⟩ := Tt.small h1 hs ht
      exact powers_good a1 b1 c1 d1 _ _ zs qs aF aZ w hE S1 hT

theorem sums_any (hE : Er w aF aZ) (y : ByteArray) (h1 : Tm w 0 a1 b1 zs xs) :
    Calls Tryz.prog 7 #[.agg #[.slice a1 zs.length c1, .slice b1 xs.length d1], .string y] w fun e w' => e = .returned (.bool true) ∧ Below w.heap.size w w' := by
  have S1 := fun (v : World) (hv : Below w.heap.size w v) => small_below c1 d1 (h1.below hv)
  cases hs : small zs xs with
  | false => rw [hs] at S1; exact sums_long1 a1 b1 c1 d1 _ _ y aF aZ w hE S1
  | true =>
    rw [hs] at S1
    have hA := Ta.small h1 hs
    by_cases hy : 40 < y.size
    · exact sums_long2 a1 b1 c1 d1 _ _ y aF aZ w hE S1 hy
    have R1 := fun (v : World) (hv : Below w.heap.size w v) => (hA.below hv).right c1 d1 (hE.below hv)
    cases ht : tn zs xs with
    | false => rw [ht] at R1; exact sums_bad a1 b1 c1 d1 _ _ y aF aZ w hE S1 R1 hy
    | true =>
      rw [ht] at R1
      cases hr : ra y with
      | false => exact sums_no a1 b1 c1 d1 _ _ y aF aZ w hE S1 R1 (fun v hv => sfail c1 d1 y (hE.below hv) (hA.below hv) rfl rfl (by omega) (by rw [hr]; simp)) hy
      | true =>
        obtain ⟨q, rfl⟩ := R_of hr
        obtain ⟨qs, e, hT⟩ := Tt.small h1 hs ht
        exact sums_good a1 b1 c1 d1 _ _ zs qs q aF aZ w hE S1 hT (Bd.of_size (by omega)) hy

theorem laws_any (hE : Er w aF aZ) (h1 : Tm w 0 a1 b1 zs xs) (h2 : Tm w 0 a2 b2 us ys) :
    Calls Tryz.prog 5 #[.agg #[.slice a1 zs.length c1, .slice b1 xs.length d1], .agg #[.slice a2 us.length c2, .slice b2 ys.length d2]] w fun e w' => e = .returned (.bool true) ∧ Below w.heap.size w w' := by
  have S1 := fun (v : World) (hv : Below w.heap.size w v) => small_below c1 d1 (h1.below hv)
  have S2 := fun (v : World) (hv : Below w.heap.size w v) => small_below c2 d2 (h2.below hv)
  cases s1 : small zs xs with
  | false => rw [s1] at S1; exact laws_long1 a1 b1 a2 b2 c1 d1 _ _ c2 d2 _ _ aF aZ w hE S1
  | true =>
    rw [s1] at S1
    have A1 := Ta.small h1 s1
    cases s2 : small us ys with
    | false => rw [s2] at S2; exact laws_long2 a1 b1 a2 b2 c1 d1 _ _ c2 d2 _ _ aF aZ w hE S1 S2
    | true =>
      rw [s2] at S2
      have A2 := Ta.small h2 s2
      by_cases hg : (tn zs xs && tn us ys) = true ∧ zs = us
      · obtain ⟨t, rfl⟩ := hg
        simp only [Bool.and_eq_true] at t
        obtain ⟨qs, rs, _, _, e, k1, k2⟩ := Tt.pair h1 h2 s1 s2 t.1 t.2
        exact laws_good a1 b1 a2 b2 c1 d1 _ _ c2 d2 _ _ zs qs rs aF aZ w hE S1 S2 k1 k2 rfl e
      · have Z1 := fun (v : World) (hv : Below w.heap.size w v) => zfail sAdd kA oA c1 d1 c2 d2 (hE.below hv) (A1.below hv) (A2.below hv) rfl rfl rfl rfl hg
        have Z2 := fun (v : World) (hv : Below w.heap.size w v) => zfail sAdd kA oA c2 d2 c1 d1 (hE.below hv) (A2.below hv) (A1.below hv) rfl rfl rfl rfl (fun h => hg ⟨by rw [Bool.and_comm]; exact h.1, h.2.symm⟩)
        have Z3 := fun (v : World) (hv : Below w.heap.size w v) => zfail sSub kS oS c1 d1 c2 d2 (hE.below hv) (A1.below hv) (A2.below hv) rfl rfl rfl rfl hg
        rw [zerr_comm] at Z2
        cases ht : tn us ys with
        | false =>
          rw [ht] at Z1 Z2 Z3
          exact laws_no1 a1 b1 a2 b2 c1 d1 _ _ c2 d2 _ _ _ _ _ aF aZ w hE S1 S2 Z1 Z2 Z3
            (fun v hv => sfail c2 d2 _ (hE.below hv) (A2.below hv) rfl rfl (by decide) (by rw [ht]; rfl))
            (fun v hv => zfail sAdd kA oA c1 d1 0 0 (hE.below hv) (A1.below hv) (Ta.empty v) rfl rfl rfl rfl (by rw [no_empty]; simp)) (zerr_ne _ _) (by simp)
        | true =>
          rw [ht] at Z1 Z2 Z3
          obtain ⟨rs, e, hT⟩ := Tt.small h2 s2 ht
          refine laws_no2 a1 b1 a2 b2 c1 d1 _ _ c2 d2 _ _ _ _ (zerr (tn zs xs) true) us rs aF aZ w hE S1 S2 Z1 Z2 Z3 hT (fun v B a3 b3 c3 d3 hv hN => ?_) (zerr_ne _ _) (by simp)
          have k := zfail sAdd kA oA c1 d1 c3 d3 (hE.below hv) (A1.below hv) (hN.ta (by omega)) rfl rfl hN.hm hN.xl (by rw [hN.tr.tn]; rw [ht] at hg; exact hg)
          rw [hN.tr.tn] at k
          exact k

theorem times_any (hE : Er w aF aZ) (h1 : Tm w 0 a1 b1 zs xs) (h2 : Tm w 0 a2 b2 us ys) (h3 : Tm w 0 a3 b3 vs ts) :
    Calls Tryz.prog 8 #[.agg #[.slice a1 zs.length c1, .slice b1 xs.length d1], .agg #[.slice a2 us.length c2, .slice b2 ys.length d2], .agg #[.slice a3 vs.length c3, .slice b3 ts.length d3]] w fun e w' => e = .returned (.bool true) ∧ Below w.heap.size w w' := by
  have S1 := fun (v : World) (hv : Below w.heap.size w v) => small_below c1 d1 (h1.below hv)
  have S2 := fun (v : World) (hv : Below w.heap.size w v) => small_below c2 d2 (h2.below hv)
  have S3 := fun (v : World) (hv : Below w.heap.size w v) => small_below c3 d3 (h3.below hv)
  cases s1 : small zs xs with
  | false => rw [s1] at S1; exact times_long1 a1 b1 a2 b2 a3 b3 c1 d1 _ _ c2 d2 _ _ c3 d3 _ _ aF aZ w hE S1
  | true =>
    rw [s1] at S1
    have A1 := Ta.small h1 s1
    cases s2 : small us ys with
    | false => rw [s2] at S2; exact times_long2 a1 b1 a2 b2 a3 b3 c1 d1 _ _ c2 d2 _ _ c3 d3 _ _ aF aZ w hE S1 S2
    | true =>
      rw [s2] at S2
      have A2 := Ta.small h2 s2
      cases s3 : small vs ts with
      | false => rw [s3] at S3; exact times_long3 a1 b1 a2 b2 a3 b3 c1 d1 _ _ c2 d2 _ _ c3 d3 _ _ aF aZ w hE S1 S2 S3
      | true =>
        rw [s3] at S3
        have A3 := Ta.small h3 s3
        by_cases hg : (tn us ys && tn vs ts) = true ∧ us = vs
        · obtain ⟨t, rfl⟩ := hg
          simp only [Bool.and_eq_true] at t
          obtain ⟨rs, us', _, _, e, k2, k3⟩ := Tt.pair h2 h3 s2 s3 t.1 t.2
          by_cases hh : tn zs xs = true ∧ zs = us
          · obtain ⟨t1, rfl⟩ := hh
            obtain ⟨qs, rs', e1, e2, e3, k1, k2'⟩ := Tt.pair h1 h2 s1 s2 t1 t.1
            have el : ts.length = xs.length := e.trans e3
            exact times_good a1 b1 a2 b2 a3 b3 c1 d1 _ _ c2 d2 _ _ c3 d3 _ _ zs qs rs us' aF aZ w hE S1 S2 S3 k1 ⟨k2.tm, k2.tr, k2.hm, k2.hn.trans e3⟩ ⟨k3.tm, k3.tr, k3.hm, k3.hn.trans e3⟩ rfl e3 rfl el
          · refine times_no2 a1 b1 a2 b2 a3 b3 c1 d1 _ _ c2 d2 _ _ c3 d3 _ _ (zerr (tn zs xs) true) us rs us' aF aZ w hE S1 S2 S3 k2 k3 rfl e (fun v B a4 b4 c4 d4 hv hN => ?_) (zerr_ne _ _)
            have k := zfail sMul kM oM c1 d1 c4 d4 (hE.below hv) (A1.below hv) (hN.ta (by omega)) rfl rfl hN.hm hN.xl (by rw [hN.tr.tn, Bool.and_true]; exact hh)
            rw [hN.tr.tn] at k
            exact k
        · exact times_no1 a1 b1 a2 b2 a3 b3 c1 d1 _ _ c2 d2 _ _ c3 d3 _ _ _ _ aF aZ w hE S1 S2 S3
            (fun v hv => zfail sAdd kA oA c2 d2 c3 d3 (hE.below hv) (A2.below hv) (A3.below hv) rfl rfl rfl rfl hg)
            (fun v hv => zfail sMul kM oM c1 d1 0 0 (hE.below hv) (A1.below hv) (Ta.empty v) rfl rfl rfl rfl (by rw [no_empty]; simp)) (zerr_ne _ _)

theorem scales_any (hE : Er w aF aZ) (y z : ByteArray) (h1 : Tm w 0 a1 b1 zs xs) :
    Calls Tryz.prog 9 #[.agg #[.slice a1 zs.length c1, .slice b1 xs.length d1], .string y, .string z] w fun e w' => e = .returned (.bool true) ∧ Below w.heap.size w w' := by
  have S1 := fun (v : World) (hv : Below w.heap.size w v) => small_below c1 d1 (h1.below hv)
  cases hs : small zs xs with
  | false => rw [hs] at S1; exact scales_long1 a1 b1 c1 d1 _ _ y z aF aZ w hE S1
  | true =>
    rw [hs] at S1
    have hA := Ta.small h1 hs
    by_cases hy : 20 < y.size
    · exact scales_long2 a1 b1 c1 d1 _ _ y z aF aZ w hE S1 hy
    by_cases hz : 20 < z.size
    · exact scales_long3 a1 b1 c1 d1 _ _ y z aF aZ w hE S1 hy hz
    have hne : ra ⟨#[]⟩ = false := by decide +kernel
    cases ht : tn zs xs with
    | false =>
      have F := fun (x : ByteArray) (hx : x.size ≤ 200000) (v : World) (hv : Below w.heap.size w v) => sfail c1 d1 x (hE.below hv) (hA.below hv) rfl rfl hx (by rw [ht]; rfl)
      have G := fun (v : World) (hv : Below w.heap.size w v) => sfail 0 0 z (hE.below hv) (Ta.empty v) rfl rfl (by omega) (by rw [no_empty]; rfl)
      cases hr : (ra y && ra z) with
      | false => exact scales_no1 a1 b1 c1 d1 _ _ y z _ _ aF aZ w hE S1 (F y (by omega)) G (fun v hv => MulR_no y z aF aZ v (hE.below hv) (by omega) (by omega) hr) (F _ (by decide)) (F _ (by decide)) hy hz
      | true =>
        simp only [Bool.and_eq_true] at hr
        obtain ⟨p, rfl⟩ := R_of hr.1
        obtain ⟨q, rfl⟩ := R_of hr.2
        have hb : Bd p 20 := Bd.of_size (by omega)
        have hc : Bd q 20 := Bd.of_size (by omega)
        exact scales_no1 a1 b1 c1 d1 _ _ _ _ _ _ aF aZ w hE S1 (F _ (by omega)) G (fun v hv => Mul_R p q v (by omega) (by omega)) (F _ (Bd.size (hb.mul hc) (by omega))) (F _ (by decide)) hy hz
    | true =>
      obtain ⟨qs, e, hT⟩ := Tt.small h1 hs ht
      cases hr : ra y with
      | false =>
        exact scales_no2 a1 b1 c1 d1 _ _ y z zs qs aF aZ w hE S1 hT (fun v hv => sfail c1 d1 y (hE.below hv) (hA.below hv) rfl rfl (by omega) (by rw [hr]; simp))
          (fun v hv => sfail 0 0 z (hE.below hv) (Ta.empty v) rfl rfl (by omega) (by rw [no_empty]; rfl)) (fun v hv => MulR_no y z aF aZ v (hE.below hv) (by omega) (by omega) (by rw [hr]; rfl))
          (fun v hv => sfail c1 d1 _ (hE.below hv) (hA.below hv) rfl rfl (by decide) (by rw [hne]; simp)) hy hz
      | true =>
        obtain ⟨p, rfl⟩ := R_of hr
        cases hq : ra z with
        | false =>
          exact scales_no3 a1 b1 c1 d1 _ _ z zs qs p aF aZ w hE S1 hT (Bd.of_size (by omega)) (fun v B a3 b3 c3 d3 hv hN => sfail c3 d3 z (hE.below hv) (hN.ta (by omega)) hN.hm hN.xl (by omega) (by rw [hq]; simp))
            (fun v hv => MulR_no _ z aF aZ v (hE.below hv) (by omega) (by omega) (by rw [hq]; simp))
            (fun v hv => sfail c1 d1 _ (hE.below hv) (hA.below hv) rfl rfl (by decide) (by rw [hne]; simp)) hy hz
        | true =>
          obtain ⟨q, rfl⟩ := R_of hq
          exact scales_good a1 b1 c1 d1 _ _ zs qs p q aF aZ w hE S1 hT (Bd.of_size (by omega)) (Bd.of_size (by omega)) hy hz

theorem u8_mod7 {n : Int} (h : (Lit.int .u8 n).wf = true) : ∃ i : Nat, i ≤ 6 ∧ wrap64 (n.tmod 7) = (i : Int) := by
  have hn : 0 ≤ n ∧ n ≤ 255 := by
    have h1 : IntKind.u8.min = 0 := by decide
    have h2 : IntKind.u8.max = 255 := by decide
    have h : (decide (IntKind.u8.min ≤ n) && decide (n ≤ IntKind.u8.max)) = true := h
    rw [h1, h2, Bool.and_eq_true, decide_eq_true_eq, decide_eq_true_eq] at h
    exact h
  obtain ⟨m, rfl⟩ : ∃ m : Nat, n = m := ⟨n.toNat, by omega⟩
  refine ⟨m % 7, by omega, ?_⟩
  have e : ((m : Int)).tmod 7 = ((m % 7 : Nat) : Int) := by
    rw [Int.tmod_eq_emod_of_nonneg (by omega)]; omega
  rw [e]
  have : m % 7 ≤ 6 := by omega
  generalize m % 7 = k at *
  unfold wrap64
  omega

theorem shapes_any (hE : Er w aF aZ) (y : ByteArray) (k : Int) (h1 : Tm w 0 a1 b1 zs xs) (h2 : Tm w 0 a2 b2 us ys) (hk : (Lit.int .u8 k).wf = true) :
    Calls Tryz.prog 10 #[.agg #[.slice a1 zs.length c1, .slice b1 xs.length d1], .agg #[.slice a2 us.length c2, .slice b2 ys.length d2], .string y, .int .u8 k] w fun e w' => e = .returned (.bool true) ∧ Below w.heap.size w w' := by
  have S1 := fun (v : World) (hv : Below w.heap.size w v) => small_below c1 d1 (h1.below hv)
  have S2 := fun (v : World) (hv : Below w.heap.size w v) => small_below c2 d2 (h2.below hv)
  obtain ⟨i, hi, ei⟩ := u8_mod7 hk
  cases s1 : small zs xs with
  | false => rw [s1] at S1; exact shapes_long1 a1 b1 a2 b2 c1 d1 _ _ c2 d2 _ _ y k aF aZ w hE S1
  | true =>
    rw [s1] at S1
    have A1 := Ta.small h1 s1
    cases s2 : small us ys with
    | false => rw [s2] at S2; exact shapes_long2 a1 b1 a2 b2 c1 d1 _ _ c2 d2 _ _ y k aF aZ w hE S1 S2
    | true =>
      rw [s2] at S2
      have A2 := Ta.small h2 s2
      by_cases hy : 40 < y.size
      · exact shapes_long3 a1 b1 a2 b2 c1 d1 _ _ c2 d2 _ _ y k aF aZ w hE S1 S2 hy
      have Z := fun (hg : ¬ ((tn zs xs && tn us ys) = true ∧ zs = us)) (v : World) (hv : Below w.heap.size w v) => zfail sSub kS oS c1 d1 c2 d2 (hE.below hv) (A1.below hv) (A2.below hv) rfl rfl rfl rfl hg
      cases ht : tn zs xs with
      | false =>
        rw [ht] at Z
        exact shapes_no a1 b1 a2 b2 c1 d1 _ _ c2 d2 _ _ y k _ aF aZ w hE S1 S2 (Z (by simp)) (fun v hv => sfail c1 d1 y (hE.below hv) (A1.below hv) rfl rfl (by omega) (by rw [ht]; rfl)) hy i hi ei
          (fun v hv => pfail c1 d1 _ (hE.below hv) (A1.below hv) rfl rfl (fun x hx => by have := (small_of s1).2.2 x hx; omega) (Or.inl ht)) (zerr_eq _ _)
      | true =>
        by_cases hg : (tn zs xs && tn us ys) = true ∧ zs = us
        · obtain ⟨t, rfl⟩ := hg
          simp only [Bool.and_eq_true] at t
          obtain ⟨qs, rs, _, _, e, k1, k2⟩ := Tt.pair h1 h2 s1 s2 t.1 t.2
          cases hr : ra y with
          | false => exact shapes_yn a1 b1 a2 b2 c1 d1 _ _ c2 d2 _ _ y k zs qs rs aF aZ w hE S1 S2 k1 k2 rfl e (fun v hv => sfail c1 d1 y (hE.below hv) (A1.below hv) rfl rfl (by omega) (by rw [hr]; simp)) hy i hi ei
          | true =>
            obtain ⟨p, rfl⟩ := R_of hr
            exact shapes_yy a1 b1 a2 b2 c1 d1 _ _ c2 d2 _ _ p k zs qs rs aF aZ w hE S1 S2 k1 k2 rfl e (Bd.of_size (by omega)) hy i hi ei
        · obtain ⟨qs, e, k1⟩ := Tt.small h1 s1 ht
          cases hr : ra y with
          | false => exact shapes_nn a1 b1 a2 b2 c1 d1 _ _ c2 d2 _ _ y k zs qs _ aF aZ w hE S1 S2 k1 (Z hg) (zerr_eq _ _) (fun v hv => sfail c1 d1 y (hE.below hv) (A1.below hv) rfl rfl (by omega) (by rw [hr]; simp)) hy i hi ei
          | true =>
            obtain ⟨p, rfl⟩ := R_of hr
            exact shapes_ny a1 b1 a2 b2 c1 d1 _ _ c2 d2 _ _ p k zs qs _ aF aZ w hE S1 S2 k1 (Z hg) (zerr_eq _ _) (Bd.of_size (by omega)) hy i hi ei
end
end Go.Proofs.YtfblgaffkflenaaGreatDoor.Tn
