/-
  ArrayLinear, WALKED: the call answers true, whatever three tensors are handed in. Conditions: what the arguments hold.
-/
import Derived.Test.YtbfboippaejnmaaGreatDoorLc
import Derived.Test.YtbfboippaejnmaaGreatDoorWLinear
namespace Go.Proofs.YtbfboippaejnmaaGreatDoor.Tn
set_option maxRecDepth 100000
open Go.RowKit Nm
set_option linter.unusedVariables false

theorem Tt.ta {w : World} {a b : Option Addr} {B m n : Nat} {zs : List Int} {qs : List Rat} {k : Nat} (h : Tt w B a b zs m n qs k) (hk : k ≤ 20000) : Ta w B a b zs (qs.map R) := Ta.of h.tm h.tr hk
theorem Tt.xl {w : World} {a b : Option Addr} {B m n : Nat} {zs : List Int} {qs : List Rat} {k : Nat} (h : Tt w B a b zs m n qs k) : (qs.map R).length = n := by rw [mapR_len]; exact h.hn
theorem lin_bound {n q : Nat} (h : n * q ≤ 64) (hn : n ≤ 64) (hq : q ≤ 64) : q * ((n * (40 + 40 + 1) + 1) + 40 + 1) + 1 ≤ 20000 ∧ n * (40 + (q * (40 + 40 + 1) + 1) + 1) + 1 ≤ 20000 := by
  have e1 : q * ((n * (40 + 40 + 1) + 1) + 40 + 1) = n * q * 81 + q * 42 := by grind
  have e2 : n * (40 + (q * (40 + 40 + 1) + 1) + 1) = n * q * 81 + n * 42 := by grind
  omega
theorem no_fit {zs : List Int} {xs : List ByteArray} : ¬ Fit zs [] xs [] := fun ⟨_, h, _⟩ => by rw [no_empty] at h; cases h

theorem linear_any (a1 b1 a2 b2 a3 b3 : Option Addr) (c1 d1 c2 d2 c3 d3 : Nat) (zs us vs : List Int) (xs ys zz : List ByteArray) (aF aZ : Addr) (w : World) (hE : Er w aF aZ) (h1 : Tm w 0 a1 b1 zs xs) (h2 : Tm w 0 a2 b2 us ys) (h3 : Tm w 0 a3 b3 vs zz) :
    Calls Tryz.prog 8 #[.agg #[.slice a1 zs.length c1, .slice b1 xs.length d1], .agg #[.slice a2 us.length c2, .slice b2 ys.length d2], .agg #[.slice a3 vs.length c3, .slice b3 zz.length d3]] w fun e w' => e = .returned (.bool true) ∧ Below w.heap.size w w' := by
  have S1 := fun (v : World) (hv : Below w.heap.size w v) => small_below c1 d1 (h1.below hv)
  have S2 := fun (v : World) (hv : Below w.heap.size w v) => small_below c2 d2 (h2.below hv)
  have S3 := fun (v : World) (hv : Below w.heap.size w v) => small_below c3 d3 (h3.below hv)
  cases e1 : small zs xs with
  | false => rw [e1] at S1; exact linear_long1 a1 b1 a2 b2 a3 b3 c1 d1 _ _ c2 d2 _ _ c3 d3 _ _ aF aZ w hE S1
  | true =>
  rw [e1] at S1
  cases e2 : small us ys with
  | false => rw [e2] at S2; exact linear_long2 a1 b1 a2 b2 a3 b3 c1 d1 _ _ c2 d2 _ _ c3 d3 _ _ aF aZ w hE S1 S2
  | true =>
  rw [e2] at S2
  cases e3 : small vs zz with
  | false => rw [e3] at S3; exact linear_long3 a1 b1 a2 b2 a3 b3 c1 d1 _ _ c2 d2 _ _ c3 d3 _ _ aF aZ w hE S1 S2 S3
  | true =>
  rw [e3] at S3
  have A1 := Ta.small h1 e1
  have A2 := Ta.small h2 e2
  have A3 := Ta.small h3 e3
  by_cases hf : Fit zs us xs ys
  · obtain ⟨t1, t2, p, n, q, rfl, rfl, hpq⟩ := hf
    obtain ⟨qs, ex, T1⟩ := Tt.small h1 e1 t1
    obtain ⟨rs, ey, T2⟩ := Tt.small h2 e2 t2
    have k1 := T1.two
    have k2 := T2.two
    have l1 := two_le ⟨k1.2.2.1, k1.2.2.2.1, k1.2.2.2.2⟩
    have l2 := two_le ⟨k2.2.2.1, k2.2.2.2.1, k2.2.2.2.2⟩
    have hb := lin_bound k2.2.2.2.2 l2.1 l2.2
    have hK : n * (40 + 40 + 1) + 1 ≤ 20000 := by omega
    have hK2 : q * (40 + 40 + 1) + 1 ≤ 20000 := by omega
    have X := fun (hbad : ¬ Fit [(p : Int), (q : Int)] vs ((mm p n q qs rs).map R) zz) (v : World) (B : Nat) (a4 b4 : Option Addr) (c4 d4 : Nat) (hv : Below w.heap.size w v) (hT : Tt v B a4 b4 [(p : Int), (q : Int)] 2 (p * q) (mm p n q qs rs) (n * (40 + 40 + 1) + 1)) =>
      zfail_mm (m1 := 2) (n1 := p * q) (m2 := vs.length) (n2 := zz.length) c4 d4 c3 d3 (hE.below hv) (hT.ta hK) (A3.below hv) rfl hT.xl rfl rfl hbad
    have Y := fun (hbad : ¬ Fit [(n : Int), (q : Int)] vs ys zz) (v : World) (hv : Below w.heap.size w v) => zfail_mm (m1 := 2) (n1 := ys.length) (m2 := vs.length) (n2 := zz.length) c2 d2 c3 d3 (hE.below hv) (A2.below hv) (A3.below hv) rfl rfl rfl rfl hbad
    have Z0 := fun (v : World) (hv : Below w.heap.size w v) => zfail_mm (m1 := 2) (n1 := xs.length) (m2 := 0) (n2 := 0) c1 d1 0 0 (hE.below hv) (A1.below hv) (Ta.empty v) rfl rfl rfl rfl no_fit
    by_cases h3' : tn vs zz = true ∧ ∃ r : Nat, vs = [(q : Int), (r : Int)]
    · obtain ⟨t3, r, rfl⟩ := h3'
      obtain ⟨ts, ez, T3⟩ := Tt.small h3 e3 t3
      have two : ∀ {x y : Nat} {zs' : List Int} {xs' : List ByteArray}, ¬ y * r ≤ 64 → zs' = [(y : Int), (x : Int)] → ¬ Fit zs' [(q : Int), (r : Int)] xs' zz := by
        rintro x y zs' xs' hn rfl ⟨_, _, p', n', q', ea, eb, hle⟩
        simp only [List.cons.injEq, Int.natCast_inj, and_true] at ea eb
        obtain ⟨rfl, rfl⟩ := ea
        obtain ⟨_, rfl⟩ := eb
        exact hn hle
      by_cases hpr : p * r ≤ 64
      · by_cases hnr : n * r ≤ 64
        · exact linear_yyy a1 b1 a2 b2 a3 b3 c1 d1 _ c2 d2 _ c3 d3 _ p n q _ r _ _ qs rs ts aF aZ w hE S1 S2 S3 T1 T2 hpq rfl l2.1 l2.2 T3 hpr rfl hb.1 hnr rfl hb.2
        · exact linear_ynn a1 b1 a2 b2 a3 b3 c1 d1 _ c2 d2 _ c3 d3 _ p n q _ r _ qs rs ts _ _ aF aZ w hE S1 S2 S3 T1 T2 hpq rfl l2.1 l2.2 T3 hpr rfl hb.1 (Y (two hnr rfl)) (zerr_ne _ _) Z0 (zerr_ne _ _)
      · have X' := X (two hpr rfl)
        by_cases hnr : n * r ≤ 64
        · have Z := fun (v : World) (B : Nat) (a4 b4 : Option Addr) (c4 d4 : Nat) (hv : Below w.heap.size w v) (hT : Tt v B a4 b4 [(n : Int), (r : Int)] 2 (n * r) (mm n q r rs ts) (q * (40 + 40 + 1) + 1)) =>
            zfail_mm (m1 := 2) (n1 := xs.length) (m2 := 2) (n2 := n * r) c1 d1 c4 d4 (hE.below hv) (A1.below hv) (hT.ta hK2) rfl rfl rfl hT.xl (fun ⟨_, _, p', n', q', ea, eb, hle⟩ => by
              simp only [List.cons.injEq, Int.natCast_inj, and_true] at ea eb
              obtain ⟨rfl, rfl⟩ := ea
              obtain ⟨_, rfl⟩ := eb
              exact hpr hle)
          exact linear_nyn a1 b1 a2 b2 a3 b3 c1 d1 _ c2 d2 _ c3 d3 _ p n q _ r _ qs rs ts _ _ aF aZ w hE S1 S2 S3 T1 T2 hpq rfl l2.1 l2.2 T3 X' (zerr_ne _ _) hnr rfl hb.2 Z (zerr_ne _ _)
        · exact linear_nnn a1 b1 a2 b2 a3 b3 c1 d1 _ c2 d2 _ c3 d3 _ _ p n q _ qs rs _ _ _ aF aZ w hE S1 S2 S3 T1 T2 hpq rfl l2.1 l2.2 X' (zerr_ne _ _) (Y (two hnr rfl)) (zerr_ne _ _) Z0 (zerr_ne _ _)
    · have no : ∀ {x y : Nat} {zs' : List Int} {xs' : List ByteArray}, zs' = [(y : Int), (q : Int)] → ¬ Fit zs' vs xs' zz := by
        rintro x y zs' xs' rfl ⟨_, t3, p', n', q', ea, eb, hle⟩
        simp only [List.cons.injEq, Int.natCast_inj, and_true] at ea
        obtain ⟨rfl, rfl⟩ := ea
        exact h3' ⟨t3, q', eb⟩
      exact linear_nnn a1 b1 a2 b2 a3 b3 c1 d1 _ c2 d2 _ c3 d3 _ _ p n q _ qs rs _ _ _ aF aZ w hE S1 S2 S3 T1 T2 hpq rfl l2.1 l2.2 (X (no (x := 0) rfl)) (zerr_ne _ _) (Y (no (x := 0) rfl)) (zerr_ne _ _) Z0 (zerr_ne _ _)
  · have M := fun (v : World) (hv : Below w.heap.size w v) => zfail_mm (m1 := zs.length) (n1 := xs.length) (m2 := us.length) (n2 := ys.length) c1 d1 c2 d2 (hE.below hv) (A1.below hv) (A2.below hv) rfl rfl rfl rfl hf
    cases t2 : tn us ys with
    | false =>
      have W := fun (v : World) (hv : Below w.heap.size w v) => Zip_no a2 b2 a2 b2 c2 d2 c2 d2 0 0 us us ys ys sAdd (by decide +kernel) aF aZ v (hE.below hv) (A2.below hv) (A2.below hv) (by unfold fits; rw [t2]; simp)
      exact linear_no1 a1 b1 a2 b2 a3 b3 c1 d1 _ _ c2 d2 _ _ c3 d3 _ _ _ _ aF aZ w hE S1 S2 S3 M (zerr_ne _ _) W
    | true =>
      obtain ⟨rs, ey, T2⟩ := Tt.small h2 e2 t2
      exact linear_no2 a1 b1 a2 b2 a3 b3 c1 d1 _ _ c2 d2 _ _ c3 d3 _ _ _ us rs aF aZ w hE S1 S2 S3 M (zerr_ne _ _) T2
end Go.Proofs.YtbfboippaejnmaaGreatDoor.Tn
