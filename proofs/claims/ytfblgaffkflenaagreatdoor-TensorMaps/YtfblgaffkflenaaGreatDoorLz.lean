/-
  THE LAW TensorZips, WALKED. Conditions: what the arguments hold.
-/
import Derived.Test.YtfblgaffkflenaaGreatDoorWZips
namespace Go.Proofs.YtfblgaffkflenaaGreatDoor.Tn
set_option maxRecDepth 100000
open Go.RowKit Nm
set_option linter.unusedVariables false

section
variable {a1 b1 a2 b2 : Option Addr} {zs us : List Int} {xs ys : List ByteArray} {aF aZ : Addr} {w : World}
theorem Ta.rright {B : Nat} (h : Ta w B a1 b1 zs xs) (hs : Tn.small zs xs = true) (c1 d1 : Nat) :
    Calls Tryz.prog 16 #[.agg #[.slice a1 zs.length c1, .slice b1 xs.length d1]] w fun e w' => e = .returned (.bool (tn zs xs)) ∧ Below w.heap.size w w' :=
  rright_any a1 b1 zs xs c1 d1 B w h.m h.zl h.xl (fun x hx => by have := (small_of hs).2.2 x hx; omega)
theorem zdiff (c1 c2 : Nat) (h1 : Sp.Sl w a1 zs) (h2 : Sp.Sl w a2 us) (l1 : zs.length ≤ 1000) (l2 : us.length ≤ 1000) (h : ¬ zs = us) :
    Calls Tryz.prog 17 #[.slice a1 zs.length c1, .slice a2 us.length c2] w fun e w' => e = .returned (.bool false) ∧ Below w.heap.size w w' := by
  have k := Sp.refSame_any a1 a2 zs us c1 c2 w l1 l2 h1 h2
  rw [decide_eq_false h] at k
  exact k.mono fun e w' ⟨he, hs⟩ => ⟨he, hs.below _⟩
end
section
variable (a1 b1 a2 b2 : Option Addr) (c1 d1 c2 d2 : Nat) (zs us : List Int) (xs ys : List ByteArray) (aF aZ : Addr) (w : World)
theorem zips_sAdd (hE : Er w aF aZ) (h1 : Tm w 0 a1 b1 zs xs) (h2 : Tm w 0 a2 b2 us ys) (s1 : small zs xs = true) (s2 : small us ys = true) :
    Calls Tryz.prog 3 #[.string sAdd, .agg #[.slice a1 zs.length c1, .slice b1 xs.length d1], .agg #[.slice a2 us.length c2, .slice b2 ys.length d2]] w fun e w' => e = .returned (.bool true) ∧ Below w.heap.size w w' := by
  have S1 := fun (v : World) (hv : Below w.heap.size w v) => small_below c1 d1 (h1.below hv)
  have S2 := fun (v : World) (hv : Below w.heap.size w v) => small_below c2 d2 (h2.below hv)
  rw [s1] at S1
  rw [s2] at S2
  have A1 := Ta.small h1 s1
  have A2 := Ta.small h2 s2
  have R1 := fun (v : World) (hv : Below w.heap.size w v) => (A1.below hv).right c1 d1 (hE.below hv)
  have Q1 := fun (v : World) (hv : Below w.heap.size w v) => (A1.below hv).rright s1 c1 d1
  have Q2 := fun (v : World) (hv : Below w.heap.size w v) => (A2.below hv).rright s2 c2 d2
  by_cases hg : (tn zs xs && tn us ys) = true ∧ zs = us
  · obtain ⟨t, rfl⟩ := hg
    simp only [Bool.and_eq_true] at t
    rw [t.1] at R1 Q1
    rw [t.2] at Q2
    obtain ⟨qs, rs, _, _, e, k1, k2⟩ := Tt.pair h1 h2 s1 s2 t.1 t.2
    exact zips_g_sAdd a1 b1 a2 b2 c1 d1 _ _ c2 d2 _ _ zs qs rs aF aZ w hE S1 S2 R1 Q1 Q2 k1 k2 rfl e
  · have Z := fun (v : World) (hv : Below w.heap.size w v) => zfail sAdd kA oA c1 d1 c2 d2 (hE.below hv) (A1.below hv) (A2.below hv) rfl rfl rfl rfl hg
    cases t1 : tn zs xs with
    | false => rw [t1] at Z R1 Q1; exact zips_a_sAdd a1 b1 a2 b2 c1 d1 _ _ c2 d2 _ _ aF aZ w hE S1 S2 Z R1 Q1
    | true =>
      rw [t1] at Z R1 Q1
      cases t2 : tn us ys with
      | false => rw [t2] at Z Q2; exact zips_b_sAdd a1 b1 a2 b2 c1 d1 _ _ c2 d2 _ _ aF aZ w hE S1 S2 Z R1 Q1 Q2
      | true =>
        rw [t2] at Z Q2
        have hne : ¬ zs = us := fun c => hg ⟨by rw [t1, t2]; rfl, c⟩
        exact zips_s_sAdd a1 b1 a2 b2 c1 d1 _ _ c2 d2 _ _ aF aZ w hE S1 S2 Z R1 Q1 Q2 (fun v hv => zdiff c1 c2 (h1.below hv).s (h2.below hv).s A1.zl A2.zl hne)
theorem zips_sSub (hE : Er w aF aZ) (h1 : Tm w 0 a1 b1 zs xs) (h2 : Tm w 0 a2 b2 us ys) (s1 : small zs xs = true) (s2 : small us ys = true) :
    Calls Tryz.prog 3 #[.string sSub, .agg #[.slice a1 zs.length c1, .slice b1 xs.length d1], .agg #[.slice a2 us.length c2, .slice b2 ys.length d2]] w fun e w' => e = .returned (.bool true) ∧ Below w.heap.size w w' := by
  have S1 := fun (v : World) (hv : Below w.heap.size w v) => small_below c1 d1 (h1.below hv)
  have S2 := fun (v : World) (hv : Below w.heap.size w v) => small_below c2 d2 (h2.below hv)
  rw [s1] at S1
  rw [s2] at S2
  have A1 := Ta.small h1 s1
  have A2 := Ta.small h2 s2
  have R1 := fun (v : World) (hv : Below w.heap.size w v) => (A1.below hv).right c1 d1 (hE.below hv)
  have Q1 := fun (v : World) (hv : Below w.heap.size w v) => (A1.below hv).rright s1 c1 d1
  have Q2 := fun (v : World) (hv : Below w.heap.size w v) => (A2.below hv).rright s2 c2 d2
  by_cases hg : (tn zs xs && tn us ys) = true ∧ zs = us
  · obtain ⟨t, rfl⟩ := hg
    simp only [Bool.and_eq_true] at t
    rw [t.1] at R1 Q1
    rw [t.2] at Q2
    obtain ⟨qs, rs, _, _, e, k1, k2⟩ := Tt.pair h1 h2 s1 s2 t.1 t.2
    exact zips_g_sSub a1 b1 a2 b2 c1 d1 _ _ c2 d2 _ _ zs qs rs aF aZ w hE S1 S2 R1 Q1 Q2 k1 k2 rfl e
  · have Z := fun (v : World) (hv : Below w.heap.size w v) => zfail sSub kS oS c1 d1 c2 d2 (hE.below hv) (A1.below hv) (A2.below hv) rfl rfl rfl rfl hg
    cases t1 : tn zs xs with
    | false => rw [t1] at Z R1 Q1; exact zips_a_sSub a1 b1 a2 b2 c1 d1 _ _ c2 d2 _ _ aF aZ w hE S1 S2 Z R1 Q1
    | true =>
      rw [t1] at Z R1 Q1
      cases t2 : tn us ys with
      | false => rw [t2] at Z Q2; exact zips_b_sSub a1 b1 a2 b2 c1 d1 _ _ c2 d2 _ _ aF aZ w hE S1 S2 Z R1 Q1 Q2
      | true =>
        rw [t2] at Z Q2
        have hne : ¬ zs = us := fun c => hg ⟨by rw [t1, t2]; rfl, c⟩
        exact zips_s_sSub a1 b1 a2 b2 c1 d1 _ _ c2 d2 _ _ aF aZ w hE S1 S2 Z R1 Q1 Q2 (fun v hv => zdiff c1 c2 (h1.below hv).s (h2.below hv).s A1.zl A2.zl hne)
theorem zips_sMul (hE : Er w aF aZ) (h1 : Tm w 0 a1 b1 zs xs) (h2 : Tm w 0 a2 b2 us ys) (s1 : small zs xs = true) (s2 : small us ys = true) :
    Calls Tryz.prog 3 #[.string sMul, .agg #[.slice a1 zs.length c1, .slice b1 xs.length d1], .agg #[.slice a2 us.length c2, .slice b2 ys.length d2]] w fun e w' => e = .returned (.bool true) ∧ Below w.heap.size w w' := by
  have S1 := fun (v : World) (hv : Below w.heap.size w v) => small_below c1 d1 (h1.below hv)
  have S2 := fun (v : World) (hv : Below w.heap.size w v) => small_below c2 d2 (h2.below hv)
  rw [s1] at S1
  rw [s2] at S2
  have A1 := Ta.small h1 s1
  have A2 := Ta.small h2 s2
  have R1 := fun (v : World) (hv : Below w.heap.size w v) => (A1.below hv).right c1 d1 (hE.below hv)
  have Q1 := fun (v : World) (hv : Below w.heap.size w v) => (A1.below hv).rright s1 c1 d1
  have Q2 := fun (v : World) (hv : Below w.heap.size w v) => (A2.below hv).rright s2 c2 d2
  by_cases hg : (tn zs xs && tn us ys) = true ∧ zs = us
  · obtain ⟨t, rfl⟩ := hg
    simp only [Bool.and_eq_true] at t
    rw [t.1] at R1 Q1
    rw [t.2] at Q2
    obtain ⟨qs, rs, _, _, e, k1, k2⟩ := Tt.pair h1 h2 s1 s2 t.1 t.2
    exact zips_g_sMul a1 b1 a2 b2 c1 d1 _ _ c2 d2 _ _ zs qs rs aF aZ w hE S1 S2 R1 Q1 Q2 k1 k2 rfl e
  · have Z := fun (v : World) (hv : Below w.heap.size w v) => zfail sMul kM oM c1 d1 c2 d2 (hE.below hv) (A1.below hv) (A2.below hv) rfl rfl rfl rfl hg
    cases t1 : tn zs xs with
    | false => rw [t1] at Z R1 Q1; exact zips_a_sMul a1 b1 a2 b2 c1 d1 _ _ c2 d2 _ _ aF aZ w hE S1 S2 Z R1 Q1
    | true =>
      rw [t1] at Z R1 Q1
      cases t2 : tn us ys with
      | false => rw [t2] at Z Q2; exact zips_b_sMul a1 b1 a2 b2 c1 d1 _ _ c2 d2 _ _ aF aZ w hE S1 S2 Z R1 Q1 Q2
      | true =>
        rw [t2] at Z Q2
        have hne : ¬ zs = us := fun c => hg ⟨by rw [t1, t2]; rfl, c⟩
        exact zips_s_sMul a1 b1 a2 b2 c1 d1 _ _ c2 d2 _ _ aF aZ w hE S1 S2 Z R1 Q1 Q2 (fun v hv => zdiff c1 c2 (h1.below hv).s (h2.below hv).s A1.zl A2.zl hne)
theorem zips_any (hE : Er w aF aZ) (op : ByteArray) (h1 : Tm w 0 a1 b1 zs xs) (h2 : Tm w 0 a2 b2 us ys) (ho : op.size ≤ maxLen) :
    Calls Tryz.prog 3 #[.string op, .agg #[.slice a1 zs.length c1, .slice b1 xs.length d1], .agg #[.slice a2 us.length c2, .slice b2 ys.length d2]] w fun e w' => e = .returned (.bool true) ∧ Below w.heap.size w w' := by
  have S1 := fun (v : World) (hv : Below w.heap.size w v) => small_below c1 d1 (h1.below hv)
  have S2 := fun (v : World) (hv : Below w.heap.size w v) => small_below c2 d2 (h2.below hv)
  cases s1 : small zs xs with
  | false => rw [s1] at S1; exact zips_long1 a1 b1 a2 b2 c1 d1 _ _ c2 d2 _ _ op aF aZ w hE S1
  | true =>
    cases s2 : small us ys with
    | false => rw [s1] at S1; rw [s2] at S2; exact zips_long2 a1 b1 a2 b2 c1 d1 _ _ c2 d2 _ _ op aF aZ w hE S1 S2
    | true =>
      by_cases oa : op = sAdd
      · subst oa; exact zips_sAdd a1 b1 a2 b2 c1 d1 c2 d2 zs us xs ys aF aZ w hE h1 h2 s1 s2
      by_cases os : op = sSub
      · subst os; exact zips_sSub a1 b1 a2 b2 c1 d1 c2 d2 zs us xs ys aF aZ w hE h1 h2 s1 s2
      by_cases om : op = sMul
      · subst om; exact zips_sMul a1 b1 a2 b2 c1 d1 c2 d2 zs us xs ys aF aZ w hE h1 h2 s1 s2
      rw [s1] at S1
      rw [s2] at S2
      have A1 := Ta.small h1 s1
      have A2 := Ta.small h2 s2
      have hk : known op = false := by unfold known; simp [oa, os, om]
      have hf : fits op zs us xs ys = false := by unfold fits; rw [hk, Bool.false_and]
      have Z : ∀ v, Below w.heap.size w v → Calls Tryz.prog 14 #[.string op, .agg #[.slice a1 zs.length c1, .slice b1 xs.length d1], .agg #[.slice a2 us.length c2, .slice b2 ys.length d2]] v fun e w' => e = .returned (noTensor 1) ∧ Below v.heap.size v w' := by
        intro v hv
        have k := Zip_no a1 b1 a2 b2 c1 d1 c2 d2 0 0 zs us xs ys op ho aF aZ v (hE.below hv) (A1.below hv) (A2.below hv) (by rw [hf]; simp)
        rw [hf] at k
        exact k
      exact zips_op a1 b1 a2 b2 c1 d1 _ _ c2 d2 _ _ op (tn zs xs) aF aZ w hE S1 S2 Z (fun v hv => (A1.below hv).right c1 d1 (hE.below hv)) (fun v hv => (A1.below hv).rright s1 c1 d1)
        (by have k := ne_toList oa; rwa [show sAdd.toList = [97, 100, 100] by rw [toList_data]] at k) (by have k := ne_toList os; rwa [show sSub.toList = [115, 117, 98] by rw [toList_data]] at k) (by have k := ne_toList om; rwa [show sMul.toList = [109, 117, 108] by rw [toList_data]] at k) (by cases tn zs xs <;> rfl)
end
end Go.Proofs.YtfblgaffkflenaaGreatDoor.Tn
