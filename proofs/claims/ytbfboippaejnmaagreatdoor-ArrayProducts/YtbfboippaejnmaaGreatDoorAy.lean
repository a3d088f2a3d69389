/-
  PACKAGE array IN LISTS OF RATIONALS: other shapes, totals, what is spread; and what is refused. Conditions: sizes; the package's errors stand where they were laid.
-/
import Derived.Test.YtbfboippaejnmaaGreatDoorAz
namespace Go.Proofs.YtbfboippaejnmaaGreatDoor.Tn
set_option maxRecDepth 100000
open Go.RowKit Nm
set_option linter.unusedVariables false

/-- which error -/
def zerr (b c : Bool) : Int := if (b && c) = true then 4 else 1
theorem zerr_ne (b c : Bool) : (zerr b c != 0) = true := by unfold zerr; split <;> decide
theorem zerr_eq (b c : Bool) : (zerr b c == 0) = false := by unfold zerr; split <;> decide
theorem int_ne {m k : Nat} (h : ¬ m = k) : ((m : Int) == (k : Int)) = false := by simp; omega
theorem int_no {m k : Nat} (h : ¬ m = k) : ((m : Int) != (k : Int)) = true := by simp; omega

section
variable {a1 b1 a2 b2 : Option Addr} {B1 B2 k1 k2 m1 n1 m2 n2 N : Nat} {zs us : List Int} {xs ys : List ByteArray} {qs rs : List Rat} {aF aZ : Addr} {w : World} {p n q : Nat}
theorem s_right (c2 : Nat) (h2 : Sp.Sl w a2 us) (hl : us.length ≤ 1000) (hm : us.length = m2) : ∀ v, Below w.heap.size w v → Calls Tryz.prog 31 #[.slice a2 m2 c2] v fun e w' => e = .returned (.bool (decide (Sp.Rgt us))) ∧ w' = v := fun v hv => by
  subst hm; exact Sp.right_any a2 us c2 v hl (h2.below hv)
theorem s_size (c2 : Nat) (h2 : Sp.Sl w a2 us) (hl : us.length ≤ 1000) (hm : us.length = m2) : ∀ v, Below w.heap.size w v → Calls Tryz.prog 42 #[.slice a2 m2 c2] v fun e w' => e = .returned (.int .i64 ((Sp.szI us : Nat) : Int)) ∧ w' = v := fun v hv => by
  subst hm; exact Sp.size_any a2 us c2 v hl (h2.below hv)
theorem zre (c1 d1 c2 : Nat) (hE : Er w aF aZ) (h1 : Tt w B1 a1 b1 zs m1 n1 qs k1) (h2 : Sp.Sl w a2 us) (hr : Sp.Rgt us) (hm : us.length = m2) (hn : Sp.szI us = n1) (hk : k1 ≤ 20000) :
    Calls Tryz.prog 20 #[.agg #[.slice a1 m1 c1, .slice b1 n1 d1], .slice a2 m2 c2] w (Got w us m2 n1 qs k1) := by
  have hl := hr.1
  have R1 := fun (v : World) (hv : Below w.heap.size w v) => zright c1 d1 (hE.below hv) (h1.below hv) hk
  have S1 := s_right c2 h2 (by omega) hm
  rw [decide_eq_true hr] at S1
  have S2 := s_size c2 h2 (by omega) hm
  rw [hn] at S2
  have h64 := h1.le
  have key := res_yes m1 n1 c1 d1 m2 c2 n1 a1 b1 a2 us (qs.map R) w R1 S1 S2 (by simp)
    (fun v hv => by have k := clone_any a2 us c2 v (by omega) (h2.below hv); rw [hm] at k; exact k)
    (fun v hv => by have k := clone_txt b1 (qs.map R) d1 v (by rw [mapR_len, h1.hn]; omega) (h1.tm.r.below hv); rw [mapR_len, h1.hn] at k; exact k)
  refine key.mono ?_
  rintro e w' ⟨a3, c3, b3, d3, rfl, hT, hB⟩
  exact ⟨a3, c3, b3, d3, rfl, tt_of hT hr (by rw [h1.hn, hn]) h1.tr.b hm h1.hn, hB⟩
theorem zfail_re (c1 d1 c2 : Nat) (hE : Er w aF aZ) (h1 : Ta w B1 a1 b1 zs xs) (h2 : Sp.Sl w a2 us) (hl : us.length ≤ 1000) (e1 : zs.length = m1) (e2 : xs.length = n1) (e3 : us.length = m2) (hbad : ¬ (tn zs xs = true ∧ Sp.Rgt us ∧ Sp.szI us = n1)) :
    Calls Tryz.prog 20 #[.agg #[.slice a1 m1 c1, .slice b1 n1 d1], .slice a2 m2 c2] w fun e w' => e = .returned (noTensor (zerr (tn zs xs) (decide (Sp.Rgt us)))) ∧ Below w.heap.size w w' := by
  subst e1 e2
  have R1 := fun (v : World) (hv : Below w.heap.size w v) => (h1.below hv).right c1 d1 (hE.below hv)
  have S1 := s_right c2 h2 hl e3
  cases et : tn zs xs with
  | false => rw [et] at R1; exact res_a_no _ _ c1 d1 _ c2 a1 b1 a2 w R1
  | true =>
    rw [et] at R1
    by_cases hr : Sp.Rgt us
    · rw [decide_eq_true hr] at S1 ⊢
      have S2 := s_size c2 h2 hl e3
      exact res_n_no _ _ c1 d1 _ c2 _ a1 b1 a2 w R1 S1 S2 (int_no fun c => hbad ⟨et, hr, c⟩)
    · rw [decide_eq_false hr] at S1 ⊢
      exact res_s_no _ _ c1 d1 _ c2 a1 b1 a2 w R1 S1
theorem rgt_nil : Sp.Rgt [] := by decide
theorem sz_nil : Sp.szI [] = 1 := by decide
theorem ztotal (c1 d1 : Nat) (hE : Er w aF aZ) (h1 : Tt w B1 a1 b1 zs m1 n1 qs k1) (hk : k1 ≤ 150) :
    Calls Tryz.prog 21 #[.agg #[.slice a1 m1 c1, .slice b1 n1 d1]] w (Got w [] 0 1 [tot qs] (n1 * (k1 + 1) + 1)) := by
  have h64 := h1.le
  have hb : Bd (tot qs) (n1 * (k1 + 1) + 1) := by have := Bd.tot h1.tr.b; rw [h1.hn] at this; exact this
  have hm : n1 * (k1 + 1) ≤ 64 * 151 := Nat.mul_le_mul (by omega) (by omega)
  have key := tot_yes m1 n1 c1 d1 1 a1 b1 (R (tot qs)) [] ([tot qs].map R) w (fun v hv => zsum c1 d1 (hE.below hv) (h1.below hv) (by omega))
    (fun v hv => by
      refine (zfill (a1 := none) (m := 0) (n := 1) 0 (hE.below hv) (Sp.Sl.nil v none) rgt_nil rfl sz_nil (tot qs) hb (by omega)).mono ?_
      rintro e w' ⟨a3, c3, b3, d3, rfl, hT, hB⟩
      exact ⟨a3, c3, b3, d3, rfl, hT.tm, hB⟩)
  refine key.mono ?_
  rintro e w' ⟨a3, c3, b3, d3, rfl, hT, hB⟩
  exact ⟨a3, c3, b3, d3, rfl, tt_of hT rgt_nil (by rw [sz_nil]; rfl) (fun t ht => by rw [List.mem_singleton.1 ht]; exact hb) rfl rfl, hB⟩
theorem zfail_tot (c1 d1 : Nat) (hE : Er w aF aZ) (h1 : Ta w B1 a1 b1 zs xs) (e1 : zs.length = m1) (e2 : xs.length = n1) (hbad : tn zs xs = false) :
    Calls Tryz.prog 21 #[.agg #[.slice a1 m1 c1, .slice b1 n1 d1]] w fun e w' => e = .returned (noTensor 1) ∧ Below w.heap.size w w' := by
  subst e1 e2
  exact tot_no _ _ c1 d1 a1 b1 ⟨#[]⟩ w fun v hv => Sum_no a1 b1 c1 d1 B1 zs xs aF aZ v (hE.below hv) (h1.below hv) hbad
theorem zspread (c1 d1 c2 : Nat) (y : Rat) (hE : Er w aF aZ) (h1 : Tt w B1 a1 b1 [] 0 1 [y] k1) (h2 : Sp.Sl w a2 us) (hr : Sp.Rgt us) (hm : us.length = m2) (hn : Sp.szI us = N) (hk : k1 ≤ 20000) :
    Calls Tryz.prog 22 #[.agg #[.slice a1 0 c1, .slice b1 1 d1], .slice a2 m2 c2] w (Got w us m2 N (List.replicate N y) k1) := by
  have hl := hr.1
  have R1 := fun (v : World) (hv : Below w.heap.size w v) => zright c1 d1 (hE.below hv) (h1.below hv) hk
  have S1 := s_right c2 h2 (by omega) hm
  rw [decide_eq_true hr] at S1
  have hy : Bd y k1 := h1.tr.b y (by simp)
  obtain ⟨p1, q1, e, hc⟩ := row_str h1.tm.r (i := 0) (by simp)
  subst e
  have hc' : w.cell? ⟨p1, q1, none⟩ = some (.string (R y)) := by simpa using hc
  have key := spr_yes p1 q1 1 c1 d1 m2 c2 N a1 a2 (R y) us ((List.replicate N y).map R) w R1 S1 (by omega) hc'
    (fun v hv => by
      refine (zfill (m := m2) (n := N) c2 (hE.below hv) (h2.below hv) hr hm hn y hy (by omega)).mono ?_
      rintro e w' ⟨a3, c3, b3, d3, rfl, hT, hB⟩
      exact ⟨a3, c3, b3, d3, rfl, hT.tm, hB⟩)
  refine key.mono ?_
  rintro e w' ⟨a3, c3, b3, d3, rfl, hT, hB⟩
  exact ⟨a3, c3, b3, d3, rfl, tt_of hT hr (by simp [hn]) (fun t ht => by rw [(List.mem_replicate.1 ht).2]; exact hy) hm (by simp), hB⟩
theorem zfail_spr (c1 d1 c2 : Nat) (hE : Er w aF aZ) (h1 : Ta w B1 a1 b1 zs xs) (h2 : Sp.Sl w a2 us) (hl : us.length ≤ 1000) (e1 : zs.length = m1) (e2 : xs.length = n1) (e3 : us.length = m2) (hbad : ¬ (tn zs xs = true ∧ Sp.Rgt us ∧ m1 = 0)) :
    Calls Tryz.prog 22 #[.agg #[.slice a1 m1 c1, .slice b1 n1 d1], .slice a2 m2 c2] w fun e w' => e = .returned (noTensor (zerr (tn zs xs) (decide (Sp.Rgt us)))) ∧ Below w.heap.size w w' := by
  subst e1 e2
  have R1 := fun (v : World) (hv : Below w.heap.size w v) => (h1.below hv).right c1 d1 (hE.below hv)
  have S1 := s_right c2 h2 hl e3
  cases et : tn zs xs with
  | false => rw [et] at R1; exact spr_a_no _ _ c1 d1 _ c2 a1 b1 a2 w R1
  | true =>
    rw [et] at R1
    by_cases hr : Sp.Rgt us
    · rw [decide_eq_true hr] at S1 ⊢
      exact spr_r_no _ _ c1 d1 _ c2 a1 b1 a2 w R1 S1 (int_no (k := 0) fun c => hbad ⟨et, hr, c⟩)
    · rw [decide_eq_false hr] at S1 ⊢
      exact spr_s_no _ _ c1 d1 _ c2 a1 b1 a2 w R1 S1
theorem zfail_tr (c1 d1 : Nat) (hE : Er w aF aZ) (h1 : Ta w B1 a1 b1 zs xs) (e1 : zs.length = m1) (e2 : xs.length = n1) (hbad : ¬ (tn zs xs = true ∧ m1 = 2)) :
    Calls Tryz.prog 15 #[.agg #[.slice a1 m1 c1, .slice b1 n1 d1]] w fun e w' => e = .returned (noTensor (zerr (tn zs xs) true)) ∧ Below w.heap.size w w' := by
  subst e1 e2
  have R1 := fun (v : World) (hv : Below w.heap.size w v) => (h1.below hv).right c1 d1 (hE.below hv)
  cases et : tn zs xs with
  | false => rw [et] at R1; exact tra_a_no _ _ c1 d1 a1 b1 w R1
  | true => rw [et] at R1; exact tra_r_no _ _ c1 d1 a1 b1 w R1 (int_ne (k := 2) fun c => hbad ⟨et, c⟩)
/-- may both be multiplied? -/
def Fit (zs us : List Int) (xs ys : List ByteArray) : Prop := tn zs xs = true ∧ tn us ys = true ∧ ∃ p n q : Nat, zs = [(p : Int), (n : Int)] ∧ us = [(n : Int), (q : Int)] ∧ p * q ≤ 64
theorem zfail_mm (c1 d1 c2 d2 : Nat) (hE : Er w aF aZ) (h1 : Ta w B1 a1 b1 zs xs) (h2 : Ta w B2 a2 b2 us ys) (e1 : zs.length = m1) (e2 : xs.length = n1) (e3 : us.length = m2) (e4 : ys.length = n2) (hbad : ¬ Fit zs us xs ys) :
    Calls Tryz.prog 14 #[.agg #[.slice a1 m1 c1, .slice b1 n1 d1], .agg #[.slice a2 m2 c2, .slice b2 n2 d2]] w fun e w' => e = .returned (noTensor (zerr (tn zs xs) (tn us ys))) ∧ Below w.heap.size w w' := by
  subst e1 e2 e3 e4
  have R1 := fun (v : World) (hv : Below w.heap.size w v) => (h1.below hv).right c1 d1 (hE.below hv)
  have R2 := fun (v : World) (hv : Below w.heap.size w v) => (h2.below hv).right c2 d2 (hE.below hv)
  cases et : tn zs xs with
  | false => rw [et] at R1; exact mat_a_no _ _ c1 d1 _ _ c2 d2 a1 b1 a2 b2 w R1
  | true =>
    rw [et] at R1
    cases eu : tn us ys with
    | false => rw [eu] at R2; exact mat_b_no _ _ c1 d1 _ _ c2 d2 a1 b1 a2 b2 w R1 R2
    | true =>
      rw [eu] at R2
      by_cases l1 : zs.length = 2
      · rw [l1] at R1 ⊢
        by_cases l2 : us.length = 2
        · rw [l2] at R2 ⊢
          obtain ⟨qs, rfl, hr1, _⟩ := tn_of et
          obtain ⟨rs, rfl, hr2, _⟩ := tn_of eu
          obtain ⟨p, n, rfl⟩ := of_two hr1 l1
          obtain ⟨r, q, rfl⟩ := of_two hr2 l2
          obtain ⟨x, y, ha, x0, x1⟩ := sl_two h1.m.s
          obtain ⟨x', y', hb, y0, y1⟩ := sl_two h2.m.s
          subst ha hb
          by_cases hn : n = r
          · subst hn
            have hs : ¬ Sp.Rgt [(p : Int), (q : Int)] := fun c => hbad ⟨et, eu, p, n, q, rfl, rfl, ((rgt_two p q).1 c).2.2⟩
            exact mat_s_no x y _ c1 d1 x' y' _ c2 d2 p n n q b1 b2 w R1 R2 x0 x1 y0 y1 (by simp)
              (fun v b g0 g1 => by
                have k := Sp.right_any (some ⟨b, 0, none⟩) [(p : Int), (q : Int)] 2 v (by simp) (sl_of_two g0 g1)
                rw [decide_eq_false hs] at k
                exact k)
          · exact mat_n_no x y _ c1 d1 x' y' _ c2 d2 p n r q b1 b2 w R1 R2 x0 x1 y0 y1 (int_no hn)
        · exact mat_r2_no _ c1 d1 _ _ c2 d2 a1 b1 a2 b2 w R1 R2 (int_ne (k := 2) l2)
      · exact mat_r1_no _ _ c1 d1 _ _ c2 d2 a1 b1 a2 b2 w R1 R2 (int_ne (k := 2) l1)
end
end Go.Proofs.YtbfboippaejnmaaGreatDoor.Tn
