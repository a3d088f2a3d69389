/-
  THE CALLS OF RATIONALS: what made, raised, Right, Make, Add, Sub, Mul, Quo, Neg, Power, Sign and Compare give. Conditions: sizes; of texts that are refused: the package's errors stand where they were laid.
-/
import Derived.Test.YtpmnfgbbkmodpaaGreatDoorBoth
import Derived.Test.YtpmnfgbbkmodpaaGreatDoorMix
namespace Go.Proofs.YtpmnfgbbkmodpaaGreatDoor
section
set_option maxRecDepth 100000
open Go.RowKit Nm
set_option linter.unusedVariables false

set_option maxHeartbeats 8000000 in
theorem made_1 (p q : ByteArray) (aF aZ : Addr) (w : World) (hE : Er w aF aZ)
    (Rp : ∀ v : World, Calls Tryz.prog 72 #[.string p] v fun e w' => e = .returned (.bool false) ∧ Below v.heap.size v w') :
    Calls Tryz.prog 51 #[.string p, .string q] w fun e w' => e = .returned (.tuple #[none2, fault p aF]) ∧ Below w.heap.size w w' := by
  have HE : Hid _ := hE
  clear hE
  go_enter Tryz.func51, Tryz.ntmps51
  go_wp2_with fail
  refine wp_loop_rounds 3 ?_
  rw [rounds_succ]
  go_wp2_with fail
  refine (Rp _).mono ?_
  rintro e v1 ⟨rfl, k1⟩
  have K := own2 (w := w) k1
  have s0 := K.2.1 0
  have s1 := K.2.1 1
  have c0 := K.1 0
  have c1 := K.1 1
  have f0 := K.2.2.1 0
  have f1 := K.2.2.1 1
  simp at s0 s1 c0 c1
  have HB : Hid _ := K.2.2.2.2
  have e1 := (HE.out.below K.2.2.2.2).f
  have e2 := (HE.out.below ((K.2.2.2.2.setCell (p := ⟨w.heap.size, 0, none⟩) (Nat.le_refl _) (.string ⟨#[]⟩)).setCell (p := ⟨w.heap.size, 1, none⟩) (Nat.le_refl _) (.string ⟨#[]⟩))).f
  clear K
  clear k1
  go_wp2_with fail
  go_region
  all_goals go_wp2
  all_goals refine bodyPost_ret (v := .tuple #[none2, fault p aF]) (by simp [results, Tryz.results51, go_sem, c0, c1]) rfl ⟨rfl, ?_⟩
  all_goals repeat' (first | exact HB.out | apply bl_drew | refine Below.setCell ?_ (by simp) _)

set_option maxHeartbeats 8000000 in
theorem made_2 (p q : ByteArray) (aF aZ : Addr) (w : World) (hE : Er w aF aZ)
    (Rp : ∀ v : World, Calls Tryz.prog 72 #[.string p] v fun e w' => e = .returned (.bool true) ∧ Below v.heap.size v w') (Rq : ∀ v : World, Calls Tryz.prog 72 #[.string q] v fun e w' => e = .returned (.bool false) ∧ Below v.heap.size v w') :
    Calls Tryz.prog 51 #[.string p, .string q] w fun e w' => e = .returned (.tuple #[none2, fault q aF]) ∧ Below w.heap.size w w' := by
  have HE : Hid _ := hE
  clear hE
  go_enter Tryz.func51, Tryz.ntmps51
  go_wp2_with fail
  refine wp_loop_rounds 3 ?_
  rw [rounds_succ]
  go_wp2_with fail
  refine (Rp _).mono ?_
  rintro e v1 ⟨rfl, k1⟩
  have K := own2 (w := w) k1
  have s0 := K.2.1 0
  have s1 := K.2.1 1
  have c0 := K.1 0
  have c1 := K.1 1
  have f0 := K.2.2.1 0
  have f1 := K.2.2.1 1
  simp at s0 s1 c0 c1
  have HB : Hid _ := K.2.2.2.2
  clear K
  go_wp2_with fail
  rw [rounds_succ]
  go_wp2_with fail
  refine (Rq _).mono ?_
  rintro e v2 ⟨rfl, k2⟩
  have k3 := bl_trans k1 k2
  clear s0 s1 c0 c1 f0 f1 HB k1 k2
  have K := own2 (w := w) k3
  have s0 := K.2.1 0
  have s1 := K.2.1 1
  have c0 := K.1 0
  have c1 := K.1 1
  have f0 := K.2.2.1 0
  have f1 := K.2.2.1 1
  simp at s0 s1 c0 c1
  have HB : Hid _ := K.2.2.2.2
  have e1 := (HE.out.below K.2.2.2.2).f
  have e2 := (HE.out.below ((K.2.2.2.2.setCell (p := ⟨w.heap.size, 0, none⟩) (Nat.le_refl _) (.string ⟨#[]⟩)).setCell (p := ⟨w.heap.size, 1, none⟩) (Nat.le_refl _) (.string ⟨#[]⟩))).f
  clear K
  clear k3
  go_wp2_with fail
  go_region
  all_goals go_wp2
  all_goals refine bodyPost_ret (v := .tuple #[none2, fault q aF]) (by simp [results, Tryz.results51, go_sem, c0, c1]) rfl ⟨rfl, ?_⟩
  all_goals repeat' (first | exact HB.out | apply bl_drew | refine Below.setCell ?_ (by simp) _)

set_option maxHeartbeats 8000000 in
theorem made_3 (p : ByteArray) (aF aZ : Addr) (w : World) (hE : Er w aF aZ)
    (Rp : ∀ v : World, Calls Tryz.prog 72 #[.string p] v fun e w' => e = .returned (.bool true) ∧ Below v.heap.size v w') (Rz : ∀ v : World, Calls Tryz.prog 72 #[.string ⟨#[48]⟩] v fun e w' => e = .returned (.bool true) ∧ Below v.heap.size v w') :
    Calls Tryz.prog 51 #[.string p, .string ⟨#[48]⟩] w fun e w' => e = .returned (.tuple #[none2, fault ⟨#[48]⟩ aZ]) ∧ Below w.heap.size w w' := by
  have HE : Hid _ := hE
  clear hE
  go_enter Tryz.func51, Tryz.ntmps51
  go_wp2_with fail
  refine wp_loop_rounds 3 ?_
  rw [rounds_succ]
  go_wp2_with fail
  refine (Rp _).mono ?_
  rintro e v1 ⟨rfl, k1⟩
  have K := own2 (w := w) k1
  have s0 := K.2.1 0
  have s1 := K.2.1 1
  have c0 := K.1 0
  have c1 := K.1 1
  have f0 := K.2.2.1 0
  have f1 := K.2.2.1 1
  simp at s0 s1 c0 c1
  have HB : Hid _ := K.2.2.2.2
  clear K
  go_wp2_with fail
  rw [rounds_succ]
  go_wp2_with fail
  refine (Rz _).mono ?_
  rintro e v2 ⟨rfl, k2⟩
  have k3 := bl_trans k1 k2
  clear s0 s1 c0 c1 f0 f1 HB k1 k2
  have K := own2 (w := w) k3
  have s0 := K.2.1 0
  have s1 := K.2.1 1
  have c0 := K.1 0
  have c1 := K.1 1
  have f0 := K.2.2.1 0
  have f1 := K.2.2.1 1
  simp at s0 s1 c0 c1
  have HB : Hid _ := K.2.2.2.2
  have e1 := (HE.out.below K.2.2.2.2).z
  have e2 := (HE.out.below ((K.2.2.2.2.setCell (p := ⟨w.heap.size, 0, none⟩) (Nat.le_refl _) (.string ⟨#[]⟩)).setCell (p := ⟨w.heap.size, 1, none⟩) (Nat.le_refl _) (.string ⟨#[]⟩))).z
  clear K
  clear k3
  go_wp2_with fail
  rw [rounds_succ]
  go_wp2_with fail
  go_region
  all_goals go_wp2
  all_goals refine bodyPost_ret (v := .tuple #[none2, fault ⟨#[48]⟩ aZ]) (by simp [results, Tryz.results51, go_sem, c0, c1]) rfl ⟨rfl, ?_⟩
  all_goals repeat' (first | exact HB.out | apply bl_drew | refine Below.setCell ?_ (by simp) _)

set_option maxHeartbeats 8000000 in
theorem made_4 (p q sp sq G P1 Q1 : ByteArray) (w : World)
    (Rp : ∀ v : World, Calls Tryz.prog 72 #[.string p] v fun e w' => e = .returned (.bool true) ∧ Below v.heap.size v w') (Rq : ∀ v : World, Calls Tryz.prog 72 #[.string q] v fun e w' => e = .returned (.bool true) ∧ Below v.heap.size v w') (h0 : (q.toList == [48]) = false)
    (E1 : ∀ v : World, Calls Tryz.prog 64 #[.string p] v fun e w' => e = .returned (.string sp) ∧ w' = v) (E2 : ∀ v : World, Calls Tryz.prog 64 #[.string q] v fun e w' => e = .returned (.string sq) ∧ w' = v)
    (E3 : ∀ v : World, Calls Tryz.prog 60 #[.string sp, .string sq] v fun e w' => e = .returned (.string G) ∧ Below v.heap.size v w')
    (E4 : ∀ v : World, Calls Tryz.prog 61 #[.string p, .string G] v fun e w' => e = .returned (.string P1) ∧ Below v.heap.size v w')
    (E5 : ∀ v : World, Calls Tryz.prog 61 #[.string sq, .string G] v fun e w' => e = .returned (.string Q1) ∧ Below v.heap.size v w')
    (E6 : ∀ v : World, Calls Tryz.prog 67 #[.string q] v fun e w' => e = .returned (.bool false) ∧ w' = v) :
    Calls Tryz.prog 51 #[.string p, .string q] w fun e w' => e = .returned (.tuple #[.agg #[.string P1, .string Q1], .nilIface]) ∧ Below w.heap.size w w' := by
  go_enter Tryz.func51, Tryz.ntmps51
  go_wp2_with fail
  refine wp_loop_rounds 3 ?_
  rw [rounds_succ]
  go_wp2_with fail
  refine (Rp _).mono ?_
  rintro e v1 ⟨rfl, k1⟩
  have K := own2 (w := w) k1
  have s0 := K.2.1 0
  have s1 := K.2.1 1
  have c0 := K.1 0
  have c1 := K.1 1
  have f0 := K.2.2.1 0
  have f1 := K.2.2.1 1
  simp at s0 s1 c0 c1
  have HB : Hid _ := K.2.2.2.2
  clear K
  go_wp2_with fail
  rw [rounds_succ]
  go_wp2_with fail
  refine (Rq _).mono ?_
  rintro e v2 ⟨rfl, k2⟩
  have k3 := bl_trans k1 k2
  clear s0 s1 c0 c1 f0 f1 HB k1 k2
  have K := own2 (w := w) k3
  have s0 := K.2.1 0
  have s1 := K.2.1 1
  have c0 := K.1 0
  have c1 := K.1 1
  have f0 := K.2.2.1 0
  have f1 := K.2.2.1 1
  simp at s0 s1 c0 c1
  have HB : Hid _ := K.2.2.2.2
  clear K
  go_wp2_with fail
  rw [rounds_succ]
  go_wp2_with fail
  refine (E1 _).mono ?_
  rintro e u ⟨rfl, rfl⟩
  go_wp2_with fail
  refine (E2 _).mono ?_
  rintro e u ⟨rfl, rfl⟩
  go_wp2_with fail
  refine (E3 _).mono ?_
  rintro e v3 ⟨rfl, k4⟩
  go_wp2_with fail
  refine (E4 _).mono ?_
  rintro e v4 ⟨rfl, k5⟩
  go_wp2_with fail
  refine (E2 _).mono ?_
  rintro e u ⟨rfl, rfl⟩
  go_wp2_with fail
  refine (E5 _).mono ?_
  rintro e v5 ⟨rfl, k6⟩
  have k7 := bl_trans (bl_trans (bl_trans k3 k4) k5) k6
  clear s0 s1 c0 c1 f0 f1 HB k3 k4 k5 k6
  go_wp2_with fail
  refine (E6 _).mono ?_
  rintro e u ⟨rfl, rfl⟩
  have k9 := bl_alloc k7 (.cells #[.string P1, .string Q1] 52)
  clear k7
  have K := own2 (w := w) k9
  have s0 := K.2.1 0
  have s1 := K.2.1 1
  have c0 := K.1 0
  have c1 := K.1 1
  have f0 := K.2.2.1 0
  have f1 := K.2.2.1 1
  simp at s0 s1 c0 c1
  have HB : Hid _ := K.2.2.2.2
  clear K
  clear k9
  go_wp2
  refine bodyPost_ret (v := .tuple #[.agg #[.string P1, .string Q1], .nilIface]) (by simp [results, Tryz.results51, go_sem, c0, c1]) rfl ⟨rfl, ?_⟩
  repeat' (first | exact HB.out | apply bl_drew | refine Below.setCell ?_ (by simp) _)

set_option maxHeartbeats 8000000 in
theorem made_5 (p q sp sq G P1 Q1 N1 N2 : ByteArray) (w : World)
    (Rp : ∀ v : World, Calls Tryz.prog 72 #[.string p] v fun e w' => e = .returned (.bool true) ∧ Below v.heap.size v w') (Rq : ∀ v : World, Calls Tryz.prog 72 #[.string q] v fun e w' => e = .returned (.bool true) ∧ Below v.heap.size v w') (h0 : (q.toList == [48]) = false)
    (E1 : ∀ v : World, Calls Tryz.prog 64 #[.string p] v fun e w' => e = .returned (.string sp) ∧ w' = v) (E2 : ∀ v : World, Calls Tryz.prog 64 #[.string q] v fun e w' => e = .returned (.string sq) ∧ w' = v)
    (E3 : ∀ v : World, Calls Tryz.prog 60 #[.string sp, .string sq] v fun e w' => e = .returned (.string G) ∧ Below v.heap.size v w')
    (E4 : ∀ v : World, Calls Tryz.prog 61 #[.string p, .string G] v fun e w' => e = .returned (.string P1) ∧ Below v.heap.size v w')
    (E5 : ∀ v : World, Calls Tryz.prog 61 #[.string sq, .string G] v fun e w' => e = .returned (.string Q1) ∧ Below v.heap.size v w')
    (E6 : ∀ v : World, Calls Tryz.prog 67 #[.string q] v fun e w' => e = .returned (.bool true) ∧ w' = v)
    (E7 : ∀ v : World, Calls Tryz.prog 55 #[.agg #[.string P1, .string Q1]] v fun e w' => e = .returned (.agg #[.string N1, .string N2]) ∧ Below v.heap.size v w') :
    Calls Tryz.prog 51 #[.string p, .string q] w fun e w' => e = .returned (.tuple #[.agg #[.string N1, .string N2], .nilIface]) ∧ Below w.heap.size w w' := by
  go_enter Tryz.func51, Tryz.ntmps51
  go_wp2_with fail
  refine wp_loop_rounds 3 ?_
  rw [rounds_succ]
  go_wp2_with fail
  refine (Rp _).mono ?_
  rintro e v1 ⟨rfl, k1⟩
  have K := own2 (w := w) k1
  have s0 := K.2.1 0
  have s1 := K.2.1 1
  have c0 := K.1 0
  have c1 := K.1 1
  have f0 := K.2.2.1 0
  have f1 := K.2.2.1 1
  simp at s0 s1 c0 c1
  have HB : Hid _ := K.2.2.2.2
  clear K
  go_wp2_with fail
  rw [rounds_succ]
  go_wp2_with fail
  refine (Rq _).mono ?_
  rintro e v2 ⟨rfl, k2⟩
  have k3 := bl_trans k1 k2
  clear s0 s1 c0 c1 f0 f1 HB k1 k2
  have K := own2 (w := w) k3
  have s0 := K.2.1 0
  have s1 := K.2.1 1
  have c0 := K.1 0
  have c1 := K.1 1
  have f0 := K.2.2.1 0
  have f1 := K.2.2.1 1
  simp at s0 s1 c0 c1
  have HB : Hid _ := K.2.2.2.2
  clear K
  go_wp2_with fail
  rw [rounds_succ]
  go_wp2_with fail
  refine (E1 _).mono ?_
  rintro e u ⟨rfl, rfl⟩
  go_wp2_with fail
  refine (E2 _).mono ?_
  rintro e u ⟨rfl, rfl⟩
  go_wp2_with fail
  refine (E3 _).mono ?_
  rintro e v3 ⟨rfl, k4⟩
  go_wp2_with fail
  refine (E4 _).mono ?_
  rintro e v4 ⟨rfl, k5⟩
  go_wp2_with fail
  refine (E2 _).mono ?_
  rintro e u ⟨rfl, rfl⟩
  go_wp2_with fail
  refine (E5 _).mono ?_
  rintro e v5 ⟨rfl, k6⟩
  have k7 := bl_trans (bl_trans (bl_trans k3 k4) k5) k6
  clear s0 s1 c0 c1 f0 f1 HB k3 k4 k5 k6
  go_wp2_with fail
  refine (E6 _).mono ?_
  rintro e u ⟨rfl, rfl⟩
  go_wp2_with fail
  refine (E7 _).mono ?_
  rintro e v6 ⟨rfl, k8⟩
  have k9 := bl_trans (bl_alloc k7 _) k8
  clear k7 k8
  have K := own2 (w := w) k9
  have s0 := K.2.1 0
  have s1 := K.2.1 1
  have c0 := K.1 0
  have c1 := K.1 1
  have f0 := K.2.2.1 0
  have f1 := K.2.2.1 1
  simp at s0 s1 c0 c1
  have HB : Hid _ := K.2.2.2.2
  clear K
  clear k9
  go_wp2
  refine bodyPost_ret (v := .tuple #[.agg #[.string N1, .string N2], .nilIface]) (by simp [results, Tryz.results51, go_sem, c0, c1]) rfl ⟨rfl, ?_⟩
  repeat' (first | exact HB.out | apply bl_drew | refine Below.setCell ?_ (by simp) _)

/-- whole numbers, one by the other that is not 0 -/
theorem made_W (p q : Int) (w : World) (hp : tl p.natAbs ≤ 2000) (hq : tl q.natAbs ≤ 2000) (h0 : q ≠ 0) :
    Calls Tryz.prog 51 #[.string (W p), .string (W q)] w fun e w' => e = .returned (.tuple #[fr (by' p q), .nilIface]) ∧ Below w.heap.size w w' := by
  obtain ⟨g, hg⟩ : ∃ g, g = p.natAbs.gcd q.natAbs := ⟨_, rfl⟩
  have hq0 : q.natAbs ≠ 0 := by omega
  have g0 : g ≠ 0 := by rw [hg]; exact Nat.ne_of_gt (gcd_pos' hq0)
  have gp : g ∣ p.natAbs := by rw [hg]; exact Nat.gcd_dvd_left _ _
  have gq : g ∣ q.natAbs := by rw [hg]; exact Nat.gcd_dvd_right _ _
  have tg : tl g ≤ 2000 := Nat.le_trans (tl_mono (Nat.le_of_dvd (by omega) gq)) hq
  have sp : (W p).size ≤ 4000 := by have := W_size p; omega
  have sq : (W q).size ≤ 4000 := by have := W_size q; omega
  have Rp := fun v => Rightw_is (W p) v (by omega)
  have Rq := fun v => Rightw_is (W q) v (by omega)
  rw [wh_W] at Rp Rq
  have E1 := fun v => sizeW p v (by omega)
  have E2 := fun v => sizeW q v (by omega)
  have E3 : ∀ v : World, Calls Tryz.prog 60 #[.string (S p.natAbs), .string (S q.natAbs)] v fun e w' => e = .returned (.string (S g)) ∧ Below v.heap.size v w' := fun v => by rw [hg]; exact gcd_S _ _ v (by omega) (by omega)
  have E4 := fun v => short_W p g v (by omega) (by omega) g0 gp
  have E5 : ∀ v : World, Calls Tryz.prog 61 #[.string (S q.natAbs), .string (S g)] v fun e w' => e = .returned (.string (S (q.natAbs / g))) ∧ Below v.heap.size v w' := fun v => by
    have := shortN q.natAbs g v (by omega) (by omega) g0 gq
    rw [W_nat, W_nat] at this; exact this
  have E6 := fun v => below_any (W q) v (by omega)
  rw [mn_W] at E6
  have low := by_low (p := p) h0
  by_cases hn : q < 0
  · rw [decide_eq_true hn] at E6
    rw [if_pos hn] at low
    have e1 : (by' p q).num = -(p / (g : Int)) := by
      rw [low, low_num, Int.natAbs_neg, ← hg]
      exact Int.neg_ediv_of_dvd (Int.ofNat_dvd_left.2 gp)
    have e2 : (by' p q).den = q.natAbs / g := by rw [low, low_den, Int.natAbs_neg, ← hg]
    have E7 := fun v => negated_raw (p / (g : Int)) (S (q.natAbs / g)) v (Nat.le_trans (tl_mono (shorter_le g0 gp)) (by omega))
    have h := made_5 (W p) (W q) (S p.natAbs) (S q.natAbs) (S g) (W (p / (g : Int))) (S (q.natAbs / g)) (W (-(p / (g : Int)))) (S (q.natAbs / g)) w Rp Rq (notW0 h0) E1 E2 E3 E4 E5 E6 E7
    rw [← e1, ← e2] at h
    exact h
  · rw [decide_eq_false hn] at E6
    rw [if_neg hn] at low
    have e1 : (by' p q).num = p / (g : Int) := by rw [low, low_num, ← hg]
    have e2 : (by' p q).den = q.natAbs / g := by rw [low, low_den, ← hg]
    have h := made_4 (W p) (W q) (S p.natAbs) (S q.natAbs) (S g) (W (p / (g : Int))) (S (q.natAbs / g)) w Rp Rq (notW0 h0) E1 E2 E3 E4 E5 E6
    rw [← e1, ← e2] at h
    exact h
theorem made_zero (p : Int) (aF aZ : Addr) (w : World) (hE : Er w aF aZ) (hp : tl p.natAbs ≤ 2000) :
    Calls Tryz.prog 51 #[.string (W p), .string (W 0)] w fun e w' => e = .returned (.tuple #[none2, fault ⟨#[48]⟩ aZ]) ∧ Below w.heap.size w w' := by
  have Rp := fun v => Rightw_is (W p) v (by have := W_size p; omega)
  have Rz := fun v => Rightw_is (W 0) v (by decide)
  rw [wh_W] at Rp Rz
  rw [W0] at Rz ⊢
  exact made_3 (W p) aF aZ w hE Rp Rz
theorem made_no (p q : ByteArray) (aF aZ : Addr) (w : World) (hE : Er w aF aZ) (hp : p.size ≤ 4000) (hq : q.size ≤ 4000) (h : (wh p && wh q) = false) :
    Calls Tryz.prog 51 #[.string p, .string q] w fun e w' => ∃ u, e = .returned (.tuple #[none2, fault u aF]) ∧ Below w.heap.size w w' := by
  have Rp := fun v => Rightw_is p v (by omega)
  have Rq := fun v => Rightw_is q v (by omega)
  cases h1 : wh p with
  | false => rw [h1] at Rp; exact (made_1 p q aF aZ w hE Rp).mono fun e w' ⟨he, hb⟩ => ⟨_, he, hb⟩
  | true =>
    rw [h1, Bool.true_and] at h
    rw [h1] at Rp; rw [h] at Rq
    exact (made_2 p q aF aZ w hE Rp Rq).mono fun e w' ⟨he, hb⟩ => ⟨_, he, hb⟩
end
end Go.Proofs.YtpmnfgbbkmodpaaGreatDoor
namespace Go.Proofs.YtpmnfgbbkmodpaaGreatDoor
section
set_option maxRecDepth 100000
open Go.RowKit Nm
set_option linter.unusedVariables false

/-- a fraction, the answer's place and a power of it, in three blocks of the call's own -/
structure Pw (w v : World) (x1 x2 a b : ByteArray) : Prop where
  c0 : v.cell? ⟨w.heap.size, 0, none⟩ = some (.string x1)
  c1 : v.cell? ⟨w.heap.size, 1, none⟩ = some (.string x2)
  z0 : v.cell? ⟨w.heap.size + 1, 0, none⟩ = some (.string ⟨#[]⟩)
  z1 : v.cell? ⟨w.heap.size + 1, 1, none⟩ = some (.string ⟨#[]⟩)
  p0 : v.cell? ⟨w.heap.size + 1 + 1, 0, none⟩ = some (.string a)
  p1 : v.cell? ⟨w.heap.size + 1 + 1, 1, none⟩ = some (.string b)
  g0 : v.frozen? ⟨w.heap.size + 1, 0, none⟩ = false
  g1 : v.frozen? ⟨w.heap.size + 1, 1, none⟩ = false
  f0 : v.frozen? ⟨w.heap.size + 1 + 1, 0, none⟩ = false
  f1 : v.frozen? ⟨w.heap.size + 1 + 1, 1, none⟩ = false
  B : Below w.heap.size w v
theorem frozen_below {w v : World} (h : Below w.heap.size w v) {a : Addr} (hl : a.block < w.heap.size) (e : w.frozen? a = false) : v.frozen? a = false := by
  have := h.block a.block hl
  rw [← e]; unfold World.frozen?; rw [this]
theorem Pw.below {w v u : World} {x1 x2 a b : ByteArray} (h : Pw w v x1 x2 a b) (k : Below v.heap.size v u) : Pw w u x1 x2 a b :=
  ⟨cell_below k h.c0, cell_below k h.c1, cell_below k h.z0, cell_below k h.z1, cell_below k h.p0, cell_below k h.p1,
    frozen_below k (lt_of_cell h.z0) h.g0, frozen_below k (lt_of_cell h.z1) h.g1, frozen_below k (lt_of_cell h.p0) h.f0, frozen_below k (lt_of_cell h.p1) h.f1, bl_trans h.B k⟩
theorem Pw.set0 {w v : World} {x1 x2 a b : ByteArray} (h : Pw w v x1 x2 a b) (c : ByteArray) : Pw w (v.setCell ⟨w.heap.size + 1 + 1, 0, none⟩ (.string c)) x1 x2 c b := by
  obtain ⟨c0, c1, z0, z1, p0, p1, g0, g1, f0, f1, B⟩ := h
  refine ⟨?_, ?_, ?_, ?_, World.cell?_setCell_same _ _ _ p0, ?_, by rw [World.frozen?_setCell]; exact g0, by rw [World.frozen?_setCell]; exact g1, by rw [World.frozen?_setCell]; exact f0, by rw [World.frozen?_setCell]; exact f1, B.setCell (by simp; omega) _⟩
  · rw [World.cell?_setCell_other _ _ _ _ (by intro h; injection h with h1; omega)]; exact c0
  · rw [World.cell?_setCell_other _ _ _ _ (by intro h; injection h with h1; omega)]; exact c1
  · rw [World.cell?_setCell_other _ _ _ _ (by intro h; injection h with h1; omega)]; exact z0
  · rw [World.cell?_setCell_other _ _ _ _ (by intro h; injection h with h1; omega)]; exact z1
  · rw [World.cell?_setCell_other _ _ _ _ (by intro h; injection h with h1 h2; omega)]; exact p1
theorem Pw.set1 {w v : World} {x1 x2 a b : ByteArray} (h : Pw w v x1 x2 a b) (c : ByteArray) : Pw w (v.setCell ⟨w.heap.size + 1 + 1, 1, none⟩ (.string c)) x1 x2 a c := by
  obtain ⟨c0, c1, z0, z1, p0, p1, g0, g1, f0, f1, B⟩ := h
  refine ⟨?_, ?_, ?_, ?_, ?_, World.cell?_setCell_same _ _ _ p1, by rw [World.frozen?_setCell]; exact g0, by rw [World.frozen?_setCell]; exact g1, by rw [World.frozen?_setCell]; exact f0, by rw [World.frozen?_setCell]; exact f1, B.setCell (by simp; omega) _⟩
  · rw [World.cell?_setCell_other _ _ _ _ (by intro h; injection h with h1; omega)]; exact c0
  · rw [World.cell?_setCell_other _ _ _ _ (by intro h; injection h with h1; omega)]; exact c1
  · rw [World.cell?_setCell_other _ _ _ _ (by intro h; injection h with h1; omega)]; exact z0
  · rw [World.cell?_setCell_other _ _ _ _ (by intro h; injection h with h1; omega)]; exact z1
  · rw [World.cell?_setCell_other _ _ _ _ (by intro h; injection h with h1 h2; omega)]; exact p0

theorem tl_pow (n k m : Nat) (h : tl n ≤ m) (hm : 1 ≤ m) : tl (n ^ k) ≤ k * m + 1 := by
  induction k with
  | zero => simp; exact tl_small (by omega)
  | succ k ih =>
    have := tl_mul (n ^ k) n
    rw [Nat.pow_succ]
    rw [Nat.succ_mul]
    omega

set_option maxHeartbeats 4000000 in
theorem raised_raw (p r : Int) (n : Nat) (w : World) (hn : n ≤ 6) (hp : tl p.natAbs ≤ 500) (hr : tl r.natAbs ≤ 500) :
    Calls Tryz.prog 53 #[.agg #[.string (W p), .string (W r)], .int .i64 (n : Int)] w fun e w' => e = .returned (.tuple #[.agg #[.string (W (p ^ n)), .string (W (r ^ n))], .nilIface]) ∧ Below w.heap.size w w' := by
  have HP : Hid _ := hp
  have HR : Hid _ := hr
  clear hp hr
  have W1 : W 1 = ⟨#[49]⟩ := by rw [show (1 : Int) = ((1 : Nat) : Int) from rfl, W_nat, S1]
  have start : Pw w (((w.alloc (.cells #[.string (W p), .string (W r)] 52)).alloc (.cells #[.string ⟨#[]⟩, .string ⟨#[]⟩] 52)).alloc (.cells #[.string ⟨#[49]⟩, .string ⟨#[49]⟩] 52)) (W p) (W r) (W (p ^ 0)) (W (r ^ 0)) := by
    have K := own3 (Below.refl (((w.alloc (.cells #[.string (W p), .string (W r)] 52)).alloc (.cells #[.string ⟨#[]⟩, .string ⟨#[]⟩] 52)).alloc (.cells #[.string ⟨#[49]⟩, .string ⟨#[49]⟩] 52)).heap.size _)
    have K2 := own2 (w := w) (bl_alloc (Below.refl ((w.alloc (.cells #[.string (W p), .string (W r)] 52)).alloc (.cells #[.string ⟨#[]⟩, .string ⟨#[]⟩] 52)).heap.size _) (.cells #[.string ⟨#[49]⟩, .string ⟨#[49]⟩] 52))
    rw [Int.pow_zero, Int.pow_zero, W1]
    exact ⟨K.1 0, K.1 1, K.2.1 0, K.2.1 1, K.2.2.1 0, K.2.2.1 1, K2.2.2.2.1 0, K2.2.2.2.1 1, K.2.2.2.1 0, K.2.2.2.1 1, K.2.2.2.2⟩
  have HS : Hid _ := start
  clear start W1
  have mul : ∀ (q : Int) (k : Nat) (v : World), k < 6 → tl q.natAbs ≤ 500 → Calls Tryz.prog 63 #[.string (W (q ^ k)), .string (W q)] v fun e w' => e = .returned (.string (W (q ^ (k + 1)))) ∧ Below v.heap.size v w' := by
    intro q k v hk hq
    have t := tl_pow q.natAbs k 500 hq (by omega)
    have hk5 : k * 500 ≤ 5 * 500 := Nat.mul_le_mul_right _ (by omega)
    rw [Int.pow_succ]
    exact mul_W _ _ v (by rw [Int.natAbs_pow]; omega) (by omega)
  go_enter Tryz.func53, Tryz.ntmps53
  go_wp2_with fail
  go_loopw [19] (fun i wr => ∃ k : Nat, k ≤ n ∧ i = .int .i64 (k : Nat) ∧ Pw w wr (W p) (W r) (W (p ^ k)) (W (r ^ k))) (fun i _ => n - (intOf i).toNat)
  case atStart => exact ⟨0, by omega, rfl, HS.out⟩
  case round =>
    obtain ⟨k, hk, rfl, hw⟩ := hrel
    by_cases hlt : k < n
    · have r0 := hw.c0
      have r1 := hw.p0
      go_wp2_with fail
      refine (mul p k _ (by omega) HP.out).mono ?_
      rintro e v1 ⟨rfl, k1⟩
      have h1 := hw.below k1
      have q0 := h1.p0
      have q1 := h1.f0
      clear r0 r1 hw k1
      have h2 := h1.set0 (W (p ^ (k + 1)))
      have r0 := h2.c1
      have r1 := h2.p1
      go_wp2_with fail
      refine (mul r k _ (by omega) HR.out).mono ?_
      rintro e v2 ⟨rfl, k2⟩
      have h3 := h2.below k2
      clear r0 r1 h1 h2 k2 q0 q1
      have q0 := h3.p1
      have q1 := h3.f1
      have h4 := h3.set1 (W (r ^ (k + 1)))
      have H4 : Hid _ := h4
      clear h3 h4
      go_wp2
      go_roundw
      case rel => exact ⟨k + 1, by omega, by go_num, H4.out⟩
      case measure => simp [intOf]; omega
    · obtain rfl : k = n := by omega
      have r0 := hw.p0
      have r1 := hw.p1
      have z0 := hw.z0
      have z1 := hw.z1
      have g0 := hw.g0
      have g1 := hw.g1
      have HB : Hid _ := hw.B
      clear hw
      go_wp2
      refine bodyPost_ret (v := .tuple #[.agg #[.string (W (p ^ k)), .string (W (r ^ k))], .nilIface]) (by simp [results, Tryz.results53, go_sem, z0, z1]) rfl ⟨rfl, ?_⟩
      repeat' (first | exact HB.out | apply bl_drew | refine Below.setCell ?_ (by simp) _)

set_option maxHeartbeats 4000000 in
theorem raised_no (X1 X2 : ByteArray) (n : Int) (w : World) (hn : n < 0 ∨ 6 < n) :
    Calls Tryz.prog 53 #[.agg #[.string X1, .string X2], .int .i64 n] w fun e w' => e = .returned (.tuple #[.agg #[.string ⟨#[]⟩, .string ⟨#[]⟩], beyond n]) ∧ Below w.heap.size w w' := by
  have HB : Hid _ := Below.refl w.heap.size w
  by_cases h : n < 0
  · go_enter Tryz.func53, Tryz.ntmps53
    go_wp2
    refine bodyPost_ret (v := .tuple #[.agg #[.string ⟨#[]⟩, .string ⟨#[]⟩], beyond n]) (by simp [results, Tryz.results53, go_sem]) rfl ⟨rfl, ?_⟩
    repeat' (first | exact HB.out | apply bl_alloc | apply bl_drew | refine Below.setCell ?_ (by simp) _)
  · have h6 : 6 < n := by omega
    go_enter Tryz.func53, Tryz.ntmps53
    go_wp2
    refine bodyPost_ret (v := .tuple #[.agg #[.string ⟨#[]⟩, .string ⟨#[]⟩], beyond n]) (by simp [results, Tryz.results53, go_sem]) rfl ⟨rfl, ?_⟩
    repeat' (first | exact HB.out | apply bl_alloc | apply bl_drew | refine Below.setCell ?_ (by simp) _)

theorem raised_R (a : Rat) (n : Nat) (w : World) (hn : n ≤ 6) (ha : Bd a 500) :
    Calls Tryz.prog 53 #[fr a, .int .i64 (n : Int)] w fun e w' => e = .returned (.tuple #[fr (a ^ n), .nilIface]) ∧ Below w.heap.size w w' := by
  have h := raised_raw a.num (a.den : Int) n w hn ha.1 (by simp only [Int.natAbs_natCast]; exact ha.2)
  rw [← Int.natCast_pow, W_nat, W_nat, ← Rat.num_pow, ← Rat.den_pow] at h
  exact h
end
end Go.Proofs.YtpmnfgbbkmodpaaGreatDoor
namespace Go.Proofs.YtpmnfgbbkmodpaaGreatDoor
section
set_option maxRecDepth 100000
open Go.RowKit Nm
set_option linter.unusedVariables false

theorem R_bd {r : Rat} (h : (R r).size ≤ 1000) : Bd r 2000 := (Bd.of_size h).mono (by omega)

set_option maxHeartbeats 4000000 in
theorem joined_sum (s t X1 X2 Y1 Y2 D1 D2 Z : ByteArray) (w : World)
    (P : ∀ v : World, Calls Tryz.prog 41 #[.string s, .string t] v fun e w' => e = .returned (.tuple #[.agg #[.string X1, .string X2], .agg #[.string Y1, .string Y2], .nilIface]) ∧ Below v.heap.size v w')
    (J : ∀ v : World, Calls Tryz.prog 38 #[.agg #[.string X1, .string X2], .agg #[.string Y1, .string Y2]] v fun e w' => e = .returned (.agg #[.string D1, .string D2]) ∧ Below v.heap.size v w')
    (X : ∀ v : World, Calls Tryz.prog 56 #[.agg #[.string D1, .string D2]] v fun e w' => e = .returned (.string Z) ∧ w' = v.alloc (.cells #[.string D1, .string D2] 52)) :
    Calls Tryz.prog 37 #[.string s, .string t, .func (.func 38) #[] #[]] w fun e w' => e = .returned (.tuple #[.string Z, .int .i64 0]) ∧ Below w.heap.size w w' := by
  go_enter Tryz.func37, Tryz.ntmps37
  go_wp2_with fail
  refine (P _).mono ?_
  rintro e v1 ⟨rfl, k1⟩
  have H1 : Hid _ := k1
  clear k1
  go_wp2_with fail
  refine (J _).mono ?_
  rintro e v2 ⟨rfl, k2⟩
  have H2 : Hid _ := k2
  clear k2
  go_wp2_with fail
  refine (X _).mono ?_
  rintro e v3 ⟨rfl, rfl⟩
  go_wp2
  go_ret2
  exact ⟨rfl, bl_alloc (bl_trans (bl_alloc (bl_alloc H1.out _) _) H2.out) _⟩
set_option maxHeartbeats 4000000 in
theorem unjoined_sum (s t : ByteArray) (aF aZ : Addr) (w : World) (hE : Er w aF aZ) (hs : s.size ≤ 4000) (ht : t.size ≤ 4000) (h : (ra s && ra t) = false) :
    Calls Tryz.prog 37 #[.string s, .string t, .func (.func 38) #[] #[]] w fun e w' => e = .returned (.tuple #[.string ⟨#[]⟩, .int .i64 2]) ∧ Below w.heap.size w w' := by
  have HE : Hid _ := hE
  have HS : Hid _ := hs
  have HT : Hid _ := ht
  have HH : Hid _ := h
  clear hE hs ht h
  go_enter Tryz.func37, Tryz.ntmps37
  go_wp2_with fail
  refine (both_no s t aF aZ _ HS.out HT.out HE.out HH.out).mono ?_
  rintro e v1 ⟨X1, X2, Y1, Y2, u, rfl, k1⟩
  have H1 : Hid _ := k1
  clear k1
  go_wp2_with fail
  refine (number_form u aF aZ _ (HE.out.below (bl_alloc (bl_alloc H1.out _) _))).mono ?_
  rintro e v2 ⟨rfl, k2⟩
  have H2 : Hid _ := k2
  clear k2
  go_wp2
  go_ret2
  exact ⟨rfl, bl_trans (bl_alloc (bl_alloc H1.out _) _) H2.out⟩

set_option maxHeartbeats 4000000 in
theorem joined_difference (s t X1 X2 Y1 Y2 D1 D2 Z : ByteArray) (w : World)
    (P : ∀ v : World, Calls Tryz.prog 41 #[.string s, .string t] v fun e w' => e = .returned (.tuple #[.agg #[.string X1, .string X2], .agg #[.string Y1, .string Y2], .nilIface]) ∧ Below v.heap.size v w')
    (J : ∀ v : World, Calls Tryz.prog 39 #[.agg #[.string X1, .string X2], .agg #[.string Y1, .string Y2]] v fun e w' => e = .returned (.agg #[.string D1, .string D2]) ∧ Below v.heap.size v w')
    (X : ∀ v : World, Calls Tryz.prog 56 #[.agg #[.string D1, .string D2]] v fun e w' => e = .returned (.string Z) ∧ w' = v.alloc (.cells #[.string D1, .string D2] 52)) :
    Calls Tryz.prog 37 #[.string s, .string t, .func (.func 39) #[] #[]] w fun e w' => e = .returned (.tuple #[.string Z, .int .i64 0]) ∧ Below w.heap.size w w' := by
  go_enter Tryz.func37, Tryz.ntmps37
  go_wp2_with fail
  refine (P _).mono ?_
  rintro e v1 ⟨rfl, k1⟩
  have H1 : Hid _ := k1
  clear k1
  go_wp2_with fail
  refine (J _).mono ?_
  rintro e v2 ⟨rfl, k2⟩
  have H2 : Hid _ := k2
  clear k2
  go_wp2_with fail
  refine (X _).mono ?_
  rintro e v3 ⟨rfl, rfl⟩
  go_wp2
  go_ret2
  exact ⟨rfl, bl_alloc (bl_trans (bl_alloc (bl_alloc H1.out _) _) H2.out) _⟩
set_option maxHeartbeats 4000000 in
theorem unjoined_difference (s t : ByteArray) (aF aZ : Addr) (w : World) (hE : Er w aF aZ) (hs : s.size ≤ 4000) (ht : t.size ≤ 4000) (h : (ra s && ra t) = false) :
    Calls Tryz.prog 37 #[.string s, .string t, .func (.func 39) #[] #[]] w fun e w' => e = .returned (.tuple #[.string ⟨#[]⟩, .int .i64 2]) ∧ Below w.heap.size w w' := by
  have HE : Hid _ := hE
  have HS : Hid _ := hs
  have HT : Hid _ := ht
  have HH : Hid _ := h
  clear hE hs ht h
  go_enter Tryz.func37, Tryz.ntmps37
  go_wp2_with fail
  refine (both_no s t aF aZ _ HS.out HT.out HE.out HH.out).mono ?_
  rintro e v1 ⟨X1, X2, Y1, Y2, u, rfl, k1⟩
  have H1 : Hid _ := k1
  clear k1
  go_wp2_with fail
  refine (number_form u aF aZ _ (HE.out.below (bl_alloc (bl_alloc H1.out _) _))).mono ?_
  rintro e v2 ⟨rfl, k2⟩
  have H2 : Hid _ := k2
  clear k2
  go_wp2
  go_ret2
  exact ⟨rfl, bl_trans (bl_alloc (bl_alloc H1.out _) _) H2.out⟩

set_option maxHeartbeats 4000000 in
theorem joined_product (s t X1 X2 Y1 Y2 D1 D2 Z : ByteArray) (w : World)
    (P : ∀ v : World, Calls Tryz.prog 41 #[.string s, .string t] v fun e w' => e = .returned (.tuple #[.agg #[.string X1, .string X2], .agg #[.string Y1, .string Y2], .nilIface]) ∧ Below v.heap.size v w')
    (J : ∀ v : World, Calls Tryz.prog 40 #[.agg #[.string X1, .string X2], .agg #[.string Y1, .string Y2]] v fun e w' => e = .returned (.agg #[.string D1, .string D2]) ∧ Below v.heap.size v w')
    (X : ∀ v : World, Calls Tryz.prog 56 #[.agg #[.string D1, .string D2]] v fun e w' => e = .returned (.string Z) ∧ w' = v.alloc (.cells #[.string D1, .string D2] 52)) :
    Calls Tryz.prog 37 #[.string s, .string t, .func (.func 40) #[] #[]] w fun e w' => e = .returned (.tuple #[.string Z, .int .i64 0]) ∧ Below w.heap.size w w' := by
  go_enter Tryz.func37, Tryz.ntmps37
  go_wp2_with fail
  refine (P _).mono ?_
  rintro e v1 ⟨rfl, k1⟩
  have H1 : Hid _ := k1
  clear k1
  go_wp2_with fail
  refine (J _).mono ?_
  rintro e v2 ⟨rfl, k2⟩
  have H2 : Hid _ := k2
  clear k2
  go_wp2_with fail
  refine (X _).mono ?_
  rintro e v3 ⟨rfl, rfl⟩
  go_wp2
  go_ret2
  exact ⟨rfl, bl_alloc (bl_trans (bl_alloc (bl_alloc H1.out _) _) H2.out) _⟩
set_option maxHeartbeats 4000000 in
theorem unjoined_product (s t : ByteArray) (aF aZ : Addr) (w : World) (hE : Er w aF aZ) (hs : s.size ≤ 4000) (ht : t.size ≤ 4000) (h : (ra s && ra t) = false) :
    Calls Tryz.prog 37 #[.string s, .string t, .func (.func 40) #[] #[]] w fun e w' => e = .returned (.tuple #[.string ⟨#[]⟩, .int .i64 2]) ∧ Below w.heap.size w w' := by
  have HE : Hid _ := hE
  have HS : Hid _ := hs
  have HT : Hid _ := ht
  have HH : Hid _ := h
  clear hE hs ht h
  go_enter Tryz.func37, Tryz.ntmps37
  go_wp2_with fail
  refine (both_no s t aF aZ _ HS.out HT.out HE.out HH.out).mono ?_
  rintro e v1 ⟨X1, X2, Y1, Y2, u, rfl, k1⟩
  have H1 : Hid _ := k1
  clear k1
  go_wp2_with fail
  refine (number_form u aF aZ _ (HE.out.below (bl_alloc (bl_alloc H1.out _) _))).mono ?_
  rintro e v2 ⟨rfl, k2⟩
  have H2 : Hid _ := k2
  clear k2
  go_wp2
  go_ret2
  exact ⟨rfl, bl_trans (bl_alloc (bl_alloc H1.out _) _) H2.out⟩

set_option maxHeartbeats 2000000 in
theorem Add_R (a b : Rat) (w : World) (ha : (R a).size ≤ 1000) (hb : (R b).size ≤ 1000) :
    Calls Tryz.prog 16 #[.string (R a), .string (R b)] w fun e w' => e = .returned (.tuple #[.string (R (a + b)), .int .i64 0]) ∧ Below w.heap.size w w' := by
  have J := fun v => joined_sum (R a) (R b) _ _ _ _ _ _ (R (a + b)) v (fun v => both_R a b v (by omega) (by omega)) (fun v => sum_R a b v (R_bd ha) (R_bd hb)) (fun v => text_R (a + b) v (((R_bd ha).add (R_bd hb)).mono (by omega)))
  go_enter Tryz.func16, Tryz.ntmps16
  go_wp2_with fail
  refine (J _).mono ?_
  rintro e v1 ⟨rfl, k1⟩
  have H1 : Hid _ := k1
  clear k1
  go_wp2
  go_ret2
  exact ⟨rfl, H1.out⟩
set_option maxHeartbeats 2000000 in
theorem AddR_no (s t : ByteArray) (aF aZ : Addr) (w : World) (hE : Er w aF aZ) (hs : s.size ≤ 4000) (ht : t.size ≤ 4000) (h : (ra s && ra t) = false) :
    Calls Tryz.prog 16 #[.string s, .string t] w fun e w' => e = .returned (.tuple #[.string ⟨#[]⟩, .int .i64 2]) ∧ Below w.heap.size w w' := by
  have HE : Hid _ := hE
  have HH : Hid _ := h
  clear hE h
  go_enter Tryz.func16, Tryz.ntmps16
  go_wp2_with fail
  refine (unjoined_sum s t aF aZ _ HE.out hs ht HH.out).mono ?_
  rintro e v1 ⟨rfl, k1⟩
  have H1 : Hid _ := k1
  clear k1
  go_wp2
  go_ret2
  exact ⟨rfl, H1.out⟩

set_option maxHeartbeats 2000000 in
theorem Sub_R (a b : Rat) (w : World) (ha : (R a).size ≤ 1000) (hb : (R b).size ≤ 1000) :
    Calls Tryz.prog 17 #[.string (R a), .string (R b)] w fun e w' => e = .returned (.tuple #[.string (R (a - b)), .int .i64 0]) ∧ Below w.heap.size w w' := by
  have J := fun v => joined_difference (R a) (R b) _ _ _ _ _ _ (R (a - b)) v (fun v => both_R a b v (by omega) (by omega)) (fun v => difference_R a b v (R_bd ha) (R_bd hb)) (fun v => text_R (a - b) v (((R_bd ha).sub (R_bd hb)).mono (by omega)))
  go_enter Tryz.func17, Tryz.ntmps17
  go_wp2_with fail
  refine (J _).mono ?_
  rintro e v1 ⟨rfl, k1⟩
  have H1 : Hid _ := k1
  clear k1
  go_wp2
  go_ret2
  exact ⟨rfl, H1.out⟩
set_option maxHeartbeats 2000000 in
theorem SubR_no (s t : ByteArray) (aF aZ : Addr) (w : World) (hE : Er w aF aZ) (hs : s.size ≤ 4000) (ht : t.size ≤ 4000) (h : (ra s && ra t) = false) :
    Calls Tryz.prog 17 #[.string s, .string t] w fun e w' => e = .returned (.tuple #[.string ⟨#[]⟩, .int .i64 2]) ∧ Below w.heap.size w w' := by
  have HE : Hid _ := hE
  have HH : Hid _ := h
  clear hE h
  go_enter Tryz.func17, Tryz.ntmps17
  go_wp2_with fail
  refine (unjoined_difference s t aF aZ _ HE.out hs ht HH.out).mono ?_
  rintro e v1 ⟨rfl, k1⟩
  have H1 : Hid _ := k1
  clear k1
  go_wp2
  go_ret2
  exact ⟨rfl, H1.out⟩

set_option maxHeartbeats 2000000 in
theorem Mul_R (a b : Rat) (w : World) (ha : (R a).size ≤ 1000) (hb : (R b).size ≤ 1000) :
    Calls Tryz.prog 18 #[.string (R a), .string (R b)] w fun e w' => e = .returned (.tuple #[.string (R (a * b)), .int .i64 0]) ∧ Below w.heap.size w w' := by
  have J := fun v => joined_product (R a) (R b) _ _ _ _ _ _ (R (a * b)) v (fun v => both_R a b v (by omega) (by omega)) (fun v => product_R a b v (R_bd ha) (R_bd hb)) (fun v => text_R (a * b) v (((R_bd ha).mul (R_bd hb)).mono (by omega)))
  go_enter Tryz.func18, Tryz.ntmps18
  go_wp2_with fail
  refine (J _).mono ?_
  rintro e v1 ⟨rfl, k1⟩
  have H1 : Hid _ := k1
  clear k1
  go_wp2
  go_ret2
  exact ⟨rfl, H1.out⟩
set_option maxHeartbeats 2000000 in
theorem MulR_no (s t : ByteArray) (aF aZ : Addr) (w : World) (hE : Er w aF aZ) (hs : s.size ≤ 4000) (ht : t.size ≤ 4000) (h : (ra s && ra t) = false) :
    Calls Tryz.prog 18 #[.string s, .string t] w fun e w' => e = .returned (.tuple #[.string ⟨#[]⟩, .int .i64 2]) ∧ Below w.heap.size w w' := by
  have HE : Hid _ := hE
  have HH : Hid _ := h
  clear hE h
  go_enter Tryz.func18, Tryz.ntmps18
  go_wp2_with fail
  refine (unjoined_product s t aF aZ _ HE.out hs ht HH.out).mono ?_
  rintro e v1 ⟨rfl, k1⟩
  have H1 : Hid _ := k1
  clear k1
  go_wp2
  go_ret2
  exact ⟨rfl, H1.out⟩

set_option maxHeartbeats 2000000 in
theorem Cmp_R (a b : Rat) (w : World) (ha : (R a).size ≤ 1000) (hb : (R b).size ≤ 1000) :
    Calls Tryz.prog 35 #[.string (R a), .string (R b)] w fun e w' => e = .returned (.tuple #[.int .i64 (sgr a b), .int .i64 0]) ∧ Below w.heap.size w w' := by
  have P := fun v => both_R a b v (by omega) (by omega)
  have C := fun v => compare_R a b v (R_bd ha) (R_bd hb)
  unfold fr at P C
  generalize sgr a b = q at *
  go_enter Tryz.func35, Tryz.ntmps35
  go_wp2_with fail
  refine (P _).mono ?_
  rintro e v1 ⟨rfl, k1⟩
  have H1 : Hid _ := k1
  clear k1
  go_wp2_with fail
  refine (C _).mono ?_
  rintro e v2 ⟨rfl, k2⟩
  have H2 : Hid _ := k2
  clear k2
  go_wp2
  go_ret2
  exact ⟨rfl, bl_trans (bl_alloc (bl_alloc H1.out _) _) H2.out⟩
set_option maxHeartbeats 2000000 in
theorem Quo_R (a b : Rat) (w : World) (ha : (R a).size ≤ 1000) (hb : (R b).size ≤ 1000) (h0 : b ≠ 0) :
    Calls Tryz.prog 19 #[.string (R a), .string (R b)] w fun e w' => e = .returned (.tuple #[.string (R (a / b)), .int .i64 0]) ∧ Below w.heap.size w w' := by
  have P := fun v => both_R a b v (by omega) (by omega)
  have Q := fun v => quotient_R a b v (R_bd ha) (R_bd hb) h0
  have A := fun v => answer_R (a / b) v (((R_bd ha).quo (R_bd hb) h0).mono (by omega))
  unfold fr at P Q
  generalize R (a / b) = Z at *
  generalize W (a / b).num = D1 at *
  generalize S (a / b).den = D2 at *
  go_enter Tryz.func19, Tryz.ntmps19
  go_wp2_with fail
  refine (P _).mono ?_
  rintro e v1 ⟨rfl, k1⟩
  have H1 : Hid _ := k1
  clear k1
  go_wp2_with fail
  refine (Q _).mono ?_
  rintro e v2 ⟨rfl, k2⟩
  have H2 : Hid _ := k2
  clear k2
  go_wp2_with fail
  refine (A _).mono ?_
  rintro e v3 ⟨rfl, k3⟩
  have H3 : Hid _ := k3
  clear k3
  go_wp2
  go_ret2
  exact ⟨rfl, bl_trans (bl_trans (bl_alloc (bl_alloc H1.out _) _) H2.out) H3.out⟩
set_option maxHeartbeats 2000000 in
theorem Quo_zero (a : Rat) (aF aZ : Addr) (w : World) (hE : Er w aF aZ) (ha : (R a).size ≤ 1000) :
    Calls Tryz.prog 19 #[.string (R a), .string (R 0)] w fun e w' => e = .returned (.tuple #[.string ⟨#[]⟩, .int .i64 3]) ∧ Below w.heap.size w w' := by
  have HE : Hid _ := hE
  clear hE
  have P := fun v => both_R a 0 v (by omega) (by decide)
  have Q := fun (v : World) (h : Below w.heap.size w v) => quotient_no a aF aZ v (HE.out.below h)
  have A := fun (v : World) (h : Below w.heap.size w v) => answer_no ⟨#[]⟩ ⟨#[]⟩ 78 (.agg #[.string ⟨#[48]⟩, sentinel aZ]) 3 v (fun u hu => number_zero ⟨#[48]⟩ aF aZ u ((HE.out.below h).below hu))
  unfold fr at P Q
  go_enter Tryz.func19, Tryz.ntmps19
  go_wp2_with fail
  refine (P _).mono ?_
  rintro e v1 ⟨rfl, k1⟩
  have H1 : Hid _ := k1
  clear k1
  go_wp2_with fail
  refine (Q _ (bl_alloc (bl_alloc H1.out _) _)).mono ?_
  rintro e v2 ⟨rfl, k2⟩
  have H2 : Hid _ := bl_trans (bl_alloc (bl_alloc H1.out _) _) k2
  clear k2
  go_wp2_with fail
  refine (A _ H2.out).mono ?_
  rintro e v3 ⟨rfl, k3⟩
  have H3 : Hid _ := k3
  clear k3
  go_wp2
  go_ret2
  exact ⟨rfl, bl_trans H2.out H3.out⟩

set_option maxHeartbeats 2000000 in
theorem CmpR_no (s t : ByteArray) (aF aZ : Addr) (w : World) (hE : Er w aF aZ) (hs : s.size ≤ 4000) (ht : t.size ≤ 4000) (h : (ra s && ra t) = false) :
    Calls Tryz.prog 35 #[.string s, .string t] w fun e w' => e = .returned (.tuple #[.int .i64 0, .int .i64 2]) ∧ Below w.heap.size w w' := by
  have HE : Hid _ := hE
  have HH : Hid _ := h
  have HS : Hid _ := hs
  have HT : Hid _ := ht
  clear hE h hs ht
  go_enter Tryz.func35, Tryz.ntmps35
  go_wp2_with fail
  refine (both_no s t aF aZ _ HS.out HT.out HE.out HH.out).mono ?_
  rintro e v1 ⟨X1, X2, Y1, Y2, u, rfl, k1⟩
  have H1 : Hid _ := k1
  clear k1
  go_wp2_with fail
  refine (number_form u aF aZ _ (HE.out.below (bl_alloc (bl_alloc H1.out _) _))).mono ?_
  rintro e v2 ⟨rfl, k2⟩
  have H2 : Hid _ := k2
  clear k2
  go_wp2
  go_ret2
  exact ⟨rfl, bl_trans (bl_alloc (bl_alloc H1.out _) _) H2.out⟩

set_option maxHeartbeats 2000000 in
theorem QuoR_no (s t : ByteArray) (aF aZ : Addr) (w : World) (hE : Er w aF aZ) (hs : s.size ≤ 4000) (ht : t.size ≤ 4000) (h : (ra s && ra t) = false) :
    Calls Tryz.prog 19 #[.string s, .string t] w fun e w' => e = .returned (.tuple #[.string ⟨#[]⟩, .int .i64 2]) ∧ Below w.heap.size w w' := by
  have HE : Hid _ := hE
  have HH : Hid _ := h
  have HS : Hid _ := hs
  have HT : Hid _ := ht
  clear hE h hs ht
  go_enter Tryz.func19, Tryz.ntmps19
  go_wp2_with fail
  refine (both_no s t aF aZ _ HS.out HT.out HE.out HH.out).mono ?_
  rintro e v1 ⟨X1, X2, Y1, Y2, u, rfl, k1⟩
  have H1 : Hid _ := k1
  clear k1
  go_wp2_with fail
  refine (number_form u aF aZ _ (HE.out.below (bl_alloc (bl_alloc H1.out _) _))).mono ?_
  rintro e v2 ⟨rfl, k2⟩
  have H2 : Hid _ := k2
  clear k2
  go_wp2
  go_ret2
  exact ⟨rfl, bl_trans (bl_alloc (bl_alloc H1.out _) _) H2.out⟩

set_option maxHeartbeats 2000000 in
theorem NegR_no (s : ByteArray) (aF aZ : Addr) (w : World) (hE : Er w aF aZ) (hs : s.size ≤ 4000) (h : ra s = false) :
    Calls Tryz.prog 29 #[.string s] w fun e w' => e = .returned (.tuple #[.string ⟨#[]⟩, .int .i64 2]) ∧ Below w.heap.size w w' := by
  have HE : Hid _ := hE
  have HH : Hid _ := h
  have HS : Hid _ := hs
  clear hE h hs
  go_enter Tryz.func29, Tryz.ntmps29
  go_wp2_with fail
  refine (parse_not s aF aZ _ HS.out HE.out HH.out).mono ?_
  rintro e v1 ⟨rfl, k1⟩
  have H1 : Hid _ := k1
  clear k1
  go_wp2_with fail
  refine (number_form s aF aZ _ (HE.out.below (bl_alloc H1.out _))).mono ?_
  rintro e v2 ⟨rfl, k2⟩
  have H2 : Hid _ := k2
  clear k2
  go_wp2
  go_ret2
  exact ⟨rfl, bl_trans (bl_alloc H1.out _) H2.out⟩

set_option maxHeartbeats 2000000 in
theorem SignR_no (s : ByteArray) (aF aZ : Addr) (w : World) (hE : Er w aF aZ) (hs : s.size ≤ 4000) (h : ra s = false) :
    Calls Tryz.prog 28 #[.string s] w fun e w' => e = .returned (.tuple #[.int .i64 0, .int .i64 2]) ∧ Below w.heap.size w w' := by
  have HE : Hid _ := hE
  have HH : Hid _ := h
  have HS : Hid _ := hs
  clear hE h hs
  go_enter Tryz.func28, Tryz.ntmps28
  go_wp2_with fail
  refine (parse_not s aF aZ _ HS.out HE.out HH.out).mono ?_
  rintro e v1 ⟨rfl, k1⟩
  have H1 : Hid _ := k1
  clear k1
  go_wp2_with fail
  refine (number_form s aF aZ _ (HE.out.below (bl_alloc H1.out _))).mono ?_
  rintro e v2 ⟨rfl, k2⟩
  have H2 : Hid _ := k2
  clear k2
  go_wp2
  go_ret2
  exact ⟨rfl, bl_trans (bl_alloc H1.out _) H2.out⟩

set_option maxHeartbeats 2000000 in
theorem PowerR_no (s : ByteArray) (n : Int) (aF aZ : Addr) (w : World) (hE : Er w aF aZ) (hs : s.size ≤ 4000) (h : ra s = false) :
    Calls Tryz.prog 27 #[.string s, .int .i64 n] w fun e w' => e = .returned (.tuple #[.string ⟨#[]⟩, .int .i64 2]) ∧ Below w.heap.size w w' := by
  have HE : Hid _ := hE
  have HH : Hid _ := h
  have HS : Hid _ := hs
  clear hE h hs
  go_enter Tryz.func27, Tryz.ntmps27
  go_wp2_with fail
  refine (parse_not s aF aZ _ HS.out HE.out HH.out).mono ?_
  rintro e v1 ⟨rfl, k1⟩
  have H1 : Hid _ := k1
  clear k1
  go_wp2_with fail
  refine (number_form s aF aZ _ (HE.out.below (bl_alloc H1.out _))).mono ?_
  rintro e v2 ⟨rfl, k2⟩
  have H2 : Hid _ := k2
  clear k2
  go_wp2
  go_ret2
  exact ⟨rfl, bl_trans (bl_alloc H1.out _) H2.out⟩

set_option maxHeartbeats 2000000 in
theorem Neg_R (a : Rat) (w : World) (ha : (R a).size ≤ 1000) :
    Calls Tryz.prog 29 #[.string (R a)] w fun e w' => e = .returned (.tuple #[.string (R (-a)), .int .i64 0]) ∧ Below w.heap.size w w' := by
  have P := fun v => parse_R a v (by omega)
  have M := fun v => negated_R a v ((R_bd ha).mono (by omega))
  have X := fun v => text_R (-a) v ((R_bd ha).neg.mono (by omega))
  unfold fr at P M X
  generalize R (-a) = Z at *
  generalize W (-a).num = D1 at *
  generalize S (-a).den = D2 at *
  go_enter Tryz.func29, Tryz.ntmps29
  go_wp2_with fail
  refine (P _).mono ?_
  rintro e v1 ⟨rfl, k1⟩
  have H1 : Hid _ := k1
  clear k1
  go_wp2_with fail
  refine (M _).mono ?_
  rintro e v2 ⟨rfl, k2⟩
  have H2 : Hid _ := k2
  clear k2
  go_wp2_with fail
  refine (X _).mono ?_
  rintro e v3 ⟨rfl, rfl⟩
  go_wp2
  go_ret2
  exact ⟨rfl, bl_alloc (bl_trans (bl_alloc H1.out _) H2.out) _⟩
set_option maxHeartbeats 2000000 in
theorem Sign_R (a : Rat) (w : World) (ha : (R a).size ≤ 1000) :
    Calls Tryz.prog 28 #[.string (R a)] w fun e w' => e = .returned (.tuple #[.int .i64 a.num.sign, .int .i64 0]) ∧ Below w.heap.size w w' := by
  have P := fun v => parse_R a v (by omega)
  have M := fun v => Signw_W a.num v (by have := (R_bd ha).1; omega)
  unfold fr at P
  generalize a.num.sign = q at *
  go_enter Tryz.func28, Tryz.ntmps28
  go_wp2_with fail
  refine (P _).mono ?_
  rintro e v1 ⟨rfl, k1⟩
  have H1 : Hid _ := k1
  clear k1
  go_wp2_with fail
  refine (M _).mono ?_
  rintro e v2 ⟨rfl, k2⟩
  have H2 : Hid _ := k2
  clear k2
  go_wp2
  go_ret2
  exact ⟨rfl, bl_trans (bl_alloc H1.out _) H2.out⟩
set_option maxHeartbeats 2000000 in
theorem Power_R (a : Rat) (n : Nat) (w : World) (ha : (R a).size ≤ 400) (hn : n ≤ 6) :
    Calls Tryz.prog 27 #[.string (R a), .int .i64 (n : Int)] w fun e w' => e = .returned (.tuple #[.string (R (a ^ n)), .int .i64 0]) ∧ Below w.heap.size w w' := by
  have P := fun v => parse_R a v (by omega)
  have ba : Bd a 500 := (Bd.of_size ha).mono (by omega)
  have M := fun v => raised_R a n v hn ba
  have bp : Bd (a ^ n) 10000 := by
    have t1 := tl_pow a.num.natAbs n 500 ba.1 (by omega)
    have t2 := tl_pow a.den n 500 ba.2 (by omega)
    have : n * 500 ≤ 6 * 500 := Nat.mul_le_mul_right _ hn
    exact ⟨by rw [Rat.num_pow, Int.natAbs_pow]; omega, by rw [Rat.den_pow]; omega⟩
  have A := fun v => answer_R (a ^ n) v bp
  unfold fr at P M
  generalize R (a ^ n) = Z at *
  generalize W (a ^ n).num = D1 at *
  generalize S (a ^ n).den = D2 at *
  go_enter Tryz.func27, Tryz.ntmps27
  go_wp2_with fail
  refine (P _).mono ?_
  rintro e v1 ⟨rfl, k1⟩
  have H1 : Hid _ := k1
  clear k1
  go_wp2_with fail
  refine (M _).mono ?_
  rintro e v2 ⟨rfl, k2⟩
  have H2 : Hid _ := k2
  clear k2
  go_wp2_with fail
  refine (A _).mono ?_
  rintro e v3 ⟨rfl, k3⟩
  have H3 : Hid _ := k3
  clear k3
  go_wp2
  go_ret2
  exact ⟨rfl, bl_trans (bl_trans (bl_alloc H1.out _) H2.out) H3.out⟩
set_option maxHeartbeats 2000000 in
theorem Power_out (a : Rat) (n : Int) (aF aZ : Addr) (w : World) (hE : Er w aF aZ) (ha : (R a).size ≤ 1000) (hn : n < 0 ∨ 6 < n) :
    Calls Tryz.prog 27 #[.string (R a), .int .i64 n] w fun e w' => e = .returned (.tuple #[.string ⟨#[]⟩, .int .i64 1]) ∧ Below w.heap.size w w' := by
  have HE : Hid _ := hE
  clear hE
  have P := fun v => parse_R a v (by omega)
  have M := fun v => raised_no (W a.num) (S a.den) n v hn
  have A := fun (v : World) (h : Below w.heap.size w v) => answer_no ⟨#[]⟩ ⟨#[]⟩ 73 (.agg #[.int .i64 n]) 1 v (fun u hu => number_beyond n aF aZ u ((HE.out.below h).below hu))
  unfold fr at P
  clear hn
  go_enter Tryz.func27, Tryz.ntmps27
  go_wp2_with fail
  refine (P _).mono ?_
  rintro e v1 ⟨rfl, k1⟩
  have H1 : Hid _ := k1
  clear k1
  go_wp2_with fail
  refine (M _).mono ?_
  rintro e v2 ⟨rfl, k2⟩
  have H2 : Hid _ := bl_trans (bl_alloc H1.out _) k2
  clear k2
  go_wp2_with fail
  refine (A _ H2.out).mono ?_
  rintro e v3 ⟨rfl, k3⟩
  have H3 : Hid _ := k3
  clear k3
  go_wp2
  go_ret2
  exact ⟨rfl, bl_trans H2.out H3.out⟩
set_option maxHeartbeats 2000000 in
theorem Right_R (a : Rat) (w : World) (ha : (R a).size ≤ 4000) :
    Calls Tryz.prog 30 #[.string (R a)] w fun e w' => e = .returned (.bool true) ∧ Below w.heap.size w w' := by
  have P := fun v => parse_R a v ha
  unfold fr at P
  go_enter Tryz.func30, Tryz.ntmps30
  go_wp2_with fail
  refine (P _).mono ?_
  rintro e v1 ⟨rfl, k1⟩
  have H1 : Hid _ := k1
  clear k1
  go_wp2
  go_ret
  exact ⟨rfl, bl_alloc H1.out _⟩
set_option maxHeartbeats 2000000 in
theorem Right_no (s : ByteArray) (aF aZ : Addr) (w : World) (hE : Er w aF aZ) (hs : s.size ≤ 4000) (h : ra s = false) :
    Calls Tryz.prog 30 #[.string s] w fun e w' => e = .returned (.bool false) ∧ Below w.heap.size w w' := by
  have HE : Hid _ := hE
  have HH : Hid _ := h
  have HS : Hid _ := hs
  clear hE h hs
  go_enter Tryz.func30, Tryz.ntmps30
  go_wp2_with fail
  refine (parse_not s aF aZ _ HS.out HE.out HH.out).mono ?_
  rintro e v1 ⟨rfl, k1⟩
  have H1 : Hid _ := k1
  clear k1
  go_wp2
  go_ret
  exact ⟨rfl, bl_alloc H1.out _⟩
theorem Right_is (s : ByteArray) (b : Bool) (aF aZ : Addr) (w : World) (hE : Er w aF aZ) (hs : s.size ≤ 4000) (h : ra s = b) :
    Calls Tryz.prog 30 #[.string s] w fun e w' => e = .returned (.bool b) ∧ Below w.heap.size w w' := by
  cases b with
  | false => exact Right_no s aF aZ w hE hs h
  | true => obtain ⟨r, rfl⟩ := R_of h; exact Right_R r w hs

set_option maxHeartbeats 2000000 in
theorem Make_W (p q : Int) (w : World) (hp : tl p.natAbs ≤ 1000) (hq : tl q.natAbs ≤ 1000) (h0 : q ≠ 0) :
    Calls Tryz.prog 26 #[.string (W p), .string (W q)] w fun e w' => e = .returned (.tuple #[.string (R (by' p q)), .int .i64 0]) ∧ Below w.heap.size w w' := by
  have M := fun v => made_W p q v (by omega) (by omega) h0
  have A := fun v => answer_R (by' p q) v ((Bd.by' h0 hp hq).mono (by omega))
  unfold fr at M
  generalize R (by' p q) = Z at *
  generalize W (by' p q).num = D1 at *
  generalize S (by' p q).den = D2 at *
  go_enter Tryz.func26, Tryz.ntmps26
  go_wp2_with fail
  refine (M _).mono ?_
  rintro e v2 ⟨rfl, k2⟩
  have H2 : Hid _ := k2
  clear k2
  go_wp2_with fail
  refine (A _).mono ?_
  rintro e v3 ⟨rfl, k3⟩
  have H3 : Hid _ := k3
  clear k3
  go_wp2
  go_ret2
  exact ⟨rfl, bl_trans H2.out H3.out⟩
set_option maxHeartbeats 2000000 in
theorem Make_zero (p : Int) (aF aZ : Addr) (w : World) (hE : Er w aF aZ) (hp : tl p.natAbs ≤ 1000) :
    Calls Tryz.prog 26 #[.string (W p), .string (W 0)] w fun e w' => e = .returned (.tuple #[.string ⟨#[]⟩, .int .i64 3]) ∧ Below w.heap.size w w' := by
  have HE : Hid _ := hE
  clear hE
  have M := fun (v : World) (h : Below w.heap.size w v) => made_zero p aF aZ v (HE.out.below h) (by omega)
  have A := fun (v : World) (h : Below w.heap.size w v) => answer_no ⟨#[]⟩ ⟨#[]⟩ 78 (.agg #[.string ⟨#[48]⟩, sentinel aZ]) 3 v (fun u hu => number_zero ⟨#[48]⟩ aF aZ u ((HE.out.below h).below hu))
  go_enter Tryz.func26, Tryz.ntmps26
  go_wp2_with fail
  refine (M _ (Below.refl _ _)).mono ?_
  rintro e v2 ⟨rfl, k2⟩
  have H2 : Hid _ := k2
  clear k2
  go_wp2_with fail
  refine (A _ H2.out).mono ?_
  rintro e v3 ⟨rfl, k3⟩
  have H3 : Hid _ := k3
  clear k3
  go_wp2
  go_ret2
  exact ⟨rfl, bl_trans H2.out H3.out⟩
set_option maxHeartbeats 2000000 in
theorem Make_no (p q : ByteArray) (aF aZ : Addr) (w : World) (hE : Er w aF aZ) (hp : p.size ≤ 4000) (hq : q.size ≤ 4000) (h : (wh p && wh q) = false) :
    Calls Tryz.prog 26 #[.string p, .string q] w fun e w' => e = .returned (.tuple #[.string ⟨#[]⟩, .int .i64 2]) ∧ Below w.heap.size w w' := by
  have HE : Hid _ := hE
  have HH : Hid _ := h
  have HP : Hid _ := hp
  have HQ : Hid _ := hq
  clear hE h hp hq
  have A := fun (u : ByteArray) (v : World) (h : Below w.heap.size w v) => answer_no ⟨#[]⟩ ⟨#[]⟩ 78 (.agg #[.string u, sentinel aF]) 2 v (fun x hx => number_form u aF aZ x ((HE.out.below h).below hx))
  go_enter Tryz.func26, Tryz.ntmps26
  go_wp2_with fail
  refine (made_no p q aF aZ _ HE.out HP.out HQ.out HH.out).mono ?_
  rintro e v2 ⟨u, rfl, k2⟩
  have H2 : Hid _ := k2
  clear k2
  go_wp2_with fail
  refine (A u _ H2.out).mono ?_
  rintro e v3 ⟨rfl, k3⟩
  have H3 : Hid _ := k3
  clear k3
  go_wp2
  go_ret2
  exact ⟨rfl, bl_trans H2.out H3.out⟩
end
end Go.Proofs.YtpmnfgbbkmodpaaGreatDoor
