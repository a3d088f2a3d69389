/-
  SIGNS, WHAT IS TAKEN OFF 0, WHICH IS LESS: what calls of rat.Sign, Neg and Compare give; and the document's. Conditions: sizes.
-/
import Derived.Test.YtjkobbpebnkimaaGreatDoorApi
import Derived.Test.YtjkobbpebnkimaaGreatDoorReadR
namespace Go.Proofs.YtjkobbpebnkimaaGreatDoor
set_option maxRecDepth 100000
open Go.RowKit Nm
set_option linter.unusedVariables false

set_option maxHeartbeats 1000000 in
theorem Signw_W (x : Int) (w : World) (hx : tl x.natAbs ≤ 250000) :
    Calls Tryz.prog 96 #[.string (W x)] w fun e w' => e = .returned (.tuple #[.int .i64 x.sign, .int .i64 0]) ∧ Below w.heap.size w w' := by
  have HX : Hid _ := hx
  have VX : Hid _ := vl_W x
  clear hx
  go_enter Tryz.func96, Tryz.ntmps96
  go_wp2_with fail
  refine (parse_W x _ (by have := HX.out; omega)).mono ?_
  rintro e w1 ⟨rfl, rfl⟩
  go_wp2_with fail
  refine (sign_any _ _ _).mono ?_
  rintro e w2 ⟨rfl, rfl⟩
  rw [VX.out]
  go_wp2
  go_ret2
  refine ⟨rfl, ?_⟩
  repeat' (first | exact Below.refl _ _ | apply bl_alloc | apply bl_drew)

set_option maxHeartbeats 2000000 in
theorem Sign_R (a : Rat) (w : World) (ha : (R a).size ≤ 50000) :
    Calls Tryz.prog 74 #[.string (R a)] w fun e w' => e = .returned (.tuple #[.int .i64 a.num.sign, .int .i64 0]) ∧ Below w.heap.size w w' := by
  have P := fun v => parse_R a v (by omega)
  have M := fun v => Signw_W a.num v (by have := (R_bd ha).1; omega)
  unfold fr at P
  generalize a.num.sign = q at *
  go_enter Tryz.func74, Tryz.ntmps74
  go_wp2_with fail
  refine (P _).mono ?_
  rintro e v1 ⟨rfl, k1⟩
  have H1 : Hid _ := k1
  clear k1
  go_wp2_with fail
  refine (M _).mono ?_
  rintro e v2 ⟨rfl, k2⟩
  have H2 : Hid _ := k2
  clear k2
  go_wp2
  go_ret2
  exact ⟨rfl, bl_trans (bl_alloc H1.out _) H2.out⟩
set_option maxHeartbeats 2000000 in
theorem Neg_R (a : Rat) (w : World) (ha : (R a).size ≤ 50000) :
    Calls Tryz.prog 76 #[.string (R a)] w fun e w' => e = .returned (.tuple #[.string (R (-a)), .int .i64 0]) ∧ Below w.heap.size w w' := by
  have P := fun v => parse_R a v (by omega)
  have M := fun v => negated_R a v ((R_bd ha).mono (by omega))
  have X := fun v => text_R (-a) v ((R_bd ha).neg.mono (by omega))
  unfold fr at P M X
  generalize R (-a) = Z at *
  generalize W (-a).num = D1 at *
  generalize S (-a).den = D2 at *
  go_enter Tryz.func76, Tryz.ntmps76
  go_wp2_with fail
  refine (P _).mono ?_
  rintro e v1 ⟨rfl, k1⟩
  have H1 : Hid _ := k1
  clear k1
  go_wp2_with fail
  refine (M _).mono ?_
  rintro e v2 ⟨rfl, k2⟩
  have H2 : Hid _ := k2
  clear k2
  go_wp2_with fail
  refine (X _).mono ?_
  rintro e v3 ⟨rfl, rfl⟩
  go_wp2
  go_ret2
  exact ⟨rfl, bl_alloc (bl_trans (bl_alloc H1.out _) H2.out) _⟩
set_option maxHeartbeats 2000000 in
theorem Cmpw_W (x y : Int) (w : World) (hx : tl x.natAbs ≤ 250000) (hy : tl y.natAbs ≤ 250000) :
    Calls Tryz.prog 105 #[.string (W x), .string (W y)] w fun e w' => e = .returned (.tuple #[.int .i64 (sg x y), .int .i64 0]) ∧ Below w.heap.size w w' := by
  have HX : Hid _ := hx
  have HY : Hid _ := hy
  have VX : Hid _ := vl_W x
  have VY : Hid _ := vl_W y
  clear hx hy
  by_cases hc : sg x.sign y.sign = 0
  · have HE : Hid _ := sg_size hc
    have hw : IntKind.i64.wrap (sg x.natAbs y.natAbs * x.sign) = sg x.natAbs y.natAbs * x.sign := by
      rw [HE.out, IntKind.wrap_i64]
      have := sg_bd x y; omega
    go_enter Tryz.func105, Tryz.ntmps105
    go_wp2_with fail
    refine (both_W x y _ (by have := HX.out; omega) (by have := HY.out; omega)).mono ?_
    rintro e w1 ⟨rfl, HB⟩
    go_wp2_with fail
    go_region_with (first | (go_at_call 117; refine (sign_any _ _ _).mono ?_; rintro e w2 ⟨rfl, rfl⟩) | (go_at_call 129; refine (cmpInt_any _ _ _).mono ?_; rintro e w4 ⟨rfl, rfl⟩))
    all_goals rw [VX.out, VY.out]
    all_goals go_wp2_with fail
    all_goals refine (Compare_any _ _ _ (by have := HX.out; omega) (by have := HY.out; omega)).mono ?_
    all_goals rintro e w5 ⟨rfl, rfl⟩
    all_goals go_wp2_with fail
    all_goals refine (sign_any _ _ _).mono ?_
    all_goals rintro e w5 ⟨rfl, rfl⟩
    all_goals rw [VX.out]
    all_goals go_wp2
    all_goals go_ret2
    all_goals refine ⟨by rw [← HE.out]; rfl, ?_⟩
    all_goals (repeat' (first | exact HB | apply bl_alloc | apply bl_drew))
  · have HE : Hid _ := sg_sign hc
    have hc' : (sg x.sign y.sign == 0) = false := by simpa using hc
    have hc2 : (!(sg x.sign y.sign == 0)) = true := by rw [hc']; rfl
    go_enter Tryz.func105, Tryz.ntmps105
    go_wp2_with fail
    refine (both_W x y _ (by have := HX.out; omega) (by have := HY.out; omega)).mono ?_
    rintro e w1 ⟨rfl, HB⟩
    go_wp2_with fail
    go_region_with (first | (go_at_call 117; refine (sign_any _ _ _).mono ?_; rintro e w2 ⟨rfl, rfl⟩) | (go_at_call 129; refine (cmpInt_any _ _ _).mono ?_; rintro e w4 ⟨rfl, rfl⟩))
    all_goals rw [VX.out, VY.out]
    all_goals go_wp2
    all_goals go_ret2
    all_goals refine ⟨by rw [← HE.out]; rfl, ?_⟩
    all_goals (repeat' (first | exact HB | apply bl_alloc | apply bl_drew))

set_option maxHeartbeats 4000000 in
theorem compare_raw (p q : Int) (r t : Nat) (w : World) (hp : tl p.natAbs ≤ 100000) (hq : tl q.natAbs ≤ 100000) (hr : tl r ≤ 100000) (ht : tl t ≤ 100000) :
    Calls Tryz.prog 83 #[.agg #[.string (W p), .string (W (r : Int))], .agg #[.string (W q), .string (W (t : Int))]] w fun e w' => e = .returned (.int .i64 (sg (p * t) (q * r))) ∧ Below w.heap.size w w' := by
  have h1 : tl (p * t).natAbs ≤ 250000 := by rw [Int.natAbs_mul]; have := tl_mul p.natAbs t; simp only [Int.natAbs_natCast]; omega
  have h2 : tl (q * r).natAbs ≤ 250000 := by rw [Int.natAbs_mul]; have := tl_mul q.natAbs r; simp only [Int.natAbs_natCast]; omega
  have h3 : tl ((t : Int)).natAbs ≤ 250000 := by simp only [Int.natAbs_natCast]; omega
  have h4 : tl ((r : Int)).natAbs ≤ 250000 := by simp only [Int.natAbs_natCast]; omega
  have h5 : tl p.natAbs ≤ 250000 := by omega
  have h6 : tl q.natAbs ≤ 250000 := by omega
  generalize (r : Int) = R at *
  generalize (t : Int) = T at *
  obtain ⟨C, hC⟩ : ∃ C : World → Prop, C = fun v => Below ((w.alloc (.cells #[.string (W p), .string (W R)] 83)).alloc (.cells #[.string (W q), .string (W T)] 83)).heap.size ((w.alloc (.cells #[.string (W p), .string (W R)] 83)).alloc (.cells #[.string (W q), .string (W T)] 83)) v := ⟨_, rfl⟩
  have c0 : ∀ v, C v → v.cell? ⟨w.heap.size, 0, none⟩ = some (.string (W p)) := fun v h => by subst hC; exact (own2 h).1 0
  have c1 : ∀ v, C v → v.cell? ⟨w.heap.size, 1, none⟩ = some (.string (W R)) := fun v h => by subst hC; exact (own2 h).1 1
  have c2 : ∀ v, C v → v.cell? ⟨w.heap.size + 1, 0, none⟩ = some (.string (W q)) := fun v h => by subst hC; exact (own2 h).2.1 0
  have c3 : ∀ v, C v → v.cell? ⟨w.heap.size + 1, 1, none⟩ = some (.string (W T)) := fun v h => by subst hC; exact (own2 h).2.1 1
  have cB : ∀ v, C v → Below w.heap.size w v := fun v h => by subst hC; exact (own2 h).2.2.2.2
  have cT : ∀ u v, C u → Below u.heap.size u v → C v := fun u v h k => by subst hC; exact h.trans (k.mono h.size)
  have cD : ∀ v, C v → C v.drew := fun v h => by subst hC; exact h.drew
  have cI : C ((w.alloc (.cells #[.string (W p), .string (W R)] 83)).alloc (.cells #[.string (W q), .string (W T)] 83)) := by subst hC; exact Below.refl _ _
  clear hC
  go_enter Tryz.func83, Tryz.ntmps83
  go_wp2_with fail
  refine region_calm C (by kernel_rfl) (by kernel_rfl) (cD _ cI) ?_
  clear cI
  refine wpQuiet_step (fun K hK => ?_)
  go_simp
  refine ⟨_, fun v hv => rfl, hK _ ?_⟩
  clear hK K
  refine wpQuiet_step (fun K hK => ?_)
  go_simp
  refine ⟨.string (W p), fun v hv => ?_, hK _ ?_⟩
  · simp [c0 v hv]
  clear hK K
  refine wpQuiet_step (fun K hK => ?_)
  go_simp
  refine ⟨_, fun v hv => rfl, hK _ ?_⟩
  clear hK K
  refine wpQuiet_step (fun K hK => ?_)
  go_simp
  refine ⟨.string (W T), fun v hv => ?_, hK _ ?_⟩
  · simp [c3 v hv]
  clear hK K
  refine wpQuiet_step (fun K hK => ?_)
  go_simp
  refine ⟨.string (W (p * T)), fun v hv => ?_, hK _ ?_⟩
  · exact calm_call cT hv (mul_W p T v h5 h3)
  clear hK K
  refine wpQuiet_step (fun K hK => ?_)
  go_simp
  refine ⟨_, fun v hv => rfl, hK _ ?_⟩
  clear hK K
  refine wpQuiet_step (fun K hK => ?_)
  go_simp
  refine ⟨.string (W q), fun v hv => ?_, hK _ ?_⟩
  · simp [c2 v hv]
  clear hK K
  refine wpQuiet_step (fun K hK => ?_)
  go_simp
  refine ⟨_, fun v hv => rfl, hK _ ?_⟩
  clear hK K
  refine wpQuiet_step (fun K hK => ?_)
  go_simp
  refine ⟨.string (W R), fun v hv => ?_, hK _ ?_⟩
  · simp [c1 v hv]
  clear hK K
  refine wpQuiet_step (fun K hK => ?_)
  go_simp
  refine ⟨.string (W (q * R)), fun v hv => ?_, hK _ ?_⟩
  · exact calm_call cT hv (mul_W q R v h6 h4)
  clear hK K
  refine wpQuiet_step (fun K hK => ?_)
  go_simp
  refine ⟨.tuple #[.int .i64 (sg (p * T) (q * R)), .int .i64 0], fun v hv => ?_, hK _ ?_⟩
  · exact calm_call cT hv (Cmpw_W (p * T) (q * R) v h1 h2)
  clear hK K
  refine wpQuiet_step (fun K hK => ?_)
  go_simp
  refine ⟨_, fun v hv => rfl, hK _ ?_⟩
  clear hK K
  refine wpQuiet_step (fun K hK => ?_)
  go_simp
  refine ⟨_, fun v hv => rfl, hK _ ?_⟩
  clear hK K
  refine wpQuiet_step (fun K hK => ?_)
  go_simp
  refine ⟨_, fun v hv => rfl, hK _ ?_⟩
  clear hK K
  refine wpQuiet_step (fun K hK => ?_)
  go_simp
  refine ⟨_, fun v hv => rfl, hK _ ?_⟩
  clear hK K
  refine wpQuiet_step (fun K hK => ?_)
  go_simp
  refine ⟨_, fun v hv => rfl, hK _ ?_⟩
  clear hK K
  refine wpQuiet_nil ?_
  intro v hv
  have HB : Hid _ := cB v hv
  clear c0 c1 c2 c3 cB cT cD hv
  go_wp2
  go_ret
  exact ⟨rfl, HB.out⟩

theorem compare_R (a b : Rat) (w : World) (ha : Bd a 100000) (hb : Bd b 100000) :
    Calls Tryz.prog 83 #[fr a, fr b] w fun e w' => e = .returned (.int .i64 (sgr a b)) ∧ Below w.heap.size w w' := by
  have := compare_raw a.num b.num a.den b.den w ha.1 hb.1 ha.2 hb.2
  rw [W_nat, W_nat] at this
  exact this
set_option maxHeartbeats 2000000 in
theorem Cmp_R (a b : Rat) (w : World) (ha : (R a).size ≤ 50000) (hb : (R b).size ≤ 50000) :
    Calls Tryz.prog 65 #[.string (R a), .string (R b)] w fun e w' => e = .returned (.tuple #[.int .i64 (sgr a b), .int .i64 0]) ∧ Below w.heap.size w w' := by
  have P := fun v => both_R a b v (by omega) (by omega)
  have C := fun v => compare_R a b v (R_bd ha) (R_bd hb)
  unfold fr at P C
  generalize sgr a b = q at *
  go_enter Tryz.func65, Tryz.ntmps65
  go_wp2_with fail
  refine (P _).mono ?_
  rintro e v1 ⟨rfl, k1⟩
  have H1 : Hid _ := k1
  clear k1
  go_wp2_with fail
  refine (C _).mono ?_
  rintro e v2 ⟨rfl, k2⟩
  have H2 : Hid _ := k2
  clear k2
  go_wp2
  go_ret2
  exact ⟨rfl, bl_trans (bl_alloc (bl_alloc H1.out _) _) H2.out⟩
set_option maxHeartbeats 8000000 in
theorem rneg_raw (X1 X2 A : ByteArray) (w : World)
    (E1 : ∀ v : World, Calls Tryz.prog 78 #[.string X1] v fun e w' => e = .returned (.string A) ∧ w' = v) :
    Calls Tryz.prog 63 #[.agg #[.string X1, .string X2]] w fun e w' => e = .returned (.agg #[.string A, .string X2]) ∧ Below w.heap.size w w' := by
  obtain ⟨C, hC⟩ : ∃ C : World → Prop, C = fun v => Below ((w.alloc (.cells #[.string X1, .string X2] 51)).alloc (.cells #[.string ⟨#[]⟩, .string ⟨#[]⟩] 51)).heap.size ((w.alloc (.cells #[.string X1, .string X2] 51)).alloc (.cells #[.string ⟨#[]⟩, .string ⟨#[]⟩] 51)) v := ⟨_, rfl⟩
  have c0 : ∀ v, C v → v.cell? ⟨w.heap.size, 0, none⟩ = some (.string X1) := fun v h => by subst hC; exact (own2 h).1 0
  have c1 : ∀ v, C v → v.cell? ⟨w.heap.size, 1, none⟩ = some (.string X2) := fun v h => by subst hC; exact (own2 h).1 1
  have c2 : ∀ v, C v → v.cell? ⟨w.heap.size + 1, 0, none⟩ = some (.string ⟨#[]⟩) := fun v h => by subst hC; exact (own2 h).2.1 0
  have c3 : ∀ v, C v → v.cell? ⟨w.heap.size + 1, 1, none⟩ = some (.string ⟨#[]⟩) := fun v h => by subst hC; exact (own2 h).2.1 1
  have c4 : ∀ v, C v → v.frozen? ⟨w.heap.size + 1, 0, none⟩ = false := fun v h => by subst hC; exact (own2 h).2.2.2.1 0
  have c5 : ∀ v, C v → v.frozen? ⟨w.heap.size + 1, 1, none⟩ = false := fun v h => by subst hC; exact (own2 h).2.2.2.1 1
  have cB : ∀ v, C v → Below w.heap.size w v := fun v h => by subst hC; exact (own2 h).2.2.2.2
  have cT : ∀ u v, C u → Below u.heap.size u v → C v := fun u v h k => by subst hC; exact h.trans (k.mono h.size)
  have cD : ∀ v, C v → C v.drew := fun v h => by subst hC; exact h.drew
  have cI : C ((w.alloc (.cells #[.string X1, .string X2] 51)).alloc (.cells #[.string ⟨#[]⟩, .string ⟨#[]⟩] 51)) := by subst hC; exact Below.refl _ _
  clear hC
  go_enter Tryz.func63, Tryz.ntmps63
  go_wp2_with fail
  refine region_last 6 C (by kernel_rfl) (by kernel_rfl) (by kernel_rfl) (cD _ cI) ?_
  clear cI
  simp only [List.take_succ_cons, List.take_zero]
  refine wpQuiet_step (fun K hK => ?_)
  go_simp
  refine ⟨_, fun v hv => rfl, hK _ ?_⟩
  clear hK K
  refine wpQuiet_step (fun K hK => ?_)
  go_simp
  refine ⟨.string X1, fun v hv => ?_, hK _ ?_⟩
  · simp [c0 v hv]
  clear hK K
  refine wpQuiet_step (fun K hK => ?_)
  go_simp
  refine ⟨.string A, fun v hv => ?_, hK _ ?_⟩
  · exact calm_call cT hv (calm_same (E1 v))
  clear hK K
  refine wpQuiet_step (fun K hK => ?_)
  go_simp
  refine ⟨_, fun v hv => rfl, hK _ ?_⟩
  clear hK K
  refine wpQuiet_step (fun K hK => ?_)
  go_simp
  refine ⟨.string X2, fun v hv => ?_, hK _ ?_⟩
  · simp [c1 v hv]
  clear hK K
  refine wpQuiet_step (fun K hK => ?_)
  go_simp
  refine ⟨_, fun v hv => rfl, hK _ ?_⟩
  clear hK K
  refine wpQuiet_nil ?_
  intro w6 C6
  have k4 := c2 w6 C6
  have k5 := c3 w6 C6
  have q4 := c4 w6 C6
  have q5 := c5 w6 C6
  have HB : Hid _ := cB w6 C6
  clear c0 c1 c2 c3 c4 c5 cB cT cD C6
  unfold wpOp
  simp only [List.getElem?_toArray, List.getElem?_cons_succ, List.getElem?_cons_zero]
  rw [if_pos (wanted_none rfl _)]
  refine Or.inl ?_
  go_simp
  go_wp2
  refine bodyPost_ret (v := .agg #[.string A, .string X2]) (by simp [results, Tryz.results63, go_sem, k4, k5]) rfl ⟨rfl, ?_⟩
  exact (HB.out.setCell (by simp) _).setCell (by simp) _

theorem rneg_R (a : Rat) (w : World) (ha : Bd a 250000) :
    Calls Tryz.prog 63 #[fr a] w fun e w' => e = .returned (fr (-a)) ∧ Below w.heap.size w w' := by
  have E := fun v => refNeg_W a.num v ha.1
  rw [← Rat.neg_num] at E
  have h := rneg_raw (W a.num) (S a.den) _ w E
  rw [← Rat.neg_den a] at h
  exact h

end Go.Proofs.YtjkobbpebnkimaaGreatDoor
