/-
  RATIONALS, JOINED: what sum, difference, product, quotient and compare of package rat give, in the words of rationals. Conditions: sizes.
-/
import Derived.Test.YtpmnfgbbkmodpaaGreatDoorJoin
import Derived.Test.YtpmnfgbbkmodpaaGreatDoorTell
import Derived.Deep.CutRange
namespace Go.Proofs.YtpmnfgbbkmodpaaGreatDoor
set_option maxRecDepth 100000
open Go.RowKit Nm
set_option linter.unusedVariables false

theorem compare_R (a b : Rat) (w : World) (ha : Bd a 2000) (hb : Bd b 2000) :
    Calls Tryz.prog 57 #[fr a, fr b] w fun e w' => e = .returned (.int .i64 (sgr a b)) ∧ Below w.heap.size w w' := by
  have := compare_raw a.num b.num a.den b.den w ha.1 hb.1 ha.2 hb.2
  rw [W_nat, W_nat] at this
  exact this
theorem sum_R (a b : Rat) (w : World) (ha : Bd a 2000) (hb : Bd b 2000) :
    Calls Tryz.prog 38 #[fr a, fr b] w fun e w' => e = .returned (fr (a + b)) ∧ Below w.heap.size w w' := by
  have h := sum_raw a.num b.num a.den b.den _ _ _ w ha.1 hb.1 ha.2 hb.2 a.den_nz b.den_nz rfl rfl rfl
  have e := sum_both a b
  unfold above at e
  rw [← e.1, ← Int.natCast_mul, ← e.2, W_nat, W_nat, W_nat] at h
  exact h
theorem product_R (a b : Rat) (w : World) (ha : Bd a 2000) (hb : Bd b 2000) :
    Calls Tryz.prog 40 #[fr a, fr b] w fun e w' => e = .returned (fr (a * b)) ∧ Below w.heap.size w w' := by
  have h := product_raw a.num b.num a.den b.den _ _ w ha.1 hb.1 ha.2 hb.2 a.den_nz b.den_nz rfl rfl
  rw [← prod_num a b, ← Int.natCast_mul, ← prod_den a b, W_nat, W_nat, W_nat] at h
  exact h

set_option maxHeartbeats 4000000 in
theorem difference_raw (X1 X2 Y1 Y2 N1 N2 D1 D2 : ByteArray) (w : World)
    (E1 : ∀ v : World, Calls Tryz.prog 55 #[.agg #[.string Y1, .string Y2]] v fun e w' => e = .returned (.agg #[.string N1, .string N2]) ∧ Below v.heap.size v w')
    (E2 : ∀ v : World, Calls Tryz.prog 38 #[.agg #[.string X1, .string X2], .agg #[.string N1, .string N2]] v fun e w' => e = .returned (.agg #[.string D1, .string D2]) ∧ Below v.heap.size v w') :
    Calls Tryz.prog 39 #[.agg #[.string X1, .string X2], .agg #[.string Y1, .string Y2]] w fun e w' => e = .returned (.agg #[.string D1, .string D2]) ∧ Below w.heap.size w w' := by
  obtain ⟨C, hC⟩ : ∃ C : World → Prop, C = fun v => Below (((w.alloc (.cells #[.string X1, .string X2] 52)).alloc (.cells #[.string Y1, .string Y2] 52)).alloc (.cells #[.string ⟨#[]⟩, .string ⟨#[]⟩] 52)).heap.size (((w.alloc (.cells #[.string X1, .string X2] 52)).alloc (.cells #[.string Y1, .string Y2] 52)).alloc (.cells #[.string ⟨#[]⟩, .string ⟨#[]⟩] 52)) v := ⟨_, rfl⟩
  have c0 : ∀ v, C v → v.cell? ⟨w.heap.size, 0, none⟩ = some (.string X1) := fun v h => by subst hC; exact (own3 h).1 0
  have c1 : ∀ v, C v → v.cell? ⟨w.heap.size, 1, none⟩ = some (.string X2) := fun v h => by subst hC; exact (own3 h).1 1
  have c2 : ∀ v, C v → v.cell? ⟨w.heap.size + 1, 0, none⟩ = some (.string Y1) := fun v h => by subst hC; exact (own3 h).2.1 0
  have c3 : ∀ v, C v → v.cell? ⟨w.heap.size + 1, 1, none⟩ = some (.string Y2) := fun v h => by subst hC; exact (own3 h).2.1 1
  have c4 : ∀ v, C v → v.cell? ⟨w.heap.size + 1 + 1, 0, none⟩ = some (.string ⟨#[]⟩) := fun v h => by subst hC; exact (own3 h).2.2.1 0
  have c5 : ∀ v, C v → v.cell? ⟨w.heap.size + 1 + 1, 1, none⟩ = some (.string ⟨#[]⟩) := fun v h => by subst hC; exact (own3 h).2.2.1 1
  have fc4 : ∀ v, C v → v.frozen? ⟨w.heap.size + 1 + 1, 0, none⟩ = false := fun v h => by subst hC; exact (own3 h).2.2.2.1 0
  have fc5 : ∀ v, C v → v.frozen? ⟨w.heap.size + 1 + 1, 1, none⟩ = false := fun v h => by subst hC; exact (own3 h).2.2.2.1 1
  have cB : ∀ v, C v → Below w.heap.size w v := fun v h => by subst hC; exact (own3 h).2.2.2.2
  have cT : ∀ u v, C u → Below u.heap.size u v → C v := fun u v h k => by subst hC; exact h.trans (k.mono h.size)
  have cD : ∀ v, C v → C v.drew := fun v h => by subst hC; exact h.drew
  have cI : C (((w.alloc (.cells #[.string X1, .string X2] 52)).alloc (.cells #[.string Y1, .string Y2] 52)).alloc (.cells #[.string ⟨#[]⟩, .string ⟨#[]⟩] 52)) := by subst hC; exact Below.refl _ _
  clear hC
  go_enter Tryz.func39, Tryz.ntmps39
  go_wp2_with fail
  refine region_last 4 C (by kernel_rfl) (by kernel_rfl) (by kernel_rfl) (cD _ cI) ?_
  clear cI
  simp only [List.take_succ_cons, List.take_zero]
  refine wpQuiet_step (fun K hK => ?_)
  go_simp
  refine ⟨.agg #[.string X1, .string X2], fun v hv => ?_, hK _ ?_⟩
  · simp [c0 v hv, c1 v hv]
  clear hK K
  refine wpQuiet_step (fun K hK => ?_)
  go_simp
  refine ⟨.agg #[.string Y1, .string Y2], fun v hv => ?_, hK _ ?_⟩
  · simp [c2 v hv, c3 v hv]
  clear hK K
  refine wpQuiet_step (fun K hK => ?_)
  go_simp
  refine ⟨.agg #[.string N1, .string N2], fun v hv => ?_, hK _ ?_⟩
  · exact calm_call cT hv (E1 v)
  clear hK K
  refine wpQuiet_step (fun K hK => ?_)
  go_simp
  refine ⟨.agg #[.string D1, .string D2], fun v hv => ?_, hK _ ?_⟩
  · exact calm_call cT hv (E2 v)
  clear hK K
  refine wpQuiet_nil ?_
  intro w6 C6
  have k4 := c4 w6 C6
  have k5 := c5 w6 C6
  have q4 := fc4 w6 C6
  have q5 := fc5 w6 C6
  have HB : Hid _ := cB w6 C6
  clear c0 c1 c2 c3 c4 c5 fc4 fc5 cB cT cD C6
  unfold wpOp
  simp only [List.getElem?_toArray, List.getElem?_cons_succ, List.getElem?_cons_zero]
  rw [if_pos (wanted_none rfl _)]
  refine Or.inl ?_
  go_simp
  go_wp2
  refine bodyPost_ret (v := .agg #[.string D1, .string D2]) (by simp [results, Tryz.results39, go_sem, k4, k5]) rfl ⟨rfl, ?_⟩
  exact (HB.out.setCell (by simp; omega) _).setCell (by simp; omega) _

theorem difference_R (a b : Rat) (w : World) (ha : Bd a 2000) (hb : Bd b 2000) :
    Calls Tryz.prog 39 #[fr a, fr b] w fun e w' => e = .returned (fr (a - b)) ∧ Below w.heap.size w w' := by
  have h := difference_raw (W a.num) (S a.den) (W b.num) (S b.den) (W (-b).num) (S (-b).den) (W (a + -b).num) (S (a + -b).den) w
    (fun v => negated_R b v (hb.mono (by omega))) (fun v => sum_R a (-b) v ha hb.neg)
  rw [Rat.sub_eq_add_neg]; exact h
end Go.Proofs.YtpmnfgbbkmodpaaGreatDoor
