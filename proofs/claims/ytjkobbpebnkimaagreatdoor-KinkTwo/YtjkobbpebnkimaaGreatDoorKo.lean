/-
  THE DOCUMENT'S NUMBERS WITH A KINK, ONE BY ONE: which is less; what an operation makes of a number. Conditions: sizes.
-/
import Derived.Test.YtjkobbpebnkimaaGreatDoorKb
import Derived.Test.YtjkobbpebnkimaaGreatDoorIv
namespace Go.Proofs.YtjkobbpebnkimaaGreatDoor.Tn
set_option maxRecDepth 100000
open Go.RowKit Nm
set_option linter.unusedVariables false

set_option maxHeartbeats 2000000 in
theorem rless_raw (X1 X2 Y1 Y2 N1 N2 D1 D2 : ByteArray) (s : Int) (w : World)
    (E1 : ∀ v : World, Calls Tryz.prog 63 #[.agg #[.string Y1, .string Y2]] v fun e w' => e = .returned (.agg #[.string N1, .string N2]) ∧ Below v.heap.size v w')
    (E2 : ∀ v : World, Calls Tryz.prog 66 #[.agg #[.string X1, .string X2], .agg #[.string N1, .string N2]] v fun e w' => e = .returned (.agg #[.string D1, .string D2]) ∧ Below v.heap.size v w')
    (E3 : ∀ v : World, Calls Tryz.prog 62 #[.string D1] v fun e w' => e = .returned (.int .i64 s) ∧ w' = v) :
    Calls Tryz.prog 41 #[.agg #[.string X1, .string X2], .agg #[.string Y1, .string Y2]] w fun e w' => e = .returned (.bool (decide (s < 0))) ∧ Below w.heap.size w w' := by
  obtain ⟨C, hC⟩ : ∃ C : World → Prop, C = fun v => Below ((w.alloc (.cells #[.string X1, .string X2] 51)).alloc (.cells #[.string Y1, .string Y2] 51)).heap.size ((w.alloc (.cells #[.string X1, .string X2] 51)).alloc (.cells #[.string Y1, .string Y2] 51)) v := ⟨_, rfl⟩
  have c0 : ∀ v, C v → v.cell? ⟨w.heap.size, 0, none⟩ = some (.string X1) := fun v h => by subst hC; exact (own2 h).1 0
  have c1 : ∀ v, C v → v.cell? ⟨w.heap.size, 1, none⟩ = some (.string X2) := fun v h => by subst hC; exact (own2 h).1 1
  have c2 : ∀ v, C v → v.cell? ⟨w.heap.size + 1, 0, none⟩ = some (.string Y1) := fun v h => by subst hC; exact (own2 h).2.1 0
  have c3 : ∀ v, C v → v.cell? ⟨w.heap.size + 1, 1, none⟩ = some (.string Y2) := fun v h => by subst hC; exact (own2 h).2.1 1
  have cB : ∀ v, C v → Below w.heap.size w v := fun v h => by subst hC; exact (own2 h).2.2.2.2
  have cT : ∀ u v, C u → Below u.heap.size u v → C v := fun u v h k => by subst hC; exact h.trans (k.mono h.size)
  have cD : ∀ v, C v → C v.drew := fun v h => by subst hC; exact h.drew
  have cI : C ((w.alloc (.cells #[.string X1, .string X2] 51)).alloc (.cells #[.string Y1, .string Y2] 51)) := by subst hC; exact Below.refl _ _
  clear hC
  go_enter Tryz.func41, Tryz.ntmps41
  go_wp2_with fail
  refine region_calm C (by kernel_rfl) (by kernel_rfl) (cD _ cI) ?_
  clear cI
  refine wpQuiet_step (fun K hK => ?_)
  go_simp
  refine ⟨.agg #[.string X1, .string X2], fun v hv => ?_, hK _ ?_⟩
  · simp [c0 v hv, c1 v hv]
  clear hK K
  refine wpQuiet_step (fun K hK => ?_)
  go_simp
  refine ⟨.agg #[.string Y1, .string Y2], fun v hv => ?_, hK _ ?_⟩
  · simp [c2 v hv, c3 v hv]
  clear hK K
  refine wpQuiet_step (fun K hK => ?_)
  go_simp
  refine ⟨.agg #[.string N1, .string N2], fun v hv => ?_, hK _ ?_⟩
  · exact calm_call cT hv (E1 v)
  clear hK K
  refine wpQuiet_step (fun K hK => ?_)
  go_simp
  refine ⟨.agg #[.string D1, .string D2], fun v hv => ?_, hK _ ?_⟩
  · exact calm_call cT hv (E2 v)
  clear hK K
  refine wpQuiet_step (fun K hK => ?_)
  go_simp
  refine ⟨.string D1, fun v hv => ?_, hK _ ?_⟩
  · have e : (Instr.field 51 (.agg #[.string D1, .string D2]) 0).run Tryz.prog v = .ok (.string D1) v := by kernel_rfl
    rw [e]; exact ⟨rfl, rfl⟩
  clear hK K
  refine wpQuiet_step (fun K hK => ?_)
  go_simp
  refine ⟨.int .i64 s, fun v hv => ?_, hK _ ?_⟩
  · exact calm_call cT hv (calm_same (E3 v))
  clear hK K
  refine wpQuiet_step (fun K hK => ?_)
  go_simp
  refine ⟨_, fun v hv => rfl, hK _ ?_⟩
  clear hK K
  refine wpQuiet_step (fun K hK => ?_)
  go_simp
  refine ⟨_, fun v hv => rfl, hK _ ?_⟩
  clear hK K
  refine wpQuiet_nil ?_
  intro w1 C1
  have H1 : Hid _ := cB _ C1
  clear C1
  go_wp2
  go_ret
  exact ⟨rfl, H1.out⟩
theorem rless_R (a b : Rat) (n m : Nat) (w : World) (ha : Bd a n) (hb : Bd b m) (h : 2 * (n + m) ≤ 20000) :
    Calls Tryz.prog 41 #[fr a, fr b] w fun e w' => e = .returned (.bool (decide (a < b))) ∧ Below w.heap.size w w' := by
  have e : a + -b = a - b := by grind
  have hd : Bd (a + -b) (2 * (n + m)) := ha.add hb.neg
  have k := rless_raw (W a.num) (S a.den) (W b.num) (S b.den) (W (-b).num) (S (-b).den) (W (a + -b).num) (S (a + -b).den) (a + -b).num.sign w
    (fun v => rneg_R b v (hb.mono (by omega))) (fun v => radd_R a (-b) n m v ha hb.neg h) (fun v => refSign_W (a + -b).num v (by have := hd.1; omega))
  rw [e, sgr_sign] at k
  have e2 : decide (sgr a b < 0) = decide (a < b) := by
    rcases sgr_cases a b with ⟨h, e⟩ | ⟨h, e⟩
    · rw [e, decide_eq_true h]; rfl
    · rw [decide_eq_false h, decide_eq_false (by omega)]
  rw [e2] at k
  exact k
abbrev nRelu : ByteArray := ⟨#[114, 101, 108, 117]⟩
abbrev nAbs : ByteArray := ⟨#[97, 98, 115]⟩
abbrev nStep : ByteArray := ⟨#[115, 116, 101, 112]⟩
abbrev nSign : ByteArray := ⟨#[115, 105, 103, 110]⟩
set_option maxHeartbeats 2000000 in
theorem one_relu_m (X1 X2 N1 N2 : ByteArray) (w : World) (E3 : ∀ v : World, Calls Tryz.prog 62 #[.string X1] v fun e w' => e = .returned (.int .i64 (-1)) ∧ w' = v) :
    Calls Tryz.prog 35 #[.string nRelu, .agg #[.string X1, .string X2]] w fun e w' => e = .returned (.agg #[.string ⟨#[48]⟩, .string ⟨#[49]⟩]) ∧ Below w.heap.size w w' := by
  go_enter Tryz.func35, Tryz.ntmps35
  go_wp2_with fail
  refine (E3 _).mono ?_
  rintro e w1 ⟨rfl, rfl⟩
  go_wp2
  refine bodyPost_ret (v := .agg #[.string ⟨#[48]⟩, .string ⟨#[49]⟩]) (by simp [results, Tryz.results35, go_sem]) rfl ⟨rfl, ?_⟩
  repeat' (first | exact Below.refl _ _ | apply bl_alloc | apply bl_drew | (refine bl_set ?_ (by simp) _))
set_option maxHeartbeats 2000000 in
theorem one_relu_z (X1 X2 N1 N2 : ByteArray) (w : World) (E3 : ∀ v : World, Calls Tryz.prog 62 #[.string X1] v fun e w' => e = .returned (.int .i64 (0)) ∧ w' = v) :
    Calls Tryz.prog 35 #[.string nRelu, .agg #[.string X1, .string X2]] w fun e w' => e = .returned (.agg #[.string ⟨#[48]⟩, .string ⟨#[49]⟩]) ∧ Below w.heap.size w w' := by
  go_enter Tryz.func35, Tryz.ntmps35
  go_wp2_with fail
  refine (E3 _).mono ?_
  rintro e w1 ⟨rfl, rfl⟩
  go_wp2
  refine bodyPost_ret (v := .agg #[.string ⟨#[48]⟩, .string ⟨#[49]⟩]) (by simp [results, Tryz.results35, go_sem]) rfl ⟨rfl, ?_⟩
  repeat' (first | exact Below.refl _ _ | apply bl_alloc | apply bl_drew | (refine bl_set ?_ (by simp) _))
set_option maxHeartbeats 2000000 in
theorem one_relu_p (X1 X2 N1 N2 : ByteArray) (w : World) (E3 : ∀ v : World, Calls Tryz.prog 62 #[.string X1] v fun e w' => e = .returned (.int .i64 (1)) ∧ w' = v) :
    Calls Tryz.prog 35 #[.string nRelu, .agg #[.string X1, .string X2]] w fun e w' => e = .returned (.agg #[.string X1, .string X2]) ∧ Below w.heap.size w w' := by
  go_enter Tryz.func35, Tryz.ntmps35
  go_wp2_with fail
  refine (E3 _).mono ?_
  rintro e w1 ⟨rfl, rfl⟩
  go_wp2
  refine bodyPost_ret (v := .agg #[.string X1, .string X2]) (by simp [results, Tryz.results35, go_sem]) rfl ⟨rfl, ?_⟩
  repeat' (first | exact Below.refl _ _ | apply bl_alloc | apply bl_drew | (refine bl_set ?_ (by simp) _))
set_option maxHeartbeats 2000000 in
theorem one_abs_m (X1 X2 N1 N2 : ByteArray) (w : World) (E3 : ∀ v : World, Calls Tryz.prog 62 #[.string X1] v fun e w' => e = .returned (.int .i64 (-1)) ∧ w' = v)
    (E1 : ∀ v : World, Calls Tryz.prog 63 #[.agg #[.string X1, .string X2]] v fun e w' => e = .returned (.agg #[.string N1, .string N2]) ∧ Below v.heap.size v w') :
    Calls Tryz.prog 35 #[.string nAbs, .agg #[.string X1, .string X2]] w fun e w' => e = .returned (.agg #[.string N1, .string N2]) ∧ Below w.heap.size w w' := by
  go_enter Tryz.func35, Tryz.ntmps35
  go_wp2_with fail
  refine (E3 _).mono ?_
  rintro e w1 ⟨rfl, rfl⟩
  go_wp2_with fail
  refine (E1 _).mono ?_
  rintro e w2 ⟨rfl, hb⟩
  have q : w2.heap[w.heap.size + 1]? = some (.cells #[.string ⟨#[]⟩, .string ⟨#[]⟩] 51 (0, 0)) := (hb.block _ (by simp <;> omega)).trans (four_blocks rfl).2.1
  have x0 : w2.cell? ⟨w.heap.size + 1, 0, none⟩ = some (.string ⟨#[]⟩) := by simp [World.cell?, q]
  have x1 : w2.cell? ⟨w.heap.size + 1, 1, none⟩ = some (.string ⟨#[]⟩) := by simp [World.cell?, q]
  have f0 : w2.frozen? ⟨w.heap.size + 1, 0, none⟩ = false := by simp [World.frozen?, q]
  have f1 : w2.frozen? ⟨w.heap.size + 1, 1, none⟩ = false := by simp [World.frozen?, q]
  have HB : Hid (Below w.heap.size w w2) := by
    refine bl_trans ?_ hb
    repeat' (first | exact Below.refl _ _ | apply bl_alloc | apply bl_drew | (refine bl_set ?_ (by simp) _))
  have HX : Hid _ := And.intro x0 x1
  clear hb q E1 E3
  go_wp2
  refine bodyPost_ret (v := .agg #[.string N1, .string N2]) (by simp [results, Tryz.results35, go_sem, (two_set HX.out.1 HX.out.2 _ _).1, (two_set HX.out.1 HX.out.2 _ _).2]) rfl ⟨rfl, ?_⟩
  exact bl_set (bl_set HB.out (by simp) _) (by simp) _
set_option maxHeartbeats 2000000 in
theorem one_abs_z (X1 X2 N1 N2 : ByteArray) (w : World) (E3 : ∀ v : World, Calls Tryz.prog 62 #[.string X1] v fun e w' => e = .returned (.int .i64 (0)) ∧ w' = v) :
    Calls Tryz.prog 35 #[.string nAbs, .agg #[.string X1, .string X2]] w fun e w' => e = .returned (.agg #[.string X1, .string X2]) ∧ Below w.heap.size w w' := by
  go_enter Tryz.func35, Tryz.ntmps35
  go_wp2_with fail
  refine (E3 _).mono ?_
  rintro e w1 ⟨rfl, rfl⟩
  go_wp2
  refine bodyPost_ret (v := .agg #[.string X1, .string X2]) (by simp [results, Tryz.results35, go_sem]) rfl ⟨rfl, ?_⟩
  repeat' (first | exact Below.refl _ _ | apply bl_alloc | apply bl_drew | (refine bl_set ?_ (by simp) _))
set_option maxHeartbeats 2000000 in
theorem one_abs_p (X1 X2 N1 N2 : ByteArray) (w : World) (E3 : ∀ v : World, Calls Tryz.prog 62 #[.string X1] v fun e w' => e = .returned (.int .i64 (1)) ∧ w' = v) :
    Calls Tryz.prog 35 #[.string nAbs, .agg #[.string X1, .string X2]] w fun e w' => e = .returned (.agg #[.string X1, .string X2]) ∧ Below w.heap.size w w' := by
  go_enter Tryz.func35, Tryz.ntmps35
  go_wp2_with fail
  refine (E3 _).mono ?_
  rintro e w1 ⟨rfl, rfl⟩
  go_wp2
  refine bodyPost_ret (v := .agg #[.string X1, .string X2]) (by simp [results, Tryz.results35, go_sem]) rfl ⟨rfl, ?_⟩
  repeat' (first | exact Below.refl _ _ | apply bl_alloc | apply bl_drew | (refine bl_set ?_ (by simp) _))
set_option maxHeartbeats 2000000 in
theorem one_step_m (X1 X2 N1 N2 : ByteArray) (w : World) (E3 : ∀ v : World, Calls Tryz.prog 62 #[.string X1] v fun e w' => e = .returned (.int .i64 (-1)) ∧ w' = v) :
    Calls Tryz.prog 35 #[.string nStep, .agg #[.string X1, .string X2]] w fun e w' => e = .returned (.agg #[.string ⟨#[48]⟩, .string ⟨#[49]⟩]) ∧ Below w.heap.size w w' := by
  go_enter Tryz.func35, Tryz.ntmps35
  go_wp2_with fail
  refine (E3 _).mono ?_
  rintro e w1 ⟨rfl, rfl⟩
  go_wp2
  refine bodyPost_ret (v := .agg #[.string ⟨#[48]⟩, .string ⟨#[49]⟩]) (by simp [results, Tryz.results35, go_sem]) rfl ⟨rfl, ?_⟩
  repeat' (first | exact Below.refl _ _ | apply bl_alloc | apply bl_drew | (refine bl_set ?_ (by simp) _))
set_option maxHeartbeats 2000000 in
theorem one_step_z (X1 X2 N1 N2 : ByteArray) (w : World) (E3 : ∀ v : World, Calls Tryz.prog 62 #[.string X1] v fun e w' => e = .returned (.int .i64 (0)) ∧ w' = v) :
    Calls Tryz.prog 35 #[.string nStep, .agg #[.string X1, .string X2]] w fun e w' => e = .returned (.agg #[.string ⟨#[48]⟩, .string ⟨#[49]⟩]) ∧ Below w.heap.size w w' := by
  go_enter Tryz.func35, Tryz.ntmps35
  go_wp2_with fail
  refine (E3 _).mono ?_
  rintro e w1 ⟨rfl, rfl⟩
  go_wp2
  refine bodyPost_ret (v := .agg #[.string ⟨#[48]⟩, .string ⟨#[49]⟩]) (by simp [results, Tryz.results35, go_sem]) rfl ⟨rfl, ?_⟩
  repeat' (first | exact Below.refl _ _ | apply bl_alloc | apply bl_drew | (refine bl_set ?_ (by simp) _))
set_option maxHeartbeats 2000000 in
theorem one_step_p (X1 X2 N1 N2 : ByteArray) (w : World) (E3 : ∀ v : World, Calls Tryz.prog 62 #[.string X1] v fun e w' => e = .returned (.int .i64 (1)) ∧ w' = v) :
    Calls Tryz.prog 35 #[.string nStep, .agg #[.string X1, .string X2]] w fun e w' => e = .returned (.agg #[.string ⟨#[49]⟩, .string ⟨#[49]⟩]) ∧ Below w.heap.size w w' := by
  go_enter Tryz.func35, Tryz.ntmps35
  go_wp2_with fail
  refine (E3 _).mono ?_
  rintro e w1 ⟨rfl, rfl⟩
  go_wp2
  refine bodyPost_ret (v := .agg #[.string ⟨#[49]⟩, .string ⟨#[49]⟩]) (by simp [results, Tryz.results35, go_sem]) rfl ⟨rfl, ?_⟩
  repeat' (first | exact Below.refl _ _ | apply bl_alloc | apply bl_drew | (refine bl_set ?_ (by simp) _))
set_option maxHeartbeats 2000000 in
theorem one_sign_m (X1 X2 N1 N2 : ByteArray) (w : World) (E3 : ∀ v : World, Calls Tryz.prog 62 #[.string X1] v fun e w' => e = .returned (.int .i64 (-1)) ∧ w' = v)
    (E1 : ∀ v : World, Calls Tryz.prog 63 #[.agg #[.string ⟨#[49]⟩, .string ⟨#[49]⟩]] v fun e w' => e = .returned (.agg #[.string N1, .string N2]) ∧ Below v.heap.size v w') :
    Calls Tryz.prog 35 #[.string nSign, .agg #[.string X1, .string X2]] w fun e w' => e = .returned (.agg #[.string N1, .string N2]) ∧ Below w.heap.size w w' := by
  go_enter Tryz.func35, Tryz.ntmps35
  go_wp2_with fail
  refine (E3 _).mono ?_
  rintro e w1 ⟨rfl, rfl⟩
  go_wp2_with fail
  refine (E1 _).mono ?_
  rintro e w2 ⟨rfl, hb⟩
  have q : w2.heap[w.heap.size + 1]? = some (.cells #[.string ⟨#[]⟩, .string ⟨#[]⟩] 51 (0, 0)) := (hb.block _ (by simp <;> omega)).trans (four_blocks rfl).2.1
  have x0 : w2.cell? ⟨w.heap.size + 1, 0, none⟩ = some (.string ⟨#[]⟩) := by simp [World.cell?, q]
  have x1 : w2.cell? ⟨w.heap.size + 1, 1, none⟩ = some (.string ⟨#[]⟩) := by simp [World.cell?, q]
  have f0 : w2.frozen? ⟨w.heap.size + 1, 0, none⟩ = false := by simp [World.frozen?, q]
  have f1 : w2.frozen? ⟨w.heap.size + 1, 1, none⟩ = false := by simp [World.frozen?, q]
  have HB : Hid (Below w.heap.size w w2) := by
    refine bl_trans ?_ hb
    repeat' (first | exact Below.refl _ _ | apply bl_alloc | apply bl_drew | (refine bl_set ?_ (by simp) _))
  have HX : Hid _ := And.intro x0 x1
  clear hb q E1 E3
  go_wp2
  refine bodyPost_ret (v := .agg #[.string N1, .string N2]) (by simp [results, Tryz.results35, go_sem, (two_set HX.out.1 HX.out.2 _ _).1, (two_set HX.out.1 HX.out.2 _ _).2]) rfl ⟨rfl, ?_⟩
  exact bl_set (bl_set HB.out (by simp) _) (by simp) _
set_option maxHeartbeats 2000000 in
theorem one_sign_z (X1 X2 N1 N2 : ByteArray) (w : World) (E3 : ∀ v : World, Calls Tryz.prog 62 #[.string X1] v fun e w' => e = .returned (.int .i64 (0)) ∧ w' = v) :
    Calls Tryz.prog 35 #[.string nSign, .agg #[.string X1, .string X2]] w fun e w' => e = .returned (.agg #[.string ⟨#[48]⟩, .string ⟨#[49]⟩]) ∧ Below w.heap.size w w' := by
  go_enter Tryz.func35, Tryz.ntmps35
  go_wp2_with fail
  refine (E3 _).mono ?_
  rintro e w1 ⟨rfl, rfl⟩
  go_wp2
  refine bodyPost_ret (v := .agg #[.string ⟨#[48]⟩, .string ⟨#[49]⟩]) (by simp [results, Tryz.results35, go_sem]) rfl ⟨rfl, ?_⟩
  repeat' (first | exact Below.refl _ _ | apply bl_alloc | apply bl_drew | (refine bl_set ?_ (by simp) _))
set_option maxHeartbeats 2000000 in
theorem one_sign_p (X1 X2 N1 N2 : ByteArray) (w : World) (E3 : ∀ v : World, Calls Tryz.prog 62 #[.string X1] v fun e w' => e = .returned (.int .i64 (1)) ∧ w' = v) :
    Calls Tryz.prog 35 #[.string nSign, .agg #[.string X1, .string X2]] w fun e w' => e = .returned (.agg #[.string ⟨#[49]⟩, .string ⟨#[49]⟩]) ∧ Below w.heap.size w w' := by
  go_enter Tryz.func35, Tryz.ntmps35
  go_wp2_with fail
  refine (E3 _).mono ?_
  rintro e w1 ⟨rfl, rfl⟩
  go_wp2
  refine bodyPost_ret (v := .agg #[.string ⟨#[49]⟩, .string ⟨#[49]⟩]) (by simp [results, Tryz.results35, go_sem]) rfl ⟨rfl, ?_⟩
  repeat' (first | exact Below.refl _ _ | apply bl_alloc | apply bl_drew | (refine bl_set ?_ (by simp) _))
theorem fr0 : fr 0 = .agg #[.string ⟨#[48]⟩, .string ⟨#[49]⟩] := by
  unfold fr
  rw [show W (0 : Rat).num = ⟨#[48]⟩ by decide +kernel, show S (0 : Rat).den = ⟨#[49]⟩ by decide +kernel]
theorem fr1 : fr 1 = .agg #[.string ⟨#[49]⟩, .string ⟨#[49]⟩] := by
  unfold fr
  rw [show W (1 : Rat).num = ⟨#[49]⟩ by decide +kernel, show S (1 : Rat).den = ⟨#[49]⟩ by decide +kernel]
theorem fr1n (v : World) : Calls Tryz.prog 63 #[.agg #[.string ⟨#[49]⟩, .string ⟨#[49]⟩]] v fun e w' => e = .returned (.agg #[.string (W (-1 : Rat).num), .string (S (-1 : Rat).den)]) ∧ Below v.heap.size v w' := by
  rw [← fr1]
  exact rneg_R 1 v (bd1 (by omega))
theorem one_relu (q : Rat) (w : World) (hq : Bd q 20000) : Calls Tryz.prog 35 #[.string nRelu, fr q] w fun e w' => e = .returned (fr (kRelu q)) ∧ Below w.heap.size w w' := by
  have hS := fun v => refSign_W q.num v (by have := hq.1; omega)
  rcases rat_cases q with h | h | h
  · rw [sign_lt h] at hS
    have e : kRelu q = 0 := by unfold kRelu; grind
    rw [e]
    have k := one_relu_m (W q.num) (S q.den) ⟨#[]⟩ ⟨#[]⟩ w hS
    rw [← fr0] at k
    exact k
  · rw [sign_eq h] at hS
    have e : kRelu q = 0 := by unfold kRelu; grind
    rw [e]
    have k := one_relu_z (W q.num) (S q.den) ⟨#[]⟩ ⟨#[]⟩ w hS
    rw [← fr0] at k
    exact k
  · rw [sign_gt h] at hS
    have e : kRelu q = q := by unfold kRelu; grind
    rw [e]
    have k := one_relu_p (W q.num) (S q.den) ⟨#[]⟩ ⟨#[]⟩ w hS
    exact k
theorem one_abs (q : Rat) (w : World) (hq : Bd q 20000) : Calls Tryz.prog 35 #[.string nAbs, fr q] w fun e w' => e = .returned (fr (kAbs q)) ∧ Below w.heap.size w w' := by
  have hS := fun v => refSign_W q.num v (by have := hq.1; omega)
  rcases rat_cases q with h | h | h
  · rw [sign_lt h] at hS
    have e : kAbs q = -q := by unfold kAbs; grind
    rw [e]
    have k := one_abs_m (W q.num) (S q.den) (W (-q).num) (S (-q).den) w hS (fun v => rneg_R q v (hq.mono (by omega)))
    exact k
  · rw [sign_eq h] at hS
    have e : kAbs q = q := by unfold kAbs; grind
    rw [e]
    have k := one_abs_z (W q.num) (S q.den) ⟨#[]⟩ ⟨#[]⟩ w hS
    exact k
  · rw [sign_gt h] at hS
    have e : kAbs q = q := by unfold kAbs; grind
    rw [e]
    have k := one_abs_p (W q.num) (S q.den) ⟨#[]⟩ ⟨#[]⟩ w hS
    exact k
theorem one_step (q : Rat) (w : World) (hq : Bd q 20000) : Calls Tryz.prog 35 #[.string nStep, fr q] w fun e w' => e = .returned (fr (kStep q)) ∧ Below w.heap.size w w' := by
  have hS := fun v => refSign_W q.num v (by have := hq.1; omega)
  rcases rat_cases q with h | h | h
  · rw [sign_lt h] at hS
    have e : kStep q = 0 := by unfold kStep; grind
    rw [e]
    have k := one_step_m (W q.num) (S q.den) ⟨#[]⟩ ⟨#[]⟩ w hS
    rw [← fr0] at k
    exact k
  · rw [sign_eq h] at hS
    have e : kStep q = 0 := by unfold kStep; grind
    rw [e]
    have k := one_step_z (W q.num) (S q.den) ⟨#[]⟩ ⟨#[]⟩ w hS
    rw [← fr0] at k
    exact k
  · rw [sign_gt h] at hS
    have e : kStep q = 1 := by unfold kStep; grind
    rw [e]
    have k := one_step_p (W q.num) (S q.den) ⟨#[]⟩ ⟨#[]⟩ w hS
    rw [← fr1] at k
    exact k
theorem one_sign (q : Rat) (w : World) (hq : Bd q 20000) : Calls Tryz.prog 35 #[.string nSign, fr q] w fun e w' => e = .returned (fr (kSign q)) ∧ Below w.heap.size w w' := by
  have hS := fun v => refSign_W q.num v (by have := hq.1; omega)
  rcases rat_cases q with h | h | h
  · rw [sign_lt h] at hS
    have e : kSign q = -1 := by unfold kSign; grind
    rw [e]
    have k := one_sign_m (W q.num) (S q.den) (W (-1 : Rat).num) (S (-1 : Rat).den) w hS (fun v => fr1n v)
    exact k
  · rw [sign_eq h] at hS
    have e : kSign q = 0 := by unfold kSign; grind
    rw [e]
    have k := one_sign_z (W q.num) (S q.den) ⟨#[]⟩ ⟨#[]⟩ w hS
    rw [← fr0] at k
    exact k
  · rw [sign_gt h] at hS
    have e : kSign q = 1 := by unfold kSign; grind
    rw [e]
    have k := one_sign_p (W q.num) (S q.den) ⟨#[]⟩ ⟨#[]⟩ w hS
    rw [← fr1] at k
    exact k
end Go.Proofs.YtjkobbpebnkimaaGreatDoor.Tn
