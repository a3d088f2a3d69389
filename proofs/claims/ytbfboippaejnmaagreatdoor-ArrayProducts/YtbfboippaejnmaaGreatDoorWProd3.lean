/-
  THE WALK OF ArrayProducts, A PRODUCT. Conditions: what the arguments hold.
-/
import Derived.Test.YtbfboippaejnmaaGreatDoorLc
import Derived.Test.YtbfboippaejnmaaGreatDoorTp
import Derived.Test.YtbfboippaejnmaaGreatDoorMp
import Derived.Test.YtbfboippaejnmaaGreatDoorBr
namespace Go.Proofs.YtbfboippaejnmaaGreatDoor.Tn
set_option maxRecDepth 100000
open Go.RowKit Nm
set_option linter.unusedVariables false
/-- what stands while the product is compared with the document's -/
structure Pg (wr : World) (M A1 A2 : Value) (zs : List Int) (N : Nat) (qs : List Rat) (bd : Nat) (L : Array Bool) (v : World) (s145 s146 s147 s148 s149 : Value) : Prop where
  sz : L.size = 5
  bl : Below wr.heap.size wr v
  h0 : on L 0 → s145 = M
  h1 : on L 1 → s146 = A1
  h2 : on L 2 → s147 = A2
  h3 : on L 3 → Nt zs 2 N qs bd v s148
  h4 : on L 4 → s149 = .bool true
section
variable {wr : World} {M A1 A2 : Value} {zs : List Int} {N : Nat} {qs : List Rat} {bd : Nat} {L : Array Bool} {v v' : World} {s145 s146 s147 s148 s149 x : Value}
theorem Nt.below {m : Nat} (h : Nt zs m N qs bd v x) (hb : Below v.heap.size v v') : Nt zs m N qs bd v' x := by
  obtain ⟨a, c, b, d, e, hT⟩ := h
  exact ⟨a, c, b, d, e, hT.below hb⟩
theorem Pg.t0 (h : Pg wr M A1 A2 zs N qs bd L v s145 s146 s147 s148 s149) : Pg wr M A1 A2 zs N qs bd (L.setIfInBounds 0 true) v M s146 s147 s148 s149 :=
  ⟨by simp [h.sz], h.bl, fun _ => rfl, fun g => h.h1 (on_set g (by decide)), fun g => h.h2 (on_set g (by decide)), fun g => h.h3 (on_set g (by decide)), fun g => h.h4 (on_set g (by decide))⟩
theorem Pg.t1 (h : Pg wr M A1 A2 zs N qs bd L v s145 s146 s147 s148 s149) : Pg wr M A1 A2 zs N qs bd (L.setIfInBounds 1 true) v s145 A1 s147 s148 s149 :=
  ⟨by simp [h.sz], h.bl, fun g => h.h0 (on_set g (by decide)), fun _ => rfl, fun g => h.h2 (on_set g (by decide)), fun g => h.h3 (on_set g (by decide)), fun g => h.h4 (on_set g (by decide))⟩
theorem Pg.t2 (h : Pg wr M A1 A2 zs N qs bd L v s145 s146 s147 s148 s149) : Pg wr M A1 A2 zs N qs bd (L.setIfInBounds 2 true) v s145 s146 A2 s148 s149 :=
  ⟨by simp [h.sz], h.bl, fun g => h.h0 (on_set g (by decide)), fun g => h.h1 (on_set g (by decide)), fun _ => rfl, fun g => h.h3 (on_set g (by decide)), fun g => h.h4 (on_set g (by decide))⟩
theorem Pg.t3 (h : Pg wr M A1 A2 zs N qs bd L v s145 s146 s147 s148 s149) (hx : Nt zs 2 N qs bd v' x) (hb : Below v.heap.size v v') : Pg wr M A1 A2 zs N qs bd (L.setIfInBounds 3 true) v' s145 s146 s147 x s149 :=
  ⟨by simp [h.sz], bl_trans h.bl hb, fun g => h.h0 (on_set g (by decide)), fun g => h.h1 (on_set g (by decide)), fun g => h.h2 (on_set g (by decide)), fun _ => hx, fun g => h.h4 (on_set g (by decide))⟩
theorem Pg.t4 (h : Pg wr M A1 A2 zs N qs bd L v s145 s146 s147 s148 s149) (hb : Below v.heap.size v v') : Pg wr M A1 A2 zs N qs bd (L.setIfInBounds 4 true) v' s145 s146 s147 s148 (.bool true) :=
  ⟨by simp [h.sz], bl_trans h.bl hb, fun g => h.h0 (on_set g (by decide)), fun g => h.h1 (on_set g (by decide)), fun g => h.h2 (on_set g (by decide)), fun g => (h.h3 (on_set g (by decide))).below hb, fun _ => rfl⟩
end

set_option maxHeartbeats 4000000 in
theorem prod_good (x y g f x2 y2 : Nat) (b2 : Option Addr) (c1 d1 n1 c2 d2 n2 : Nat) (p q s N : Nat) (qs rs : List Rat) (aF aZ : Addr) (w : World) (hE : Er w aF aZ)
    (hS1 : ∀ v, Below w.heap.size w v → Calls Tryz.prog 12 #[.agg #[.slice (some ⟨x, y, none⟩) 2 c1, .slice (some ⟨g, f, none⟩) n1 d1]] v fun e w' => e = .returned (.bool true) ∧ Below v.heap.size v w')
    (hS2 : ∀ v, Below w.heap.size w v → Calls Tryz.prog 12 #[.agg #[.slice (some ⟨x2, y2, none⟩) 2 c2, .slice b2 n2 d2]] v fun e w' => e = .returned (.bool true) ∧ Below v.heap.size v w')
    (hR1 : ∀ v, Below w.heap.size w v → Calls Tryz.prog 16 #[.agg #[.slice (some ⟨x, y, none⟩) 2 c1, .slice (some ⟨g, f, none⟩) n1 d1]] v fun e w' => e = .returned (.bool true) ∧ Below v.heap.size v w')
    (hR2 : ∀ v, Below w.heap.size w v → Calls Tryz.prog 16 #[.agg #[.slice (some ⟨x2, y2, none⟩) 2 c2, .slice b2 n2 d2]] v fun e w' => e = .returned (.bool true) ∧ Below v.heap.size v w')
    (hT : Tt w 0 (some ⟨x, y, none⟩) (some ⟨g, f, none⟩) [(p : Int), (q : Int)] 2 n1 qs 40)
    (x0 : w.cell? ⟨x, y, none⟩ = some (.int .i64 (p : Int))) (x1 : w.cell? ⟨x, y + 1, none⟩ = some (.int .i64 (q : Int)))
    (hT2 : Tt w 0 (some ⟨x2, y2, none⟩) b2 [(q : Int), (s : Int)] 2 n2 rs 40) (y0 : w.cell? ⟨x2, y2, none⟩ = some (.int .i64 (q : Int))) (y1 : w.cell? ⟨x2, y2 + 1, none⟩ = some (.int .i64 (s : Int))) (hps : p * s ≤ 64) (hN : p * s = N) :
    Calls Tryz.prog 3 #[.agg #[.slice (some ⟨x, y, none⟩) 2 c1, .slice (some ⟨g, f, none⟩) n1 d1], .agg #[.slice (some ⟨x2, y2, none⟩) 2 c2, .slice b2 n2 d2]] w fun e w' => e = .returned (.bool true) ∧ Below w.heap.size w w' := by
  have HE : Hid _ := hE
  clear hE
  have HB : Hid (Below w.heap.size w w) := Below.refl _ _
  have HTa0 : Hid _ := hT
  have HTb0 : Hid _ := hT2
  have X0 : Hid (∀ v, Below w.heap.size w v → v.cell? ⟨x, y, none⟩ = some (.int .i64 (p : Int)) ∧ v.cell? ⟨x, y + 1, none⟩ = some (.int .i64 (q : Int))) := fun v hv => ⟨cell_below hv x0, cell_below hv x1⟩
  have Y0 : Hid (∀ v, Below w.heap.size w v → v.cell? ⟨x2, y2, none⟩ = some (.int .i64 (q : Int)) ∧ v.cell? ⟨x2, y2 + 1, none⟩ = some (.int .i64 (s : Int))) := fun v hv => ⟨cell_below hv y0, cell_below hv y1⟩
  have hq64 := (two_le ⟨hT.two.2.2.1, hT.two.2.2.2.1, hT.two.2.2.2.2⟩).2
  have HPS : Hid (p * s ≤ 64) := hps
  have HN : Hid (p * s = N) := hN
  clear hT hT2 x0 x1 y0 y1 hps hN
  have HTa : Hid _ := HTa0.out
  have HTb : Hid _ := HTb0.out
  have hu := bl_alloc (Below.refl w.heap.size w) (.cells #[.slice (some ⟨x, y, none⟩) 2 c1, .slice (some ⟨g, f, none⟩) n1 d1] 25)
  replace HB : Hid _ := bl_trans HB.out hu
  replace HTa : Hid _ := HTa.out.below hu
  replace HTb : Hid _ := HTb.out.below hu
  clear hu
  have K10 : (w.alloc (.cells #[.slice (some ⟨x, y, none⟩) 2 c1, .slice (some ⟨g, f, none⟩) n1 d1] 25)).cell? ⟨w.heap.size, 0, none⟩ = some (.slice (some ⟨x, y, none⟩) 2 c1) := by first | rw [World.cell?_alloc_at _ _ _ _ (by simp)]; rfl | simp
  have K11 : (w.alloc (.cells #[.slice (some ⟨x, y, none⟩) 2 c1, .slice (some ⟨g, f, none⟩) n1 d1] 25)).cell? ⟨w.heap.size, 1, none⟩ = some (.slice (some ⟨g, f, none⟩) n1 d1) := by first | rw [World.cell?_alloc_at _ _ _ _ (by simp)]; rfl | simp
  have hu := bl_alloc (Below.refl (w.alloc (.cells #[.slice (some ⟨x, y, none⟩) 2 c1, .slice (some ⟨g, f, none⟩) n1 d1] 25)).heap.size (w.alloc (.cells #[.slice (some ⟨x, y, none⟩) 2 c1, .slice (some ⟨g, f, none⟩) n1 d1] 25))) (.cells #[.slice (some ⟨x2, y2, none⟩) 2 c2, .slice b2 n2 d2] 25)
  replace HB : Hid _ := bl_trans HB.out hu
  replace HTa : Hid _ := HTa.out.below hu
  replace HTb : Hid _ := HTb.out.below hu
  replace K10 := cell_below hu K10
  replace K11 := cell_below hu K11
  clear hu
  have K20 : ((w.alloc (.cells #[.slice (some ⟨x, y, none⟩) 2 c1, .slice (some ⟨g, f, none⟩) n1 d1] 25)).alloc (.cells #[.slice (some ⟨x2, y2, none⟩) 2 c2, .slice b2 n2 d2] 25)).cell? ⟨w.heap.size + 1, 0, none⟩ = some (.slice (some ⟨x2, y2, none⟩) 2 c2) := by first | rw [World.cell?_alloc_at _ _ _ _ (by simp)]; rfl | simp
  have K21 : ((w.alloc (.cells #[.slice (some ⟨x, y, none⟩) 2 c1, .slice (some ⟨g, f, none⟩) n1 d1] 25)).alloc (.cells #[.slice (some ⟨x2, y2, none⟩) 2 c2, .slice b2 n2 d2] 25)).cell? ⟨w.heap.size + 1, 1, none⟩ = some (.slice b2 n2 d2) := by first | rw [World.cell?_alloc_at _ _ _ _ (by simp)]; rfl | simp
  go_enter Tryz.func3, Tryz.ntmps3
  go_wp2_with fail
  refine (hS1 _ HB.out).mono ?_
  rintro e w1 ⟨rfl, hb⟩
  have hu := hb
  replace HB : Hid _ := bl_trans HB.out hu
  replace HTa : Hid _ := HTa.out.below hu
  replace HTb : Hid _ := HTb.out.below hu
  replace K10 := cell_below hu K10
  replace K11 := cell_below hu K11
  replace K20 := cell_below hu K20
  replace K21 := cell_below hu K21
  clear hu
  clear hb
  go_wp2_with fail
  refine (hS2 _ HB.out).mono ?_
  rintro e w2 ⟨rfl, hb⟩
  have hu := hb
  replace HB : Hid _ := bl_trans HB.out hu
  replace HTa : Hid _ := HTa.out.below hu
  replace HTb : Hid _ := HTb.out.below hu
  replace K10 := cell_below hu K10
  replace K11 := cell_below hu K11
  replace K20 := cell_below hu K20
  replace K21 := cell_below hu K21
  clear hu
  clear hb
  go_wp2_with fail
  refine (zmm c1 d1 c2 d2 (HE.out.below HB.out) HTa.out HTb.out HPS.out HN.out (by omega)).mono ?_
  rintro e w3 ⟨a3', c3', b3', d3', rfl, hT, hb⟩
  have hu := bl_alloc hb (.cells #[.slice a3' 2 c3', .slice b3' N d3'] 25)
  replace HB : Hid _ := bl_trans HB.out hu
  replace HTa : Hid _ := HTa.out.below hu
  replace HTb : Hid _ := HTb.out.below hu
  replace K10 := cell_below hu K10
  replace K11 := cell_below hu K11
  replace K20 := cell_below hu K20
  replace K21 := cell_below hu K21
  clear hu
  have HTm : Hid _ := hT.below (bl_alloc (Below.refl w3.heap.size w3) (.cells #[.slice a3' 2 c3', .slice b3' N d3'] 25))
  have Km0 : (w3.alloc (.cells #[.slice a3' 2 c3', .slice b3' N d3'] 25)).cell? ⟨w3.heap.size, 0, none⟩ = some (.slice a3' 2 c3') := by simp
  have Km1 : (w3.alloc (.cells #[.slice a3' 2 c3', .slice b3' N d3'] 25)).cell? ⟨w3.heap.size, 1, none⟩ = some (.slice b3' N d3') := by simp
  clear hb hT
  go_wp2_with fail
  refine (ztr c1 d1 (HE.out.below HB.out) HTa.out (by omega)).mono ?_
  rintro e w4 ⟨a4', c4', b4', d4', rfl, hT, hb⟩
  have hu := bl_alloc hb (.cells #[.slice a4' 2 c4', .slice b4' n1 d4'] 25)
  replace HB : Hid _ := bl_trans HB.out hu
  replace HTa : Hid _ := HTa.out.below hu
  replace HTb : Hid _ := HTb.out.below hu
  replace HTm : Hid _ := HTm.out.below hu
  replace K10 := cell_below hu K10
  replace K11 := cell_below hu K11
  replace K20 := cell_below hu K20
  replace K21 := cell_below hu K21
  replace Km0 := cell_below hu Km0
  replace Km1 := cell_below hu Km1
  clear hu
  have HTt : Hid _ := hT.below (bl_alloc (Below.refl w4.heap.size w4) (.cells #[.slice a4' 2 c4', .slice b4' n1 d4'] 25))
  have Kt0 : (w4.alloc (.cells #[.slice a4' 2 c4', .slice b4' n1 d4'] 25)).cell? ⟨w4.heap.size, 0, none⟩ = some (.slice a4' 2 c4') := by simp
  have Kt1 : (w4.alloc (.cells #[.slice a4' 2 c4', .slice b4' n1 d4'] 25)).cell? ⟨w4.heap.size, 1, none⟩ = some (.slice b4' n1 d4') := by simp
  clear hb hT
  go_wp2_with fail
  obtain ⟨C, hC⟩ : ∃ C : World → Prop, C = fun v => Below (w4.alloc (.cells #[.slice a4' 2 c4', .slice b4' n1 d4'] 25)).heap.size (w4.alloc (.cells #[.slice a4' 2 c4', .slice b4' n1 d4'] 25)) v := ⟨_, rfl⟩
  have e10 : ∀ v, C v → v.cell? ⟨w.heap.size, 0, none⟩ = some (.slice (some ⟨x, y, none⟩) 2 c1) := fun v h => by subst hC; exact cell_below h K10
  have e11 : ∀ v, C v → v.cell? ⟨w.heap.size, 1, none⟩ = some (.slice (some ⟨g, f, none⟩) n1 d1) := fun v h => by subst hC; exact cell_below h K11
  have e20 : ∀ v, C v → v.cell? ⟨w.heap.size + 1, 0, none⟩ = some (.slice (some ⟨x2, y2, none⟩) 2 c2) := fun v h => by subst hC; exact cell_below h K20
  have e21 : ∀ v, C v → v.cell? ⟨w.heap.size + 1, 1, none⟩ = some (.slice b2 n2 d2) := fun v h => by subst hC; exact cell_below h K21
  have cB : ∀ v, C v → Below w.heap.size w v := fun v h => by subst hC; exact bl_trans HB.out h
  have cT : ∀ u v, C u → Below u.heap.size u v → C v := fun u v h k => by subst hC; exact bl_trans h k
  have cI : C (w4.alloc (.cells #[.slice a4' 2 c4', .slice b4' n1 d4'] 25)).drew := by subst hC; exact bl_drew (Below.refl _ _)
  have CC : Hid (∀ v, C v → Below (w4.alloc (.cells #[.slice a4' 2 c4', .slice b4' n1 d4'] 25)).heap.size (w4.alloc (.cells #[.slice a4' 2 c4', .slice b4' n1 d4'] 25)) v) := fun v h => by subst hC; exact h
  clear hC
  refine region_calm C (by kernel_rfl) (by kernel_rfl) cI ?_
  clear cI
  with_reducible refine wpQuiet_step (fun K hK => ?_)
  go_simp
  refine ⟨.agg #[.slice (some ⟨x, y, none⟩) 2 c1, .slice (some ⟨g, f, none⟩) n1 d1], fun v hv => ?_, hK _ ?_⟩
  · simp [e10 v hv, e11 v hv]
  clear hK K
  with_reducible refine wpQuiet_step (fun K hK => ?_)
  go_simp
  refine ⟨.bool true, fun v hv => ?_, hK _ ?_⟩
  · exact calm_call cT hv (hR1 v (cB v hv))
  clear hK K
  with_reducible refine wpQuiet_step (fun K hK => ?_)
  go_simp
  refine ⟨.agg #[.slice (some ⟨x2, y2, none⟩) 2 c2, .slice b2 n2 d2], fun v hv => ?_, hK _ ?_⟩
  · simp [e20 v hv, e21 v hv]
  clear hK K
  with_reducible refine wpQuiet_step (fun K hK => ?_)
  go_simp
  refine ⟨.bool true, fun v hv => ?_, hK _ ?_⟩
  · exact calm_call cT hv (hR2 v (cB v hv))
  clear hK K
  with_reducible refine wpQuiet_step (fun K hK => ?_)
  go_simp
  refine ⟨_, fun v hv => rfl, hK _ ?_⟩
  clear hK K
  with_reducible refine wpQuiet_step (fun K hK => ?_)
  go_simp
  refine ⟨_, fun v hv => rfl, hK _ ?_⟩
  clear hK K
  refine wpQuiet_nil ?_
  intro w5 C1
  have hb := CC.out _ C1
  clear C1 CC cB cT e10 e11 e20 e21
  have hu := hb
  replace HB : Hid _ := bl_trans HB.out hu
  replace HTa : Hid _ := HTa.out.below hu
  replace HTb : Hid _ := HTb.out.below hu
  replace HTm : Hid _ := HTm.out.below hu
  replace HTt : Hid _ := HTt.out.below hu
  replace K10 := cell_below hu K10
  replace K11 := cell_below hu K11
  replace K20 := cell_below hu K20
  replace K21 := cell_below hu K21
  replace Km0 := cell_below hu Km0
  replace Km1 := cell_below hu Km1
  replace Kt0 := cell_below hu Kt0
  replace Kt1 := cell_below hu Kt1
  clear hu
  clear hb
  go_wp2_with fail
  obtain ⟨C, hC⟩ : ∃ C : World → Prop, C = fun v => Below w5.heap.size w5 v := ⟨_, rfl⟩
  have e10 : ∀ v, C v → v.cell? ⟨w.heap.size, 0, none⟩ = some (.slice (some ⟨x, y, none⟩) 2 c1) := fun v h => by subst hC; exact cell_below h K10
  have e11 : ∀ v, C v → v.cell? ⟨w.heap.size, 1, none⟩ = some (.slice (some ⟨g, f, none⟩) n1 d1) := fun v h => by subst hC; exact cell_below h K11
  have et0 : ∀ v, C v → v.cell? ⟨w4.heap.size, 0, none⟩ = some (.slice a4' 2 c4') := fun v h => by subst hC; exact cell_below h Kt0
  have et1 : ∀ v, C v → v.cell? ⟨w4.heap.size, 1, none⟩ = some (.slice b4' n1 d4') := fun v h => by subst hC; exact cell_below h Kt1
  have cB : ∀ v, C v → Below w.heap.size w v := fun v h => by subst hC; exact bl_trans HB.out h
  have cT : ∀ u v, C u → Below u.heap.size u v → C v := fun u v h k => by subst hC; exact bl_trans h k
  have cI : C w5.drew := by subst hC; exact bl_drew (Below.refl _ _)
  have CC : Hid (∀ v, C v → Below w5.heap.size w5 v) := fun v h => by subst hC; exact h
  clear hC
  refine region_bar 35 C (by kernel_rfl) (by kernel_rfl) (by kernel_rfl) cI ?_
  clear cI
  simp only [List.take_succ_cons, List.take_zero]
  with_reducible refine wpQuiet_step (fun K hK => ?_)
  go_simp
  refine ⟨_, fun v hv => rfl, hK _ ?_⟩
  clear hK K
  with_reducible refine wpQuiet_step (fun K hK => ?_)
  go_simp
  refine ⟨_, fun v hv => rfl, hK _ ?_⟩
  clear hK K
  with_reducible refine wpQuiet_step (fun K hK => ?_)
  go_simp
  refine ⟨_, fun v hv => rfl, hK _ ?_⟩
  clear hK K
  with_reducible refine wpQuiet_step (fun K hK => ?_)
  go_simp
  refine hK _ ?_
  clear hK K
  with_reducible refine wpQuiet_step (fun K hK => ?_)
  go_simp
  refine hK _ ?_
  clear hK K
  with_reducible refine wpQuiet_step (fun K hK => ?_)
  go_simp
  refine hK _ ?_
  clear hK K
  with_reducible refine wpQuiet_step (fun K hK => ?_)
  go_simp
  refine hK _ ?_
  clear hK K
  with_reducible refine wpQuiet_step (fun K hK => ?_)
  go_simp
  refine hK _ ?_
  clear hK K
  with_reducible refine wpQuiet_step (fun K hK => ?_)
  go_simp
  refine hK _ ?_
  clear hK K
  with_reducible refine wpQuiet_step (fun K hK => ?_)
  go_simp
  refine hK _ ?_
  clear hK K
  with_reducible refine wpQuiet_step (fun K hK => ?_)
  go_simp
  refine hK _ ?_
  clear hK K
  with_reducible refine wpQuiet_step (fun K hK => ?_)
  go_simp
  refine ⟨_, fun v hv => rfl, hK _ ?_⟩
  clear hK K
  with_reducible refine wpQuiet_step (fun K hK => ?_)
  go_simp
  refine ⟨_, fun v hv => rfl, hK _ ?_⟩
  clear hK K
  with_reducible refine wpQuiet_step (fun K hK => ?_)
  go_simp
  refine ⟨_, fun v hv => rfl, hK _ ?_⟩
  clear hK K
  with_reducible refine wpQuiet_step (fun K hK => ?_)
  go_simp
  refine ⟨_, fun v hv => rfl, hK _ ?_⟩
  clear hK K
  with_reducible refine wpQuiet_step (fun K hK => ?_)
  go_simp
  refine ⟨_, fun v hv => rfl, hK _ ?_⟩
  clear hK K
  with_reducible refine wpQuiet_step (fun K hK => ?_)
  go_simp
  refine ⟨_, fun v hv => rfl, hK _ ?_⟩
  clear hK K
  with_reducible refine wpQuiet_step (fun K hK => ?_)
  go_simp
  refine ⟨_, fun v hv => rfl, hK _ ?_⟩
  clear hK K
  with_reducible refine wpQuiet_step (fun K hK => ?_)
  go_simp
  refine ⟨_, fun v hv => rfl, hK _ ?_⟩
  clear hK K
  with_reducible refine wpQuiet_step (fun K hK => ?_)
  go_simp
  refine hK _ ?_
  clear hK K
  with_reducible refine wpQuiet_step (fun K hK => ?_)
  go_simp
  refine hK _ ?_
  clear hK K
  with_reducible refine wpQuiet_step (fun K hK => ?_)
  go_simp
  refine hK _ ?_
  clear hK K
  with_reducible refine wpQuiet_step (fun K hK => ?_)
  go_simp
  refine hK _ ?_
  clear hK K
  with_reducible refine wpQuiet_step (fun K hK => ?_)
  go_simp
  refine hK _ ?_
  clear hK K
  with_reducible refine wpQuiet_step (fun K hK => ?_)
  go_simp
  refine hK _ ?_
  clear hK K
  with_reducible refine wpQuiet_step (fun K hK => ?_)
  go_simp
  refine hK _ ?_
  clear hK K
  with_reducible refine wpQuiet_step (fun K hK => ?_)
  go_simp
  refine hK _ ?_
  clear hK K
  with_reducible refine wpQuiet_step (fun K hK => ?_)
  go_simp
  refine ⟨_, fun v hv => rfl, hK _ ?_⟩
  clear hK K
  with_reducible refine wpQuiet_step (fun K hK => ?_)
  go_simp
  refine ⟨_, fun v hv => rfl, hK _ ?_⟩
  clear hK K
  with_reducible refine wpQuiet_step (fun K hK => ?_)
  go_simp
  refine ⟨_, fun v hv => rfl, hK _ ?_⟩
  clear hK K
  with_reducible refine wpQuiet_step (fun K hK => ?_)
  go_simp
  refine ⟨_, fun v hv => rfl, hK _ ?_⟩
  clear hK K
  with_reducible refine wpQuiet_step (fun K hK => ?_)
  go_simp
  refine ⟨_, fun v hv => rfl, hK _ ?_⟩
  clear hK K
  with_reducible refine wpQuiet_step (fun K hK => ?_)
  go_simp
  refine ⟨_, fun v hv => rfl, hK _ ?_⟩
  clear hK K
  with_reducible refine wpQuiet_step (fun K hK => ?_)
  go_simp
  refine ⟨_, fun v hv => rfl, hK _ ?_⟩
  clear hK K
  with_reducible refine wpQuiet_step (fun K hK => ?_)
  go_simp
  refine ⟨_, fun v hv => rfl, hK _ ?_⟩
  clear hK K
  refine wpQuiet_nil ?_
  intro w6 C1
  have hb := CC.out _ C1
  clear C1 CC cB cT e10 e11 et0 et1
  have hu := hb
  replace HB : Hid _ := bl_trans HB.out hu
  replace HTa : Hid _ := HTa.out.below hu
  replace HTb : Hid _ := HTb.out.below hu
  replace HTm : Hid _ := HTm.out.below hu
  replace HTt : Hid _ := HTt.out.below hu
  replace K10 := cell_below hu K10
  replace K11 := cell_below hu K11
  replace K20 := cell_below hu K20
  replace K21 := cell_below hu K21
  replace Km0 := cell_below hu Km0
  replace Km1 := cell_below hu Km1
  replace Kt0 := cell_below hu Kt0
  replace Kt1 := cell_below hu Kt1
  clear hu
  clear hb

  have hTr := fun (v : World) (hv : Below w6.heap.size w6 v) => rtr_any x y g f c1 d1 n1 p q 40 qs v (HTa.out.below hv) (X0.out v (bl_trans HB.out hv)).1 (X0.out v (bl_trans HB.out hv)).2
  refine any_fork 35 36 37 ((((pad (Array.replicate 35 true) 8).setIfInBounds 35 true).setIfInBounds 36 true).setIfInBounds 37 true) (by kernel_rfl) (by kernel_rfl) (by kernel_rfl) (by kernel_rfl) (by kernel_rfl) (by kernel_rfl) rfl (by kernel_rfl) (by kernel_rfl) (fun K hK => ?_)
  have fin : ∀ (a9 : Option Addr) (c9 : Nat) (b9 : Option Addr) (d9 : Nat) (v : World), Below w6.heap.size w6 v → Tt v 0 a9 b9 [(q : Int), (p : Int)] 2 n1 (tr p q qs) 40 → K ⟨#[Value.agg #[Value.slice (some { block := x, off := y }) 2 c1, Value.slice (some { block := g, off := f }) n1 d1], Value.agg #[Value.slice (some { block := x2, off := y2 }) 2 c2, Value.slice b2 n2 d2], Value.pointer (some { block := w.heap.size, off := 0 }), Value.pointer (some { block := w.heap.size + 1, off := 0 }), Value.bool false, Value.pointer (some { block := w3.heap.size, off := 0 }), .int .i64 0, Value.pointer (some { block := w4.heap.size, off := 0 }), Value.int IntKind.i64 0, Value.bool true, Value.bool true, Value.bool true, Value.agg #[Value.slice (some { block := x, off := y }) 2 c1, Value.slice (some { block := g, off := f }) n1 d1], Value.bool true, Value.bool false, Value.bool false, Value.agg #[Value.slice (some { block := x2, off := y2 }) 2 c2, Value.slice b2 n2 d2], Value.bool true, Value.bool false, Value.bool false, undef, .tuple #[.agg #[.slice a3' 2 c3', .slice b3' N d3'], .int .i64 0], Value.agg #[Value.slice (some { block := x, off := y }) 2 c1, Value.slice (some { block := g, off := f }) n1 d1], Value.agg #[Value.slice (some { block := x2, off := y2 }) 2 c2, Value.slice b2 n2 d2], .tuple #[.agg #[.slice a3' 2 c3', .slice b3' N d3'], .int .i64 0], .agg #[.slice a3' 2 c3', .slice b3' N d3'], .int .i64 0, Value.tuple #[Value.agg #[Value.slice a4' 2 c4', Value.slice b4' n1 d4'], Value.int IntKind.i64 0], Value.agg #[Value.slice (some { block := x, off := y }) 2 c1, Value.slice (some { block := g, off := f }) n1 d1], Value.tuple #[Value.agg #[Value.slice a4' 2 c4', Value.slice b4' n1 d4'], Value.int IntKind.i64 0], Value.agg #[Value.slice a4' 2 c4', Value.slice b4' n1 d4'], Value.int IntKind.i64 0, Value.agg #[Value.slice (some { block := x, off := y }) 2 c1, Value.slice (some { block := g, off := f }) n1 d1], Value.bool true, Value.agg #[Value.slice (some { block := x2, off := y2 }) 2 c2, Value.slice b2 n2 d2], Value.bool true, Value.bool true, Value.bool true, Value.pointer (some { block := w.heap.size, off := 0 }), Value.slice (some { block := x, off := y }) 2 c1, Value.int IntKind.i64 2, Value.bool true, Value.bool true, Value.bool true, Value.bool false, Value.bool false, undef, undef, undef, undef, undef, undef, undef, undef, Value.bool false, Value.bool false, Value.bool true, Value.bool true, Value.bool true, Value.bool false, Value.bool false, Value.bool false, undef, undef, undef, undef, undef, undef, undef, undef, Value.bool false, Value.bool false, Value.bool false, Value.bool true, Value.bool true, Value.int IntKind.i64 0, Value.bool false, Value.bool false, Value.agg #[Value.slice a4' 2 c4', Value.slice b4' n1 d4'], Value.agg #[Value.slice (some { block := x, off := y }) 2 c1, Value.slice (some { block := g, off := f }) n1 d1], (.agg #[.slice a9 2 c9, .slice b9 n1 d9]), undef, undef, undef, undef, undef, undef, undef, undef, undef, undef, undef, undef, undef, undef, undef, undef, undef, undef, undef, undef, undef, undef, undef, undef, undef, undef, undef, undef, undef, undef, undef, undef, undef, undef, undef, undef, undef, undef, undef, undef, undef, undef, undef, undef, undef, undef, undef, undef, undef, undef, undef, undef, undef, undef, undef, undef, undef, undef, undef, undef, undef, undef, undef, undef, undef, undef, undef, undef, undef, undef, undef, undef, undef, undef, undef, undef], []⟩ v := by
    intro a9 c9 b9 d9 v hb h9
    clear hTr
    have HTz : Hid _ := h9
    have hu := hb
    replace HB : Hid _ := bl_trans HB.out hu
    replace HTa : Hid _ := HTa.out.below hu
    replace HTb : Hid _ := HTb.out.below hu
    replace HTm : Hid _ := HTm.out.below hu
    replace HTt : Hid _ := HTt.out.below hu
    replace K10 := cell_below hu K10
    replace K11 := cell_below hu K11
    replace K20 := cell_below hu K20
    replace K21 := cell_below hu K21
    replace Km0 := cell_below hu Km0
    replace Km1 := cell_below hu Km1
    replace Kt0 := cell_below hu Kt0
    replace Kt1 := cell_below hu Kt1
    clear hu
    clear hb h9
    refine hK _ _ ?_
    clear hK K
    refine any_one 38 _ (by kernel_rfl) rfl (fun K hK => ?_)
    go_simp
    refine (zeq c4' d4' c9 d9 HTt.out HTz.out rfl).mono ?_
    rintro e v2 ⟨rfl, hb⟩
    have hu := hb
    replace HB : Hid _ := bl_trans HB.out hu
    replace HTa : Hid _ := HTa.out.below hu
    replace HTb : Hid _ := HTb.out.below hu
    replace HTm : Hid _ := HTm.out.below hu
    replace HTt : Hid _ := HTt.out.below hu
    replace HTz : Hid _ := HTz.out.below hu
    replace K10 := cell_below hu K10
    replace K11 := cell_below hu K11
    replace K20 := cell_below hu K20
    replace K21 := cell_below hu K21
    replace Km0 := cell_below hu Km0
    replace Km1 := cell_below hu Km1
    replace Kt0 := cell_below hu Kt0
    replace Kt1 := cell_below hu Kt1
    clear hu
    clear hb
    refine hK _ _ ?_
    clear hK K
    refine any_one 39 _ (by kernel_rfl) rfl (fun K hK => ?_)
    go_simp
    refine hK _ _ ?_
    clear hK K
    refine any_one 40 _ (by kernel_rfl) rfl (fun K hK => ?_)
    go_simp
    refine hK _ _ ?_
    clear hK K
    refine any_one 41 _ (by kernel_rfl) rfl (fun K hK => ?_)
    go_simp
    refine hK _ _ ?_
    clear hK K
    refine any_one 42 _ (by kernel_rfl) rfl (fun K hK => ?_)
    go_simp
    refine hK _ _ ?_
    clear hK K
    refine any_end (by kernel_rfl) ?_
    obtain ⟨PS, hPS⟩ : ∃ PS, p * s = PS := ⟨_, rfl⟩
    have e5 : IntKind.i64.wrap ((p : Int) * (s : Int)) = (PS : Int) := by
      have := HPS.out
      rw [← Int.natCast_mul, hPS, IntKind.wrap_i64]; omega
    have hle : ¬ 64 < PS := by have := HPS.out; omega
    clear hPS
    have c0 := (X0.out _ HB.out).1
    have c1' := (X0.out _ HB.out).2
    have c2' := (Y0.out _ HB.out).1
    have c3 := (Y0.out _ HB.out).2
    go_wp2_with fail
    obtain ⟨C, hC⟩ : ∃ C : World → Prop, C = fun v => Below v2.heap.size v2 v := ⟨_, rfl⟩
    have e10 : ∀ v, C v → v.cell? ⟨w.heap.size, 0, none⟩ = some (.slice (some ⟨x, y, none⟩) 2 c1) := fun v h => by subst hC; exact cell_below h K10
    have e20 : ∀ v, C v → v.cell? ⟨w.heap.size + 1, 0, none⟩ = some (.slice (some ⟨x2, y2, none⟩) 2 c2) := fun v h => by subst hC; exact cell_below h K20
    have x0 : ∀ v, C v → v.cell? ⟨x, y, none⟩ = some (.int .i64 (p : Int)) := fun v h => by subst hC; exact cell_below h c0
    have x1 : ∀ v, C v → v.cell? ⟨x, y + 1, none⟩ = some (.int .i64 (q : Int)) := fun v h => by subst hC; exact cell_below h c1'
    have y0 : ∀ v, C v → v.cell? ⟨x2, y2, none⟩ = some (.int .i64 (q : Int)) := fun v h => by subst hC; exact cell_below h c2'
    have y1 : ∀ v, C v → v.cell? ⟨x2, y2 + 1, none⟩ = some (.int .i64 (s : Int)) := fun v h => by subst hC; exact cell_below h c3
    have cB : ∀ v, C v → Below w.heap.size w v := fun v h => by subst hC; exact bl_trans HB.out h
    have cT : ∀ u v, C u → Below u.heap.size u v → C v := fun u v h k => by subst hC; exact bl_trans h k
    have cI : C v2.drew := by subst hC; exact bl_drew (Below.refl _ _)
    have CC : Hid (∀ v, C v → Below v2.heap.size v2 v) := fun v h => by subst hC; exact h
    clear hC
    refine region_calm C (by kernel_rfl) (by kernel_rfl) cI ?_
    clear cI
    with_reducible refine wpQuiet_step (fun K hK => ?_)
    go_simp
    refine ⟨_, fun v hv => rfl, hK _ ?_⟩
    clear hK K
    with_reducible refine wpQuiet_step (fun K hK => ?_)
    go_simp
    refine ⟨_, fun v hv => rfl, hK _ ?_⟩
    clear hK K
    with_reducible refine wpQuiet_step (fun K hK => ?_)
    go_simp
    refine ⟨_, fun v hv => rfl, hK _ ?_⟩
    clear hK K
    with_reducible refine wpQuiet_step (fun K hK => ?_)
    go_simp
    refine ⟨_, fun v hv => rfl, hK _ ?_⟩
    clear hK K
    with_reducible refine wpQuiet_step (fun K hK => ?_)
    go_simp
    refine ⟨.slice (some ⟨x2, y2, none⟩) 2 c2, fun v hv => ?_, hK _ ?_⟩
    · simp [e20 v hv]
    clear hK K
    with_reducible refine wpQuiet_step (fun K hK => ?_)
    go_simp
    refine ⟨_, fun v hv => rfl, hK _ ?_⟩
    clear hK K
    with_reducible refine wpQuiet_step (fun K hK => ?_)
    go_simp
    refine ⟨_, fun v hv => rfl, hK _ ?_⟩
    clear hK K
    with_reducible refine wpQuiet_step (fun K hK => ?_)
    go_simp
    refine ⟨_, fun v hv => rfl, hK _ ?_⟩
    clear hK K
    with_reducible refine wpQuiet_step (fun K hK => ?_)
    go_simp
    refine ⟨_, fun v hv => rfl, hK _ ?_⟩
    clear hK K
    with_reducible refine wpQuiet_step (fun K hK => ?_)
    go_simp
    refine ⟨_, fun v hv => rfl, hK _ ?_⟩
    clear hK K
    with_reducible refine wpQuiet_step (fun K hK => ?_)
    go_simp
    refine ⟨.slice (some ⟨x, y, none⟩) 2 c1, fun v hv => ?_, hK _ ?_⟩
    · simp [e10 v hv]
    clear hK K
    with_reducible refine wpQuiet_step (fun K hK => ?_)
    go_simp
    refine ⟨_, fun v hv => rfl, hK _ ?_⟩
    clear hK K
    with_reducible refine wpQuiet_step (fun K hK => ?_)
    go_simp
    refine ⟨.int .i64 (q : Int), fun v hv => ?_, hK _ ?_⟩
    · simp [x1 v hv]
    clear hK K
    with_reducible refine wpQuiet_step (fun K hK => ?_)
    go_simp
    refine ⟨_, fun v hv => rfl, hK _ ?_⟩
    clear hK K
    with_reducible refine wpQuiet_step (fun K hK => ?_)
    go_simp
    refine ⟨.slice (some ⟨x2, y2, none⟩) 2 c2, fun v hv => ?_, hK _ ?_⟩
    · simp [e20 v hv]
    clear hK K
    with_reducible refine wpQuiet_step (fun K hK => ?_)
    go_simp
    refine ⟨_, fun v hv => rfl, hK _ ?_⟩
    clear hK K
    with_reducible refine wpQuiet_step (fun K hK => ?_)
    go_simp
    refine ⟨.int .i64 (q : Int), fun v hv => ?_, hK _ ?_⟩
    · simp [y0 v hv]
    clear hK K
    with_reducible refine wpQuiet_step (fun K hK => ?_)
    go_simp
    refine ⟨_, fun v hv => rfl, hK _ ?_⟩
    clear hK K
    with_reducible refine wpQuiet_step (fun K hK => ?_)
    go_simp
    refine ⟨_, fun v hv => rfl, hK _ ?_⟩
    clear hK K
    with_reducible refine wpQuiet_step (fun K hK => ?_)
    go_simp
    refine ⟨_, fun v hv => rfl, hK _ ?_⟩
    clear hK K
    with_reducible refine wpQuiet_step (fun K hK => ?_)
    go_simp
    refine ⟨_, fun v hv => rfl, hK _ ?_⟩
    clear hK K
    with_reducible refine wpQuiet_step (fun K hK => ?_)
    go_simp
    refine ⟨.slice (some ⟨x, y, none⟩) 2 c1, fun v hv => ?_, hK _ ?_⟩
    · simp [e10 v hv]
    clear hK K
    with_reducible refine wpQuiet_step (fun K hK => ?_)
    go_simp
    refine ⟨_, fun v hv => rfl, hK _ ?_⟩
    clear hK K
    with_reducible refine wpQuiet_step (fun K hK => ?_)
    go_simp
    refine ⟨.int .i64 (p : Int), fun v hv => ?_, hK _ ?_⟩
    · simp [x0 v hv]
    clear hK K
    with_reducible refine wpQuiet_step (fun K hK => ?_)
    go_simp
    refine ⟨_, fun v hv => rfl, hK _ ?_⟩
    clear hK K
    with_reducible refine wpQuiet_step (fun K hK => ?_)
    go_simp
    refine ⟨.slice (some ⟨x2, y2, none⟩) 2 c2, fun v hv => ?_, hK _ ?_⟩
    · simp [e20 v hv]
    clear hK K
    with_reducible refine wpQuiet_step (fun K hK => ?_)
    go_simp
    refine ⟨_, fun v hv => rfl, hK _ ?_⟩
    clear hK K
    with_reducible refine wpQuiet_step (fun K hK => ?_)
    go_simp
    refine ⟨.int .i64 (s : Int), fun v hv => ?_, hK _ ?_⟩
    · simp [y1 v hv]
    clear hK K
    with_reducible refine wpQuiet_step (fun K hK => ?_)
    go_simp
    refine ⟨_, fun v hv => rfl, hK _ ?_⟩
    clear hK K
    with_reducible refine wpQuiet_step (fun K hK => ?_)
    go_simp
    refine ⟨_, fun v hv => rfl, hK _ ?_⟩
    clear hK K
    with_reducible refine wpQuiet_step (fun K hK => ?_)
    go_simp
    refine ⟨_, fun v hv => rfl, hK _ ?_⟩
    clear hK K
    refine wpQuiet_nil ?_
    intro w7 C1
    have hb := CC.out _ C1
    clear C1 CC cB cT e10 e20 x0 x1 y0 y1
    have hu := hb
    replace HB : Hid _ := bl_trans HB.out hu
    replace HTa : Hid _ := HTa.out.below hu
    replace HTb : Hid _ := HTb.out.below hu
    replace HTm : Hid _ := HTm.out.below hu
    replace HTt : Hid _ := HTt.out.below hu
    replace HTz : Hid _ := HTz.out.below hu
    replace K10 := cell_below hu K10
    replace K11 := cell_below hu K11
    replace K20 := cell_below hu K20
    replace K21 := cell_below hu K21
    replace Km0 := cell_below hu Km0
    replace Km1 := cell_below hu Km1
    replace Kt0 := cell_below hu Kt0
    replace Kt1 := cell_below hu Kt1
    clear hu
    clear hb
    clear c0 c1' c2' c3 e5
    have hMM := fun (v : World) (hv : Below w7.heap.size w7 v) => rmm_any x y x2 y2 (some ⟨g, f, none⟩) b2 c1 d1 n1 c2 d2 n2 p q s qs rs v (HTa.out.below hv) (HTb.out.below hv) HPS.out (X0.out v (bl_trans HB.out hv)).1 (X0.out v (bl_trans HB.out hv)).2 (Y0.out v (bl_trans HB.out hv)).2
    rw [HN.out] at hMM
    go_upto_region 13 with fail
    
    replace hMM := fun (v : World) (hv : Below w7.heap.size w7 v) => hMM v hv
    refine region_bar_inv 5 (by kernel_rfl) (by kernel_rfl) (fun L a v => ∃ s145 s146 s147 s148 s149, a = ⟨#[Value.agg #[Value.slice (some { block := x, off := y }) 2 c1, Value.slice (some { block := g, off := f }) n1 d1], Value.agg #[Value.slice (some { block := x2, off := y2 }) 2 c2, Value.slice b2 n2 d2], Value.pointer (some { block := w.heap.size, off := 0 }), Value.pointer (some { block := w.heap.size + 1, off := 0 }), Value.bool false, Value.pointer (some { block := w3.heap.size, off := 0 }), Value.int IntKind.i64 0, Value.pointer (some { block := w4.heap.size, off := 0 }), Value.int IntKind.i64 0, Value.bool true, Value.bool true, Value.bool true, Value.agg #[Value.slice (some { block := x, off := y }) 2 c1, Value.slice (some { block := g, off := f }) n1 d1], Value.bool true, Value.bool false, Value.bool false, Value.agg #[Value.slice (some { block := x2, off := y2 }) 2 c2, Value.slice b2 n2 d2], Value.bool true, Value.bool false, Value.bool false, undef, Value.tuple #[Value.agg #[Value.slice a3' 2 c3', Value.slice b3' N d3'], Value.int IntKind.i64 0], Value.agg #[Value.slice (some { block := x, off := y }) 2 c1, Value.slice (some { block := g, off := f }) n1 d1], Value.agg #[Value.slice (some { block := x2, off := y2 }) 2 c2, Value.slice b2 n2 d2], Value.tuple #[Value.agg #[Value.slice a3' 2 c3', Value.slice b3' N d3'], Value.int IntKind.i64 0], Value.agg #[Value.slice a3' 2 c3', Value.slice b3' N d3'], Value.int IntKind.i64 0, Value.tuple #[Value.agg #[Value.slice a4' 2 c4', Value.slice b4' n1 d4'], Value.int IntKind.i64 0], Value.agg #[Value.slice (some { block := x, off := y }) 2 c1, Value.slice (some { block := g, off := f }) n1 d1], Value.tuple #[Value.agg #[Value.slice a4' 2 c4', Value.slice b4' n1 d4'], Value.int IntKind.i64 0], Value.agg #[Value.slice a4' 2 c4', Value.slice b4' n1 d4'], Value.int IntKind.i64 0, Value.agg #[Value.slice (some { block := x, off := y }) 2 c1, Value.slice (some { block := g, off := f }) n1 d1], Value.bool true, Value.agg #[Value.slice (some { block := x2, off := y2 }) 2 c2, Value.slice b2 n2 d2], Value.bool true, Value.bool true, Value.bool true, Value.pointer (some { block := w.heap.size, off := 0 }), Value.slice (some { block := x, off := y }) 2 c1, Value.int IntKind.i64 2, Value.bool true, Value.bool true, Value.bool true, Value.bool false, Value.bool false, undef, undef, undef, undef, undef, undef, undef, undef, Value.bool false, Value.bool false, Value.bool true, Value.bool true, Value.bool true, Value.bool false, Value.bool false, Value.bool false, undef, undef, undef, undef, undef, undef, undef, undef, Value.bool false, Value.bool false, Value.bool false, Value.bool true, Value.bool true, Value.int IntKind.i64 0, Value.bool false, Value.bool false, Value.agg #[Value.slice a4' 2 c4', Value.slice b4' n1 d4'], Value.agg #[Value.slice (some { block := x, off := y }) 2 c1, Value.slice (some { block := g, off := f }) n1 d1], Value.agg #[Value.slice a9 2 c9, Value.slice b9 n1 d9], Value.bool true, Value.bool false, Value.bool false, Value.bool false, Value.bool false, Value.bool true, Value.bool false, Value.bool false, Value.bool true, Value.bool false, Value.bool false, undef, undef, undef, undef, undef, undef, undef, undef, undef, undef, undef, Value.bool true, Value.bool false, Value.bool false, Value.pointer (some { block := w.heap.size + 1, off := 0 }), Value.slice (some { block := x2, off := y2 }) 2 c2, Value.int IntKind.i64 2, Value.bool false, Value.bool false, Value.bool false, Value.pointer (some { block := w.heap.size, off := 0 }), Value.slice (some { block := x, off := y }) 2 c1, Value.pointer (some { block := x, off := y + 1 }), Value.int IntKind.i64 (q : Int), Value.pointer (some { block := w.heap.size + 1, off := 0 }), Value.slice (some { block := x2, off := y2 }) 2 c2, Value.pointer (some { block := x2, off := y2 }), Value.int IntKind.i64 (q : Int), Value.bool false, Value.bool false, Value.bool false, Value.pointer (some { block := w.heap.size, off := 0 }), Value.slice (some { block := x, off := y }) 2 c1, Value.pointer (some { block := x, off := y }), Value.int IntKind.i64 (p : Int), Value.pointer (some { block := w.heap.size + 1, off := 0 }), Value.slice (some { block := x2, off := y2 }) 2 c2, Value.pointer (some { block := x2, off := y2 + 1 }), Value.int IntKind.i64 (s : Int), Value.int IntKind.i64 (PS : Int), Value.bool (decide ((64 : Int) < (PS : Int))), Value.bool (decide ((64 : Int) < (PS : Int))), undef, undef, undef, undef, undef, undef, undef, undef, undef, undef, undef, s145, s146, s147, s148, s149, undef, undef, undef, undef, undef, undef, undef], []⟩ ∧ Pg w7 (.agg #[.slice a3' 2 c3', .slice b3' N d3']) (.agg #[.slice (some ⟨x, y, none⟩) 2 c1, .slice (some ⟨g, f, none⟩) n1 d1]) (.agg #[.slice (some ⟨x2, y2, none⟩) 2 c2, .slice b2 n2 d2]) [(p : Int), (s : Int)] N (mm p q s qs rs) (q * (40 + 40 + 1) + 1) L v s145 s146 s147 s148 s149) ?_ ?_ ?_
    · exact ⟨_, _, _, _, _, rfl, ⟨by simp, bl_drew (Below.refl _ _), fun g => absurd g (by simp [on]), fun g => absurd g (by simp [on]), fun g => absurd g (by simp [on]), fun g => absurd g (by simp [on]), fun g => absurd g (by simp [on])⟩⟩
    · intro L a v i hL9 hlt hI hrd
      obtain ⟨s145, s146, s147, s148, s149, rfl, hP⟩ := hI
      obtain ⟨hu, o9, ho, haf⟩ := mem_ready.1 hrd
      have ym0 := cell_below hP.bl Km0
      have ym1 := cell_below hP.bl Km1
      have y10 := cell_below hP.bl K10
      have y11 := cell_below hP.bl K11
      have y20 := cell_below hP.bl K20
      have y21 := cell_below hP.bl K21
      rcases (by omega : i = 0 ∨ i = 1 ∨ i = 2 ∨ i = 3 ∨ i = 4) with rfl | rfl | rfl | rfl | rfl
      all_goals (cases ho; replace hu := off_of hu)
      · have hP2 := hP.t0
        refine step_run rfl rfl ?_
        go_simp
        exact ⟨_, _, _, _, _, ⟨rfl, rfl, rfl, rfl, rfl⟩, hP2⟩
      · have hP2 := hP.t1
        refine step_run rfl rfl ?_
        go_simp
        exact ⟨_, _, _, _, _, ⟨rfl, rfl, rfl, rfl, rfl⟩, hP2⟩
      · have hP2 := hP.t2
        refine step_run rfl rfl ?_
        go_simp
        exact ⟨_, _, _, _, _, ⟨rfl, rfl, rfl, rfl, rfl⟩, hP2⟩
      · have g1 := haf { on := 1, ground := .data } (by simp) rfl
        have g2 := haf { on := 2, ground := .data } (by simp) rfl
        have e1 := (hP.h1 g1).symm
        have e2 := (hP.h2 g2).symm
        subst e1 e2
        refine step_run rfl rfl ?_
        go_simp
        refine (hMM _ hP.bl).mono ?_
        rintro e v9 ⟨z, rfl, hz, hb9⟩
        have hP2 := hP.t3 hz hb9
        go_simp
        exact ⟨_, _, _, _, _, ⟨rfl, rfl, rfl, rfl, rfl⟩, hP2⟩
      · have g0 := haf { on := 0, ground := .data } (by simp) rfl
        have g3 := haf { on := 3, ground := .data } (by simp) rfl
        have e0 := (hP.h0 g0).symm
        obtain ⟨a7, c7, b7, d7, e3, h9⟩ := hP.h3 g3
        replace e3 := e3.symm
        subst e0 e3
        refine step_run rfl rfl ?_
        go_simp
        refine (zeq c3' d3' c7 d7 (HTm.out.below hP.bl) h9 rfl).mono ?_
        rintro e v9 ⟨rfl, hb9⟩
        have hP2 := hP.t4 hb9
        go_simp
        exact ⟨_, _, _, _, _, ⟨rfl, rfl, rfl, rfl, rfl⟩, hP2⟩
    intro L a v hon hI
    obtain ⟨s145, s146, s147, s148, s149, rfl, hP⟩ := hI
    have e4 := (hP.h4 (hon 4 (by decide))).symm
    have hb := hP.bl
    clear hP hon hMM
    subst e4
  
    have hu := hb
    replace HB : Hid _ := bl_trans HB.out hu
    replace HTa : Hid _ := HTa.out.below hu
    replace HTb : Hid _ := HTb.out.below hu
    replace HTm : Hid _ := HTm.out.below hu
    replace HTt : Hid _ := HTt.out.below hu
    replace HTz : Hid _ := HTz.out.below hu
    replace K10 := cell_below hu K10
    replace K11 := cell_below hu K11
    replace K20 := cell_below hu K20
    replace K21 := cell_below hu K21
    replace Km0 := cell_below hu Km0
    replace Km1 := cell_below hu Km1
    replace Kt0 := cell_below hu Kt0
    replace Kt1 := cell_below hu Kt1
    clear hu
    clear hb
    refine any_one 5 _ (by kernel_rfl) rfl (fun K hK => ?_)
    go_simp
    refine hK _ _ ?_
    clear hK K
    refine any_one 6 _ (by kernel_rfl) rfl (fun K hK => ?_)
    go_simp
    refine hK _ _ ?_
    clear hK K
    refine any_one 7 _ (by kernel_rfl) rfl (fun K hK => ?_)
    go_simp
    refine hK _ _ ?_
    clear hK K
    refine any_one 8 _ (by kernel_rfl) rfl (fun K hK => ?_)
    go_simp
    refine hK _ _ ?_
    clear hK K
    refine any_one 9 _ (by kernel_rfl) rfl (fun K hK => ?_)
    go_simp
    refine hK _ _ ?_
    clear hK K
    refine any_one 10 _ (by kernel_rfl) rfl (fun K hK => ?_)
    go_simp
    refine (awake_any aF aZ _ (HE.out.below HB.out)).mono ?_
    rintro e v3 ⟨rfl, hb⟩
    replace HB : Hid _ := bl_trans HB.out hb
    clear hb
    refine hK _ _ ?_
    clear hK K
    refine any_one 11 _ (by kernel_rfl) rfl (fun K hK => ?_)
    go_simp
    refine hK _ _ ?_
    clear hK K
    refine any_one 12 _ (by kernel_rfl) rfl (fun K hK => ?_)
    go_simp
    refine hK _ _ ?_
    clear hK K
    refine any_end (by kernel_rfl) ?_
    go_wp2
    go_ret
    exact ⟨rfl, HB.out⟩
  clear hK
  refine ⟨?_, ?_⟩
  · skip
    refine op_step 35 _ rfl (fun K1 hK1 => ?_)
    go_simp
    refine hK1 _ _ ?_
    clear hK1 K1
    refine op_step 36 _ rfl (fun K1 hK1 => ?_)
    go_simp
    refine hK1 _ _ ?_
    clear hK1 K1
    refine op_step 37 _ rfl (fun K1 hK1 => ?_)
    go_simp
    refine (hTr _ (Below.refl _ _)).mono ?_
    rintro e v9 ⟨z, rfl, ⟨a9, c9, b9, d9, rfl, h9⟩, hb9⟩
    refine hK1 _ _ ?_
    clear hK1 K1
    exact fin a9 c9 b9 d9 v9 hb9 h9
  · skip
    refine op_step 36 _ rfl (fun K1 hK1 => ?_)
    go_simp
    refine hK1 _ _ ?_
    clear hK1 K1
    refine ⟨?_, ?_⟩
    · skip
      refine op_step 35 _ rfl (fun K1 hK1 => ?_)
      go_simp
      refine hK1 _ _ ?_
      clear hK1 K1
      refine op_step 37 _ rfl (fun K1 hK1 => ?_)
      go_simp
      refine (hTr _ (Below.refl _ _)).mono ?_
      rintro e v9 ⟨z, rfl, ⟨a9, c9, b9, d9, rfl, h9⟩, hb9⟩
      refine hK1 _ _ ?_
      clear hK1 K1
      exact fin a9 c9 b9 d9 v9 hb9 h9
    · skip
      refine op_step 37 _ rfl (fun K1 hK1 => ?_)
      go_simp
      refine (hTr _ (Below.refl _ _)).mono ?_
      rintro e v9 ⟨z, rfl, ⟨a9, c9, b9, d9, rfl, h9⟩, hb9⟩
      refine hK1 _ _ ?_
      clear hK1 K1
      replace Kt0 := cell_below hb9 Kt0
      replace Kt1 := cell_below hb9 Kt1
      refine op_step 35 _ rfl (fun K1 hK1 => ?_)
      go_simp
      refine hK1 _ _ ?_
      clear hK1 K1
      exact fin a9 c9 b9 d9 v9 hb9 h9

end Go.Proofs.YtbfboippaejnmaaGreatDoor.Tn
