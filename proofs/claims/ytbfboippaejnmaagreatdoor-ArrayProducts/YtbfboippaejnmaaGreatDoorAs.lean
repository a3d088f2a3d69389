/-
  PACKAGE array: OTHER SHAPES, TOTALS, WHAT IS SPREAD: what calls of Reshape, Total and Spread give, step by step. Conditions: each theorem's own.
-/
import Derived.Test.YtbfboippaejnmaaGreatDoorAm
namespace Go.Proofs.YtbfboippaejnmaaGreatDoor.Tn
set_option maxRecDepth 100000
open Go.RowKit Nm
set_option linter.unusedVariables false

set_option maxHeartbeats 4000000 in
theorem clone_txt (ao : Option Addr) (xs : List ByteArray) (c : Nat) (w : World) (hl : xs.length ≤ 1000) (hS : Row w ao (txts xs)) :
    Calls Tryz.prog 44 #[.slice ao xs.length c] w fun e w' => ∃ a1 c1, e = .returned (.slice a1 xs.length c1) ∧ Row w' a1 (txts xs) ∧ Fresh w.heap.size a1 ∧ Below w.heap.size w w' := by
  obtain ⟨i0, hi, hz0, hz1, hz2⟩ := info_parts inf9
  cases ao with
  | none =>
    have e0 : xs = [] := by
      have := hS.bare
      simpa [txts] using this
    subst e0
    clear hS hl
    have hnil := fun (w : World) => Lib.run_eql_slice_nil (P := Tryz.prog) w 23 9 none 0 c 0 0 Tryz.underlying23
    go_enter Tryz.func44, Tryz.ntmps44
    go_wp2
    go_ret
    exact ⟨none, 0, rfl, Row.nil _ _, (fun b off sp h => by cases h), Below.refl _ _⟩
  | some ad =>
    have m2 : (w.alloc (.cells #[] 9)).ownsRow w.heap.size 9 1 (.slice (some ⟨w.heap.size, 0, none⟩) 0 0) 0 [] := World.ownsRow_made w #[] 0 (Nat.le_refl _) (by simp) (by simp)
    have hR2 : Row (w.alloc (.cells #[] 9)) (some ad) (txts xs) := hS.below ((Below.refl _ _).alloc (Nat.le_refl _) _)
    have hnl := txts_len xs
    obtain ⟨n, hn⟩ : ∃ n, xs.length = n := ⟨_, rfl⟩
    rw [hn] at hl hnl ⊢
    clear hS
    have hnil := fun (w : World) => Lib.run_eql_slice_nil (P := Tryz.prog) w 23 9 (some ad) n c 0 0 Tryz.underlying23
    go_enter Tryz.func44, Tryz.ntmps44
    go_wp2_with (first | (at_builtin; refine wpList_append_row _ _ 23 rfl w.heap.size 9 i0 (.string ByteArray.empty) 16 Tryz.underlying23 hi hz0 hz1 hz2 rfl _ 0 [] rfl m2 (some ad) n c (txts xs) rfl hnl hR2 (txts_one xs) (fun h => by cases h) (by unfold maxLen; omega) (by omega) (by simp) (by first | rfl | go_simp) ?_))
    intro v w4 hown hgrow
    have hB4 : Below w.heap.size w w4 := ((Below.refl _ _).alloc (Nat.le_refl _) _).grown hgrow (by simp) (fun k h => by simp [Value.ownBlock] at h; omega)
    have hown' : w4.ownsRow w.heap.size 9 1 v n (txts xs) := by simpa using hown
    obtain ⟨a1, c1, rfl, hR4, _, _, _, hfr⟩ := Row.of_own hown'
    have HF : Hid (Fresh w.heap.size a1) := fun b off sp h => (hfr b off sp h).2.1
    have HB : Hid _ := hB4
    have HR : Hid _ := hR4
    clear hB4 hR4 hown hown' hgrow hR2 m2 hfr
    go_wp2
    go_ret
    exact ⟨a1, c1, rfl, HR.out, HF.out, HB.out⟩

set_option maxHeartbeats 4000000 in
theorem res_a_no (m1 n1 c1 d1 m2 c2 : Nat) (a1 b1 a2 : Option Addr) (w : World)
    (hR1 : ∀ v, Below w.heap.size w v → Calls Tryz.prog 29 #[.agg #[.slice a1 m1 c1, .slice b1 n1 d1]] v fun e w' => e = .returned (.bool false) ∧ Below v.heap.size v w') :
    Calls Tryz.prog 20 #[.agg #[.slice a1 m1 c1, .slice b1 n1 d1], .slice a2 m2 c2] w fun e w' => e = .returned (noTensor 1) ∧ Below w.heap.size w w' := by
  have hZ : Tb w ((w.alloc (.cells #[.slice a1 m1 c1, .slice b1 n1 d1] 25)).alloc (.cells #[.slice none 0 0, .slice none 0 0] 25)) (.slice a1 m1 c1) (.slice b1 n1 d1) := Tb.of (Below.refl _ _)
  have k0 := hZ.a0
  have k1 := hZ.a1
  have HZ : Hid _ := hZ
  clear hZ
  go_enter Tryz.func20, Tryz.ntmps20
  go_wp2_with fail
  refine (hR1 _ HZ.out.bl).mono ?_
  rintro e w1 ⟨rfl, hb⟩
  have hZ := HZ.out.below hb
  clear HZ k0 k1 hR1
  have k0 := hZ.a0
  have k1 := hZ.a1
  have HZ : Hid _ := hZ
  clear hb hZ
  have hx0 := HZ.out.bx.c0
  have hx1 := HZ.out.bx.c1
  have hx2 := HZ.out.bx.f0
  have hx3 := HZ.out.bx.f1
  go_wp2
  refine bodyPost_ret (v := noTensor 1) (by simp [results, Tryz.results20, go_sem, (two_set HZ.out.bx.c0 HZ.out.bx.c1 _ _).1, (two_set HZ.out.bx.c0 HZ.out.bx.c1 _ _).2]) rfl ⟨rfl, ?_⟩
  exact bl_set (bl_set HZ.out.bl (by simp <;> omega) _) (by simp <;> omega) _

set_option maxHeartbeats 4000000 in
theorem res_s_no (m1 n1 c1 d1 m2 c2 : Nat) (a1 b1 a2 : Option Addr) (w : World)
    (hR1 : ∀ v, Below w.heap.size w v → Calls Tryz.prog 29 #[.agg #[.slice a1 m1 c1, .slice b1 n1 d1]] v fun e w' => e = .returned (.bool true) ∧ Below v.heap.size v w')
    (hS : ∀ v, Below w.heap.size w v → Calls Tryz.prog 31 #[.slice a2 m2 c2] v fun e w' => e = .returned (.bool false) ∧ w' = v) :
    Calls Tryz.prog 20 #[.agg #[.slice a1 m1 c1, .slice b1 n1 d1], .slice a2 m2 c2] w fun e w' => e = .returned (noTensor 1) ∧ Below w.heap.size w w' := by
  have hZ : Tb w ((w.alloc (.cells #[.slice a1 m1 c1, .slice b1 n1 d1] 25)).alloc (.cells #[.slice none 0 0, .slice none 0 0] 25)) (.slice a1 m1 c1) (.slice b1 n1 d1) := Tb.of (Below.refl _ _)
  have k0 := hZ.a0
  have k1 := hZ.a1
  have HZ : Hid _ := hZ
  clear hZ
  go_enter Tryz.func20, Tryz.ntmps20
  go_wp2_with fail
  refine (hR1 _ HZ.out.bl).mono ?_
  rintro e w1 ⟨rfl, hb⟩
  have hZ := HZ.out.below hb
  clear HZ k0 k1 hR1
  have k0 := hZ.a0
  have k1 := hZ.a1
  have HZ : Hid _ := hZ
  clear hb hZ
  go_wp2_with fail
  refine (hS _ HZ.out.bl).mono ?_
  rintro e w2 ⟨rfl, rfl⟩
  clear hS
  have hx0 := HZ.out.bx.c0
  have hx1 := HZ.out.bx.c1
  have hx2 := HZ.out.bx.f0
  have hx3 := HZ.out.bx.f1
  go_wp2
  refine bodyPost_ret (v := noTensor 1) (by simp [results, Tryz.results20, go_sem, (two_set HZ.out.bx.c0 HZ.out.bx.c1 _ _).1, (two_set HZ.out.bx.c0 HZ.out.bx.c1 _ _).2]) rfl ⟨rfl, ?_⟩
  exact bl_set (bl_set HZ.out.bl (by simp <;> omega) _) (by simp <;> omega) _

set_option maxHeartbeats 4000000 in
theorem res_n_no (m1 n1 c1 d1 m2 c2 n2 : Nat) (a1 b1 a2 : Option Addr) (w : World)
    (hR1 : ∀ v, Below w.heap.size w v → Calls Tryz.prog 29 #[.agg #[.slice a1 m1 c1, .slice b1 n1 d1]] v fun e w' => e = .returned (.bool true) ∧ Below v.heap.size v w')
    (hS : ∀ v, Below w.heap.size w v → Calls Tryz.prog 31 #[.slice a2 m2 c2] v fun e w' => e = .returned (.bool true) ∧ w' = v)
    (hZs : ∀ v, Below w.heap.size w v → Calls Tryz.prog 42 #[.slice a2 m2 c2] v fun e w' => e = .returned (.int .i64 (n2 : Int)) ∧ w' = v) (hne : ((n2 : Int) != (n1 : Int)) = true) :
    Calls Tryz.prog 20 #[.agg #[.slice a1 m1 c1, .slice b1 n1 d1], .slice a2 m2 c2] w fun e w' => e = .returned (noTensor 4) ∧ Below w.heap.size w w' := by
  have hZ : Tb w ((w.alloc (.cells #[.slice a1 m1 c1, .slice b1 n1 d1] 25)).alloc (.cells #[.slice none 0 0, .slice none 0 0] 25)) (.slice a1 m1 c1) (.slice b1 n1 d1) := Tb.of (Below.refl _ _)
  have k0 := hZ.a0
  have k1 := hZ.a1
  have HZ : Hid _ := hZ
  clear hZ
  go_enter Tryz.func20, Tryz.ntmps20
  go_wp2_with fail
  refine (hR1 _ HZ.out.bl).mono ?_
  rintro e w1 ⟨rfl, hb⟩
  have hZ := HZ.out.below hb
  clear HZ k0 k1 hR1
  have k0 := hZ.a0
  have k1 := hZ.a1
  have HZ : Hid _ := hZ
  clear hb hZ
  go_wp2_with fail
  refine (hS _ HZ.out.bl).mono ?_
  rintro e w2 ⟨rfl, rfl⟩
  clear hS
  go_wp2_with fail
  obtain ⟨C, hC⟩ : ∃ C : World → Prop, C = fun v => Tb w v (.slice a1 m1 c1) (.slice b1 n1 d1) := ⟨_, rfl⟩
  have e0 : ∀ v, C v → v.cell? ⟨w.heap.size, 0, none⟩ = some (.slice a1 m1 c1) := fun v h => by subst hC; exact h.a0
  have e1 : ∀ v, C v → v.cell? ⟨w.heap.size, 1, none⟩ = some (.slice b1 n1 d1) := fun v h => by subst hC; exact h.a1
  have cB : ∀ v, C v → Below w.heap.size w v := fun v h => by subst hC; exact h.bl
  have cT : ∀ u v, C u → Below u.heap.size u v → C v := fun u v h k => by subst hC; exact h.below k
  have cZ : Hid (∀ v, C v → Tb w v (.slice a1 m1 c1) (.slice b1 n1 d1)) := fun v h => by subst hC; exact h
  have cI : C w2.drew := by subst hC; exact HZ.out.below (bl_drew (Below.refl _ _))
  clear hC HZ k0 k1
  refine region_calm C (by kernel_rfl) (by kernel_rfl) cI ?_
  clear cI
  with_reducible refine wpQuiet_step (fun K hK => ?_)
  go_simp
  refine ⟨_, fun v hv => rfl, hK _ ?_⟩
  clear hK K
  with_reducible refine wpQuiet_step (fun K hK => ?_)
  go_simp
  refine ⟨.int .i64 (n2 : Int), fun v hv => ?_, hK _ ?_⟩
  · exact calm_call cT hv (calm_same (hZs v (cB v hv)))
  clear hK K
  with_reducible refine wpQuiet_step (fun K hK => ?_)
  go_simp
  refine ⟨_, fun v hv => rfl, hK _ ?_⟩
  clear hK K
  with_reducible refine wpQuiet_step (fun K hK => ?_)
  go_simp
  refine ⟨.slice b1 n1 d1, fun v hv => ?_, hK _ ?_⟩
  · simp [e1 v hv]
  clear hK K
  with_reducible refine wpQuiet_step (fun K hK => ?_)
  go_simp
  refine ⟨_, fun v hv => rfl, hK _ ?_⟩
  clear hK K
  with_reducible refine wpQuiet_step (fun K hK => ?_)
  go_simp
  refine ⟨.bool true, fun v hv => ?_, hK _ ?_⟩
  · simp
  clear hK K
  refine wpQuiet_nil ?_
  intro w3 C1
  have hZ := cZ.out _ C1
  have k0 := hZ.a0
  have k1 := hZ.a1
  have HZ : Hid _ := hZ
  clear hZ C1 cZ e0 e1 cB cT
  have hx0 := HZ.out.bx.c0
  have hx1 := HZ.out.bx.c1
  have hx2 := HZ.out.bx.f0
  have hx3 := HZ.out.bx.f1
  go_wp2
  refine bodyPost_ret (v := noTensor 4) (by simp [results, Tryz.results20, go_sem, (two_set HZ.out.bx.c0 HZ.out.bx.c1 _ _).1, (two_set HZ.out.bx.c0 HZ.out.bx.c1 _ _).2]) rfl ⟨rfl, ?_⟩
  exact bl_set (bl_set HZ.out.bl (by simp <;> omega) _) (by simp <;> omega) _

set_option maxHeartbeats 4000000 in
theorem res_yes (m1 n1 c1 d1 m2 c2 n2 : Nat) (a1 b1 a2 : Option Addr) (us : List Int) (xs : List ByteArray) (w : World)
    (hR1 : ∀ v, Below w.heap.size w v → Calls Tryz.prog 29 #[.agg #[.slice a1 m1 c1, .slice b1 n1 d1]] v fun e w' => e = .returned (.bool true) ∧ Below v.heap.size v w')
    (hS : ∀ v, Below w.heap.size w v → Calls Tryz.prog 31 #[.slice a2 m2 c2] v fun e w' => e = .returned (.bool true) ∧ w' = v)
    (hZs : ∀ v, Below w.heap.size w v → Calls Tryz.prog 42 #[.slice a2 m2 c2] v fun e w' => e = .returned (.int .i64 (n2 : Int)) ∧ w' = v) (hne : ((n2 : Int) != (n1 : Int)) = false)
    (hC1 : ∀ v, Below w.heap.size w v → Calls Tryz.prog 43 #[.slice a2 m2 c2] v fun e v' => ∃ a3 c3, e = .returned (.slice a3 m2 c3) ∧ Sp.Sl v' a3 us ∧ Fresh v.heap.size a3 ∧ Below v.heap.size v v')
    (hC2 : ∀ v, Below w.heap.size w v → Calls Tryz.prog 44 #[.slice b1 n1 d1] v fun e v' => ∃ b3 d3, e = .returned (.slice b3 n1 d3) ∧ Row v' b3 (txts xs) ∧ Fresh v.heap.size b3 ∧ Below v.heap.size v v') :
    Calls Tryz.prog 20 #[.agg #[.slice a1 m1 c1, .slice b1 n1 d1], .slice a2 m2 c2] w fun e w' => ∃ a3 c3 b3 d3, e = .returned (.tuple #[.agg #[.slice a3 m2 c3, .slice b3 n1 d3], .int .i64 0]) ∧ Tm w' w.heap.size a3 b3 us xs ∧ Below w.heap.size w w' := by
  have hZ : Tb w ((w.alloc (.cells #[.slice a1 m1 c1, .slice b1 n1 d1] 25)).alloc (.cells #[.slice none 0 0, .slice none 0 0] 25)) (.slice a1 m1 c1) (.slice b1 n1 d1) := Tb.of (Below.refl _ _)
  have k0 := hZ.a0
  have k1 := hZ.a1
  have HZ : Hid _ := hZ
  clear hZ
  go_enter Tryz.func20, Tryz.ntmps20
  go_wp2_with fail
  refine (hR1 _ HZ.out.bl).mono ?_
  rintro e w1 ⟨rfl, hb⟩
  have hZ := HZ.out.below hb
  clear HZ k0 k1 hR1
  have k0 := hZ.a0
  have k1 := hZ.a1
  have HZ : Hid _ := hZ
  clear hb hZ
  go_wp2_with fail
  refine (hS _ HZ.out.bl).mono ?_
  rintro e w2 ⟨rfl, rfl⟩
  clear hS
  go_wp2_with fail
  obtain ⟨C, hC⟩ : ∃ C : World → Prop, C = fun v => Tb w v (.slice a1 m1 c1) (.slice b1 n1 d1) := ⟨_, rfl⟩
  have e0 : ∀ v, C v → v.cell? ⟨w.heap.size, 0, none⟩ = some (.slice a1 m1 c1) := fun v h => by subst hC; exact h.a0
  have e1 : ∀ v, C v → v.cell? ⟨w.heap.size, 1, none⟩ = some (.slice b1 n1 d1) := fun v h => by subst hC; exact h.a1
  have cB : ∀ v, C v → Below w.heap.size w v := fun v h => by subst hC; exact h.bl
  have cT : ∀ u v, C u → Below u.heap.size u v → C v := fun u v h k => by subst hC; exact h.below k
  have cZ : Hid (∀ v, C v → Tb w v (.slice a1 m1 c1) (.slice b1 n1 d1)) := fun v h => by subst hC; exact h
  have cI : C w2.drew := by subst hC; exact HZ.out.below (bl_drew (Below.refl _ _))
  clear hC HZ k0 k1
  refine region_calm C (by kernel_rfl) (by kernel_rfl) cI ?_
  clear cI
  with_reducible refine wpQuiet_step (fun K hK => ?_)
  go_simp
  refine ⟨_, fun v hv => rfl, hK _ ?_⟩
  clear hK K
  with_reducible refine wpQuiet_step (fun K hK => ?_)
  go_simp
  refine ⟨.int .i64 (n2 : Int), fun v hv => ?_, hK _ ?_⟩
  · exact calm_call cT hv (calm_same (hZs v (cB v hv)))
  clear hK K
  with_reducible refine wpQuiet_step (fun K hK => ?_)
  go_simp
  refine ⟨_, fun v hv => rfl, hK _ ?_⟩
  clear hK K
  with_reducible refine wpQuiet_step (fun K hK => ?_)
  go_simp
  refine ⟨.slice b1 n1 d1, fun v hv => ?_, hK _ ?_⟩
  · simp [e1 v hv]
  clear hK K
  with_reducible refine wpQuiet_step (fun K hK => ?_)
  go_simp
  refine ⟨_, fun v hv => rfl, hK _ ?_⟩
  clear hK K
  with_reducible refine wpQuiet_step (fun K hK => ?_)
  go_simp
  refine ⟨.bool false, fun v hv => ?_, hK _ ?_⟩
  · simp
  clear hK K
  refine wpQuiet_nil ?_
  intro w3 C1
  have hZ := cZ.out _ C1
  have k0 := hZ.a0
  have k1 := hZ.a1
  have HZ : Hid _ := hZ
  clear hZ C1 cZ e0 e1 cB cT
  go_wp2_with fail
  go_region_with (first
    | (go_at_call 43
       refine (hC1 w3.drew (bl_drew HZ.out.bl)).mono ?_
       rintro e w5 ⟨a3, c3, rfl, hs, hf, hb0⟩
       have hb := bl_trans (bl_drew (Below.refl w3.heap.size w3)) hb0
       have hZA := HZ.out.below hb
       have kA0 := hZA.a0
       have kA1 := hZA.a1
       have HA : Hid _ := hZA
       have HS1 : Hid (Sp.Sl w5 a3 us ∧ Fresh w3.heap.size a3 ∧ Below w3.heap.size w3 w5) := ⟨hs, hf, hb⟩
       clear hs hf hb hb0 hZA)
    | (go_at_call 44
       refine (hC2 _ HA.out.bl).mono ?_
       rintro e w6 ⟨b3, d3, rfl, hr, hf, hb⟩
       have hZB := HA.out.below hb
       have hx0 := hZB.bx.c0
       have hx1 := hZB.bx.c1
       have hx2 := hZB.bx.f0
       have hx3 := hZB.bx.f1
       have HT : Hid (Tm w6 (w.heap.size + 1 + 1) a3 b3 us xs) := ⟨HS1.out.1.below hb, hr, fun b off sp e => by have := HS1.out.2.1 b off sp e; have := HZ.out.bx.lt; omega, fun b off sp e => by have := hf b off sp e; have := HA.out.bx.lt; omega⟩
       have HB : Hid _ := hZB
       clear hr hf hb hZB))
  all_goals
    go_wp2
    refine bodyPost_ret (v := .tuple #[.agg #[.slice a3 m2 c3, .slice b3 n1 d3], .int .i64 0]) (by simp [results, Tryz.results20, go_sem, (two_set HB.out.bx.c0 HB.out.bx.c1 _ _).1, (two_set HB.out.bx.c0 HB.out.bx.c1 _ _).2]) rfl ⟨a3, c3, b3, d3, rfl, ?_, ?_⟩
    · exact ((HT.out.set (by simp) _).set (by simp) _).mono (by omega)
    · exact bl_set (bl_set HB.out.bl (by simp <;> omega) _) (by simp <;> omega) _

set_option maxHeartbeats 4000000 in
theorem tot_no (m1 n1 c1 d1 : Nat) (a1 b1 : Option Addr) (s : ByteArray) (w : World)
    (hR1 : ∀ v, Below w.heap.size w v → Calls Tryz.prog 45 #[.agg #[.slice a1 m1 c1, .slice b1 n1 d1]] v fun e w' => e = .returned (.tuple #[.string s, .int .i64 1]) ∧ Below v.heap.size v w') :
    Calls Tryz.prog 21 #[.agg #[.slice a1 m1 c1, .slice b1 n1 d1]] w fun e w' => e = .returned (noTensor 1) ∧ Below w.heap.size w w' := by
  have hZ : Tb w ((w.alloc (.cells #[.slice a1 m1 c1, .slice b1 n1 d1] 25)).alloc (.cells #[.slice none 0 0, .slice none 0 0] 25)) (.slice a1 m1 c1) (.slice b1 n1 d1) := Tb.of (Below.refl _ _)
  have k0 := hZ.a0
  have k1 := hZ.a1
  have HZ : Hid _ := hZ
  clear hZ
  go_enter Tryz.func21, Tryz.ntmps21
  go_wp2_with fail
  refine (hR1 _ HZ.out.bl).mono ?_
  rintro e w1 ⟨rfl, hb⟩
  have hZ := HZ.out.below hb
  clear HZ k0 k1 hR1
  have k0 := hZ.a0
  have k1 := hZ.a1
  have HZ : Hid _ := hZ
  clear hb hZ
  have hx0 := HZ.out.bx.c0
  have hx1 := HZ.out.bx.c1
  have hx2 := HZ.out.bx.f0
  have hx3 := HZ.out.bx.f1
  go_wp2
  refine bodyPost_ret (v := noTensor 1) (by simp [results, Tryz.results21, go_sem, (two_set HZ.out.bx.c0 HZ.out.bx.c1 _ _).1, (two_set HZ.out.bx.c0 HZ.out.bx.c1 _ _).2]) rfl ⟨rfl, ?_⟩
  exact bl_set (bl_set HZ.out.bl (by simp <;> omega) _) (by simp <;> omega) _

set_option maxHeartbeats 4000000 in
theorem tot_yes (m1 n1 c1 d1 N : Nat) (a1 b1 : Option Addr) (s : ByteArray) (us : List Int) (xs : List ByteArray) (w : World)
    (hR1 : ∀ v, Below w.heap.size w v → Calls Tryz.prog 45 #[.agg #[.slice a1 m1 c1, .slice b1 n1 d1]] v fun e w' => e = .returned (.tuple #[.string s, .int .i64 0]) ∧ Below v.heap.size v w')
    (hF : ∀ v, Below w.heap.size w v → Calls Tryz.prog 46 #[.slice none 0 0, .string s] v fun e v' => ∃ a3 c3 b3 d3, e = .returned (.tuple #[.agg #[.slice a3 0 c3, .slice b3 N d3], .int .i64 0]) ∧ Tm v' v.heap.size a3 b3 us xs ∧ Below v.heap.size v v') :
    Calls Tryz.prog 21 #[.agg #[.slice a1 m1 c1, .slice b1 n1 d1]] w fun e w' => ∃ a3 c3 b3 d3, e = .returned (.tuple #[.agg #[.slice a3 0 c3, .slice b3 N d3], .int .i64 0]) ∧ Tm w' w.heap.size a3 b3 us xs ∧ Below w.heap.size w w' := by
  have hZ : Tb w ((w.alloc (.cells #[.slice a1 m1 c1, .slice b1 n1 d1] 25)).alloc (.cells #[.slice none 0 0, .slice none 0 0] 25)) (.slice a1 m1 c1) (.slice b1 n1 d1) := Tb.of (Below.refl _ _)
  have k0 := hZ.a0
  have k1 := hZ.a1
  have HZ : Hid _ := hZ
  clear hZ
  go_enter Tryz.func21, Tryz.ntmps21
  go_wp2_with fail
  refine (hR1 _ HZ.out.bl).mono ?_
  rintro e w1 ⟨rfl, hb⟩
  have hZ := HZ.out.below hb
  clear HZ k0 k1 hR1
  have k0 := hZ.a0
  have k1 := hZ.a1
  have HZ : Hid _ := hZ
  clear hb hZ
  go_wp2_with fail
  refine (hF _ HZ.out.bl).mono ?_
  rintro e w10 ⟨a3, c3, b3, d3, rfl, hT, hb⟩
  have hZ := HZ.out.below hb
  have HT : Hid (Tm w10 (w.heap.size + 1 + 1) a3 b3 us xs) := hT.mono (by have := HZ.out.bx.lt; omega)
  clear HZ k0 k1 hb hT hF
  have k0 := hZ.a0
  have k1 := hZ.a1
  have HZ : Hid _ := hZ
  have hx0 := hZ.bx.c0
  have hx1 := hZ.bx.c1
  have hx2 := hZ.bx.f0
  have hx3 := hZ.bx.f1
  clear hZ
  go_wp2
  refine bodyPost_ret (v := .tuple #[.agg #[.slice a3 0 c3, .slice b3 N d3], .int .i64 0]) (by simp [results, Tryz.results21, go_sem, (two_set HZ.out.bx.c0 HZ.out.bx.c1 _ _).1, (two_set HZ.out.bx.c0 HZ.out.bx.c1 _ _).2]) rfl ⟨a3, c3, b3, d3, rfl, ?_, ?_⟩
  · exact ((HT.out.set (by simp) _).set (by simp) _).mono (by omega)
  · exact bl_set (bl_set HZ.out.bl (by simp <;> omega) _) (by simp <;> omega) _

set_option maxHeartbeats 4000000 in
theorem spr_a_no (m1 n1 c1 d1 m2 c2 : Nat) (a1 b1 a2 : Option Addr) (w : World)
    (hR1 : ∀ v, Below w.heap.size w v → Calls Tryz.prog 29 #[.agg #[.slice a1 m1 c1, .slice b1 n1 d1]] v fun e w' => e = .returned (.bool false) ∧ Below v.heap.size v w') :
    Calls Tryz.prog 22 #[.agg #[.slice a1 m1 c1, .slice b1 n1 d1], .slice a2 m2 c2] w fun e w' => e = .returned (noTensor 1) ∧ Below w.heap.size w w' := by
  have hZ : Tb w ((w.alloc (.cells #[.slice a1 m1 c1, .slice b1 n1 d1] 25)).alloc (.cells #[.slice none 0 0, .slice none 0 0] 25)) (.slice a1 m1 c1) (.slice b1 n1 d1) := Tb.of (Below.refl _ _)
  have k0 := hZ.a0
  have k1 := hZ.a1
  have HZ : Hid _ := hZ
  clear hZ
  go_enter Tryz.func22, Tryz.ntmps22
  go_wp2_with fail
  refine (hR1 _ HZ.out.bl).mono ?_
  rintro e w1 ⟨rfl, hb⟩
  have hZ := HZ.out.below hb
  clear HZ k0 k1 hR1
  have k0 := hZ.a0
  have k1 := hZ.a1
  have HZ : Hid _ := hZ
  clear hb hZ
  have hx0 := HZ.out.bx.c0
  have hx1 := HZ.out.bx.c1
  have hx2 := HZ.out.bx.f0
  have hx3 := HZ.out.bx.f1
  go_wp2
  refine bodyPost_ret (v := noTensor 1) (by simp [results, Tryz.results22, go_sem, (two_set HZ.out.bx.c0 HZ.out.bx.c1 _ _).1, (two_set HZ.out.bx.c0 HZ.out.bx.c1 _ _).2]) rfl ⟨rfl, ?_⟩
  exact bl_set (bl_set HZ.out.bl (by simp <;> omega) _) (by simp <;> omega) _

set_option maxHeartbeats 4000000 in
theorem spr_s_no (m1 n1 c1 d1 m2 c2 : Nat) (a1 b1 a2 : Option Addr) (w : World)
    (hR1 : ∀ v, Below w.heap.size w v → Calls Tryz.prog 29 #[.agg #[.slice a1 m1 c1, .slice b1 n1 d1]] v fun e w' => e = .returned (.bool true) ∧ Below v.heap.size v w')
    (hS : ∀ v, Below w.heap.size w v → Calls Tryz.prog 31 #[.slice a2 m2 c2] v fun e w' => e = .returned (.bool false) ∧ w' = v) :
    Calls Tryz.prog 22 #[.agg #[.slice a1 m1 c1, .slice b1 n1 d1], .slice a2 m2 c2] w fun e w' => e = .returned (noTensor 1) ∧ Below w.heap.size w w' := by
  have hZ : Tb w ((w.alloc (.cells #[.slice a1 m1 c1, .slice b1 n1 d1] 25)).alloc (.cells #[.slice none 0 0, .slice none 0 0] 25)) (.slice a1 m1 c1) (.slice b1 n1 d1) := Tb.of (Below.refl _ _)
  have k0 := hZ.a0
  have k1 := hZ.a1
  have HZ : Hid _ := hZ
  clear hZ
  go_enter Tryz.func22, Tryz.ntmps22
  go_wp2_with fail
  refine (hR1 _ HZ.out.bl).mono ?_
  rintro e w1 ⟨rfl, hb⟩
  have hZ := HZ.out.below hb
  clear HZ k0 k1 hR1
  have k0 := hZ.a0
  have k1 := hZ.a1
  have HZ : Hid _ := hZ
  clear hb hZ
  go_wp2_with fail
  refine (hS _ HZ.out.bl).mono ?_
  rintro e w2 ⟨rfl, rfl⟩
  clear hS
  have hx0 := HZ.out.bx.c0
  have hx1 := HZ.out.bx.c1
  have hx2 := HZ.out.bx.f0
  have hx3 := HZ.out.bx.f1
  go_wp2
  refine bodyPost_ret (v := noTensor 1) (by simp [results, Tryz.results22, go_sem, (two_set HZ.out.bx.c0 HZ.out.bx.c1 _ _).1, (two_set HZ.out.bx.c0 HZ.out.bx.c1 _ _).2]) rfl ⟨rfl, ?_⟩
  exact bl_set (bl_set HZ.out.bl (by simp <;> omega) _) (by simp <;> omega) _

set_option maxHeartbeats 4000000 in
theorem spr_r_no (m1 n1 c1 d1 m2 c2 : Nat) (a1 b1 a2 : Option Addr) (w : World)
    (hR1 : ∀ v, Below w.heap.size w v → Calls Tryz.prog 29 #[.agg #[.slice a1 m1 c1, .slice b1 n1 d1]] v fun e w' => e = .returned (.bool true) ∧ Below v.heap.size v w')
    (hS : ∀ v, Below w.heap.size w v → Calls Tryz.prog 31 #[.slice a2 m2 c2] v fun e w' => e = .returned (.bool true) ∧ w' = v) (hm : ((m1 : Int) != 0) = true) :
    Calls Tryz.prog 22 #[.agg #[.slice a1 m1 c1, .slice b1 n1 d1], .slice a2 m2 c2] w fun e w' => e = .returned (noTensor 4) ∧ Below w.heap.size w w' := by
  have hZ : Tb w ((w.alloc (.cells #[.slice a1 m1 c1, .slice b1 n1 d1] 25)).alloc (.cells #[.slice none 0 0, .slice none 0 0] 25)) (.slice a1 m1 c1) (.slice b1 n1 d1) := Tb.of (Below.refl _ _)
  have k0 := hZ.a0
  have k1 := hZ.a1
  have HZ : Hid _ := hZ
  clear hZ
  go_enter Tryz.func22, Tryz.ntmps22
  go_wp2_with fail
  refine (hR1 _ HZ.out.bl).mono ?_
  rintro e w1 ⟨rfl, hb⟩
  have hZ := HZ.out.below hb
  clear HZ k0 k1 hR1
  have k0 := hZ.a0
  have k1 := hZ.a1
  have HZ : Hid _ := hZ
  clear hb hZ
  go_wp2_with fail
  refine (hS _ HZ.out.bl).mono ?_
  rintro e w2 ⟨rfl, rfl⟩
  clear hS
  have hx0 := HZ.out.bx.c0
  have hx1 := HZ.out.bx.c1
  have hx2 := HZ.out.bx.f0
  have hx3 := HZ.out.bx.f1
  go_wp2
  refine bodyPost_ret (v := noTensor 4) (by simp [results, Tryz.results22, go_sem, (two_set HZ.out.bx.c0 HZ.out.bx.c1 _ _).1, (two_set HZ.out.bx.c0 HZ.out.bx.c1 _ _).2]) rfl ⟨rfl, ?_⟩
  exact bl_set (bl_set HZ.out.bl (by simp <;> omega) _) (by simp <;> omega) _

set_option maxHeartbeats 4000000 in
theorem spr_yes (p1 q1 n1 c1 d1 m2 c2 N : Nat) (a1 a2 : Option Addr) (s : ByteArray) (us : List Int) (xs : List ByteArray) (w : World)
    (hR1 : ∀ v, Below w.heap.size w v → Calls Tryz.prog 29 #[.agg #[.slice a1 0 c1, .slice (some ⟨p1, q1, none⟩) n1 d1]] v fun e w' => e = .returned (.bool true) ∧ Below v.heap.size v w')
    (hS : ∀ v, Below w.heap.size w v → Calls Tryz.prog 31 #[.slice a2 m2 c2] v fun e w' => e = .returned (.bool true) ∧ w' = v) (hn : 0 < n1)
    (hx : w.cell? ⟨p1, q1, none⟩ = some (.string s))
    (hF : ∀ v, Below w.heap.size w v → Calls Tryz.prog 46 #[.slice a2 m2 c2, .string s] v fun e v' => ∃ a3 c3 b3 d3, e = .returned (.tuple #[.agg #[.slice a3 m2 c3, .slice b3 N d3], .int .i64 0]) ∧ Tm v' v.heap.size a3 b3 us xs ∧ Below v.heap.size v v') :
    Calls Tryz.prog 22 #[.agg #[.slice a1 0 c1, .slice (some ⟨p1, q1, none⟩) n1 d1], .slice a2 m2 c2] w fun e w' => ∃ a3 c3 b3 d3, e = .returned (.tuple #[.agg #[.slice a3 m2 c3, .slice b3 N d3], .int .i64 0]) ∧ Tm w' w.heap.size a3 b3 us xs ∧ Below w.heap.size w w' := by
  have hZ : Tb w ((w.alloc (.cells #[.slice a1 0 c1, .slice (some ⟨p1, q1, none⟩) n1 d1] 25)).alloc (.cells #[.slice none 0 0, .slice none 0 0] 25)) (.slice a1 0 c1) (.slice (some ⟨p1, q1, none⟩) n1 d1) := Tb.of (Below.refl _ _)
  have k0 := hZ.a0
  have k1 := hZ.a1
  have HZ : Hid _ := hZ
  clear hZ
  go_enter Tryz.func22, Tryz.ntmps22
  go_wp2_with fail
  refine (hR1 _ HZ.out.bl).mono ?_
  rintro e w1 ⟨rfl, hb⟩
  have hZ := HZ.out.below hb
  clear HZ k0 k1 hR1
  have k0 := hZ.a0
  have k1 := hZ.a1
  have HZ : Hid _ := hZ
  clear hb hZ
  go_wp2_with fail
  refine (hS _ HZ.out.bl).mono ?_
  rintro e w2 ⟨rfl, rfl⟩
  clear hS
  have l0 := cell_below HZ.out.bl hx
  have hn' : (0 : Int) < (n1 : Int) := by omega
  go_wp2_with fail
  refine (hF _ HZ.out.bl).mono ?_
  rintro e w10 ⟨a3, c3, b3, d3, rfl, hT, hb⟩
  have hZ := HZ.out.below hb
  have HT : Hid (Tm w10 (w.heap.size + 1 + 1) a3 b3 us xs) := hT.mono (by have := HZ.out.bx.lt; omega)
  clear HZ k0 k1 hb hT hF
  have k0 := hZ.a0
  have k1 := hZ.a1
  have HZ : Hid _ := hZ
  have hx0 := hZ.bx.c0
  have hx1 := hZ.bx.c1
  have hx2 := hZ.bx.f0
  have hx3 := hZ.bx.f1
  clear hZ
  go_wp2
  refine bodyPost_ret (v := .tuple #[.agg #[.slice a3 m2 c3, .slice b3 N d3], .int .i64 0]) (by simp [results, Tryz.results22, go_sem, (two_set HZ.out.bx.c0 HZ.out.bx.c1 _ _).1, (two_set HZ.out.bx.c0 HZ.out.bx.c1 _ _).2]) rfl ⟨a3, c3, b3, d3, rfl, ?_, ?_⟩
  · exact ((HT.out.set (by simp) _).set (by simp) _).mono (by omega)
  · exact bl_set (bl_set HZ.out.bl (by simp <;> omega) _) (by simp <;> omega) _
end Go.Proofs.YtbfboippaejnmaaGreatDoor.Tn
