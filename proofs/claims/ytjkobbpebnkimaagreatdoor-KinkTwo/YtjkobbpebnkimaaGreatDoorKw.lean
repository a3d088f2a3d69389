/-
  THE DOCUMENT'S TENSORS WITH A KINK, OF TWO: what a call of the document's Two gives. Conditions: sizes.
-/
import Derived.Test.YtjkobbpebnkimaaGreatDoorKz
import Derived.Test.YtjkobbpebnkimaaGreatDoorRl
namespace Go.Proofs.YtjkobbpebnkimaaGreatDoor.Tn
set_option maxRecDepth 100000
open Go.RowKit Nm
set_option linter.unusedVariables false

theorem Zb.new (w : World) (x1 x2 y1 y2 : Value) : Zb w (((w.alloc (.cells #[x1, x2] 25)).alloc (.cells #[y1, y2] 25)).alloc (.cells #[.slice none 0 0, .slice none 0 0] 25)) x1 x2 y1 y2 := Zb.of (Below.refl _ _)
theorem Zb.keep {w v u : World} {x1 x2 y1 y2 : Value} (h : Zb w v x1 x2 y1 y2) (k : Below (w.heap.size + 1 + 1 + 1) v u) : Zb w u x1 x2 y1 y2 := by
  have f : ∀ b, b < w.heap.size + 1 + 1 + 1 → ∀ i, u.frozen? ⟨b, i, none⟩ = v.frozen? ⟨b, i, none⟩ := fun b hb i => World.frozen?_of_block (k.block b hb)
  have c : ∀ b, b < w.heap.size + 1 + 1 + 1 → ∀ i, u.cell? ⟨b, i, none⟩ = v.cell? ⟨b, i, none⟩ := fun b hb i => World.cell?_of_block (k.block b hb)
  exact ⟨by rw [c _ (by omega)]; exact h.a0, by rw [c _ (by omega)]; exact h.a1, by rw [c _ (by omega)]; exact h.b0, by rw [c _ (by omega)]; exact h.b1,
    ⟨by rw [c _ (by omega)]; exact h.bx.c0, by rw [c _ (by omega)]; exact h.bx.c1, by rw [f _ (by omega)]; exact h.bx.f0, by rw [f _ (by omega)]; exact h.bx.f1⟩, h.bl.trans (k.mono (by omega))⟩
theorem cf36 : ∀ (args : Array Value) (w : World), (callFunc 36 args).run Tryz.prog w = .ok (.enter 36 args) w := fun a w => run_enter Tryz.func36 (by kernel_rfl) rfl a w
abbrev nMax : ByteArray := ⟨#[109, 97, 120]⟩
abbrev nAbove : ByteArray := ⟨#[97, 98, 111, 118, 101]⟩
/-- two cells of a place of one's own -/
structure Pc (w : World) (X : Nat) (x y : Value) : Prop where
  c0 : w.cell? ⟨X, 0, none⟩ = some x
  c1 : w.cell? ⟨X, 1, none⟩ = some y
  f0 : w.frozen? ⟨X, 0, none⟩ = false
  f1 : w.frozen? ⟨X, 1, none⟩ = false
theorem Pc.of {w : World} {X : Nat} {x y : Value} {t : TypeId} (h : w.heap[X]? = some (.cells #[x, y] t (0, 0))) : Pc w X x y := ⟨by simp [World.cell?, h], by simp [World.cell?, h], by simp [World.frozen?, h], by simp [World.frozen?, h]⟩
theorem Pc.below {w v : World} {X : Nat} {x y : Value} (h : Pc w X x y) (k : Below w.heap.size w v) : Pc v X x y :=
  ⟨cell_below k h.c0, cell_below k h.c1, frz_below k (a := ⟨X, 0, none⟩) (lt_of_cell h.c0) h.f0, frz_below k (a := ⟨X, 1, none⟩) (lt_of_cell h.c1) h.f1⟩
theorem Pc.put {w : World} {X : Nat} {x y : Value} (h : Pc w X x y) (p q : Value) : Pc ((w.setCell ⟨X, 0, none⟩ p).setCell ⟨X, 1, none⟩ q) X p q :=
  ⟨(two_set h.c0 h.c1 p q).1, (two_set h.c0 h.c1 p q).2, by rw [World.frozen?_setCell, World.frozen?_setCell]; exact h.f0, by rw [World.frozen?_setCell, World.frozen?_setCell]; exact h.f1⟩
theorem Pc.apart {w : World} {X Y : Nat} {x y : Value} (h : Pc w X x y) (hne : X ≠ Y) (p q : Value) : Pc ((w.setCell ⟨Y, 0, none⟩ p).setCell ⟨Y, 1, none⟩ q) X x y := by
  have c : ∀ i, ((w.setCell ⟨Y, 0, none⟩ p).setCell ⟨Y, 1, none⟩ q).cell? ⟨X, i, none⟩ = w.cell? ⟨X, i, none⟩ := fun i => by
    rw [World.cell?_setCell_other _ _ _ _ (by intro e; injection e with e1; exact hne e1.symm), World.cell?_setCell_other _ _ _ _ (by intro e; injection e with e1; exact hne e1.symm)]
  exact ⟨by rw [c]; exact h.c0, by rw [c]; exact h.c1, by rw [World.frozen?_setCell, World.frozen?_setCell]; exact h.f0, by rw [World.frozen?_setCell, World.frozen?_setCell]; exact h.f1⟩

set_option maxHeartbeats 8000000 in
theorem rtwo_max (a1 b1 a2 b2 : Option Addr) (c1 d1 c2 d2 m n B1 B2 : Nat) (zs : List Int) (qs rs : List Rat) (w : World) (h1 : Tt w B1 a1 b1 zs m n qs 40) (h2 : Tt w B2 a2 b2 zs m n rs 40) :
    Calls Tryz.prog 24 #[.string nMax, .agg #[.slice a1 m c1, .slice b1 n d1], .agg #[.slice a2 m c2, .slice b2 n d2]] w fun e w' => ∃ a3 c3 b3 d3, e = .returned (.agg #[.slice a3 m c3, .slice b3 n d3]) ∧ Tt w' 0 a3 b3 zs m n (List.zipWith kMax qs rs) 40 ∧ Below w.heap.size w w' := by
  obtain ⟨i0, hi, hz0, hz1, hz2⟩ := info_parts inf51
  have hle := h1.le
  have HTr : Hid (Tr zs (List.zipWith kMax qs rs) 40) := h1.tr.zip h2.tr fun x y hx hy => bd_max hx hy
  have HLn : Hid ((List.zipWith kMax qs rs).length = n) := by unfold Hid; rw [zip_len _ (by rw [h1.hn, h2.hn]), h1.hn]
  have HT1 : Hid _ := h1
  have HT2 : Hid _ := h2
  clear h1 h2
  go_enter Tryz.func24, Tryz.ntmps24
  go_wp2_with fail
  go_loopw [7, 8] (fun l i wr => ∃ (k : Nat) (v : Value), k ≤ n ∧ i = .int .i64 k ∧ l = v ∧ Zb w wr (.slice a1 m c1) (.slice b1 n d1) (.slice a2 m c2) (.slice b2 n d2) ∧ wr.ownsRow (w.heap.size + 1 + 1 + 1) 51 2 v k (frs ((List.zipWith kMax qs rs).take k))) (fun _ i _ => n - (intOf i).toNat)
  case atStart => exact ⟨0, .slice none 0 0, by omega, rfl, rfl, Zb.new w _ _ _ _, World.ownsRow_nil _ _ _ _⟩
  case round =>
    obtain ⟨k, v, hk, rfl, rfl, hZ, hown⟩ := hrel
    by_cases h : k < n
    · have hA := fun (u : World) (hu : Below wr.heap.size wr u) => zat c1 d1 k (HT1.out.below (bl_trans hZ.bl hu)) h (by omega)
      have hB := fun (u : World) (hu : Below wr.heap.size wr u) => zat c2 d2 k (HT2.out.below (bl_trans hZ.bl hu)) h (by omega)
      have hN := fun (u : World) => rless_R (qs.getD k 0) (rs.getD k 0) 40 40 u (HT1.out.tr.b _ (mem_getD qs (by rw [HT1.out.hn]; exact h))) (HT2.out.tr.b _ (mem_getD rs (by rw [HT2.out.hn]; exact h))) (by omega)
      unfold fr at hN
      have HL : Hid (frs ((List.zipWith kMax qs rs).take (k + 1)) = frs ((List.zipWith kMax qs rs).take k) ++ [.string (W ((kMax (qs.getD k 0) (rs.getD k 0)).num)), .string (S ((kMax (qs.getD k 0) (rs.getD k 0)).den))]) := by
        unfold Hid
        have q1 : k < qs.length := by rw [HT1.out.hn]; exact h
        have q2 : k < rs.length := by rw [HT2.out.hn]; exact h
        rw [take_snoc _ (by rw [HLn.out]; exact h), frs_app, zip_at _ q1 q2]; rfl
      have HV : Hid (W (kMax (qs.getD k 0) (rs.getD k 0)).num = (if decide (qs.getD k 0 < rs.getD k 0) then W (rs.getD k 0).num else W (qs.getD k 0).num) ∧ S (kMax (qs.getD k 0) (rs.getD k 0)).den = (if decide (qs.getD k 0 < rs.getD k 0) then S (rs.getD k 0).den else S (qs.getD k 0).den)) := by
        unfold Hid kMax
        by_cases hlt : qs.getD k 0 < rs.getD k 0
        · rw [if_pos hlt, decide_eq_true hlt, if_pos rfl, if_pos rfl]
          exact ⟨rfl, rfl⟩
        · rw [if_neg hlt, decide_eq_false hlt, if_neg (by decide), if_neg (by decide)]
          exact ⟨rfl, rfl⟩
      have k1 := hZ.a1
      have HZ : Hid (Zb w wr (.slice a1 m c1) (.slice b1 n d1) (.slice a2 m c2) (.slice b2 n d2)) := hZ
      clear hZ
      unfold fr at hA hB
      generalize W (kMax (qs.getD k 0) (rs.getD k 0)).num = P3 at *
      generalize S (kMax (qs.getD k 0) (rs.getD k 0)).den = Q3 at *
      generalize W (qs.getD k 0).num = P1 at *
      generalize S (qs.getD k 0).den = Q1 at *
      generalize W (rs.getD k 0).num = P2 at *
      generalize S (rs.getD k 0).den = Q2 at *
      generalize decide (qs.getD k 0 < rs.getD k 0) = less at *
      generalize frs ((List.zipWith kMax qs rs).take k) = L0 at *
      have HA : Hid _ := hA
      have HB : Hid _ := hB
      clear hA hB
      go_wp2_with fail
      refine wp_region_any (by kernel_rfl) ?_
      refine wpAny_inv (fun L a v => ∃ s9 s10 s18 s19 s20 s21 s22 s23, a = ⟨#[.string nMax, .agg #[.slice a1 m c1, .slice b1 n d1], .agg #[.slice a2 m c2, .slice b2 n d2], undef, .pointer (some ⟨w.heap.size, 0, none⟩), .pointer (some ⟨w.heap.size + 1, 0, none⟩), .pointer (some ⟨w.heap.size + 1 + 1, 0, none⟩), u7, .int .i64 (k : Int), s9, s10, u11, .int .i64 (k : Int), .pointer (some ⟨w.heap.size, 1, none⟩), .slice b1 n d1, .int .i64 (n : Int), .bool true, u17, u18, s18, s19, s20, s21, s22, s23, u25, u26, u27, u28, u29, u30, u31, u32, u33, u34, u35, u36, u37, undef, undef, undef, undef], []⟩ ∧ Pv wr (.agg #[.slice a1 m c1, .slice b1 n d1]) (.agg #[.slice a2 m c2, .slice b2 n d2]) (.int .i64 (k : Int)) P1 Q1 P2 Q2 L v s9 s10 s18 s19 s20 s21 s22 s23) ?_ ?_ _ _ _ _ (by decide) ?_
      · intro L a v i hI hi
        obtain ⟨s9, s10, s18, s19, s20, s21, s22, s23, rfl, hP⟩ := hI
        obtain ⟨hu, o, ho, haf⟩ := mem_ready.1 hi
        have hlt : i < 10 := (Array.getElem?_eq_some_iff.1 ho).1
        have hZ := HZ.out.below hP.bl
        have k0 := hZ.a0
        have k1 := hZ.a1
        have k2 := hZ.b0
        have k3 := hZ.b1
        rcases (by omega : i = 0 ∨ i = 1 ∨ i = 2 ∨ i = 3 ∨ i = 4 ∨ i = 5 ∨ i = 6 ∨ i = 7 ∨ i = 8 ∨ i = 9) with rfl | rfl | rfl | rfl | rfl | rfl | rfl | rfl | rfl | rfl
        all_goals (simp only [List.getElem?_toArray, List.getElem?_cons_zero, List.getElem?_cons_succ, Option.some.injEq] at ho; subst ho)
        · refine step_run rfl rfl ?_
          go_simp
          exact ⟨_, _, _, _, _, _, _, _, ⟨rfl, rfl, rfl, rfl, rfl, rfl, rfl, rfl⟩, hP.t0⟩
        · refine step_run rfl rfl ?_
          go_simp
          exact ⟨_, _, _, _, _, _, _, _, ⟨rfl, rfl, rfl, rfl, rfl, rfl, rfl, rfl⟩, hP.t1⟩
        · have g1 := hP.h0 (haf { on := 0, ground := .data } (by simp) rfl)
          have g2 := hP.h1 (haf { on := 1, ground := .data } (by simp) rfl)
          subst g1 g2
          refine step_run rfl rfl ?_
          unfold Oper.wp
          rw [run_two cf36 (.tmp 19) (.tmp 20) 25 3 rfl _ _ rfl rfl]
          refine (HA.out v hP.bl).mono ?_
          rintro e v2 ⟨rfl, hb⟩
          have hP2 := hP.t2 hb
          go_simp
          exact ⟨_, _, _, _, _, _, _, _, ⟨rfl, rfl, rfl, rfl, rfl, rfl, rfl, rfl⟩, hP2⟩
        · refine step_run rfl rfl ?_
          go_simp
          exact ⟨_, _, _, _, _, _, _, _, ⟨rfl, rfl, rfl, rfl, rfl, rfl, rfl, rfl⟩, hP.t3⟩
        · refine step_run rfl rfl ?_
          go_simp
          exact ⟨_, _, _, _, _, _, _, _, ⟨rfl, rfl, rfl, rfl, rfl, rfl, rfl, rfl⟩, hP.t4⟩
        · have g1 := hP.h3 (haf { on := 3, ground := .data } (by simp) rfl)
          have g2 := hP.h4 (haf { on := 4, ground := .data } (by simp) rfl)
          subst g1 g2
          refine step_run rfl rfl ?_
          unfold Oper.wp
          rw [run_two cf36 (.tmp 22) (.tmp 23) 25 3 rfl _ _ rfl rfl]
          refine (HB.out v hP.bl).mono ?_
          rintro e v2 ⟨rfl, hb⟩
          have hP2 := hP.t5 hb
          go_simp
          exact ⟨_, _, _, _, _, _, _, _, ⟨rfl, rfl, rfl, rfl, rfl, rfl, rfl, rfl⟩, hP2⟩
        · have hP2 := hP.t6 (off_of hu)
          refine step_run rfl rfl ?_
          go_simp
          exact ⟨_, _, _, _, _, _, _, _, ⟨rfl, rfl, rfl, rfl, rfl, rfl, rfl, rfl⟩, hP2⟩
        · have hP2 := hP.t7 (off_of hu)
          refine step_run rfl rfl ?_
          go_simp
          exact ⟨_, _, _, _, _, _, _, _, ⟨rfl, rfl, rfl, rfl, rfl, rfl, rfl, rfl⟩, hP2⟩
        · have ga := haf { on := 6, ground := .data } (by simp) rfl
          obtain ⟨X, e9, hx, hc⟩ := hP.h6 ga
          have g2 := hP.h2 (haf { on := 2, ground := .data } (by simp) rfl)
          have hne : ¬ s10 = s9 := fun c => hP.ne (haf { on := 6, ground := .data } (by simp) rfl) (haf { on := 7, ground := .phase } (by simp) rfl) c.symm
          rw [cel_off (off_of hu)] at hc
          subst e9 g2
          have hP2 := hP.t8 hx hc ga hne
          have y0 : v.cell? ⟨X, 0, none⟩ = some (.string ⟨#[]⟩) := by simp [World.cell?, hc]
          have y1 : v.cell? ⟨X, 1, none⟩ = some (.string ⟨#[]⟩) := by simp [World.cell?, hc]
          have y2 : v.frozen? ⟨X, 0, none⟩ = false := by simp [World.frozen?, hc]
          have y3 : v.frozen? ⟨X, 1, none⟩ = false := by simp [World.frozen?, hc]
          refine step_run rfl rfl ?_
          go_simp
          exact ⟨_, _, _, _, _, _, _, _, ⟨rfl, rfl, rfl, rfl, rfl, rfl, rfl, rfl⟩, hP2⟩
        · have ga := haf { on := 7, ground := .data } (by simp) rfl
          obtain ⟨X, e9, hx, hc⟩ := hP.h7 ga
          have g2 := hP.h5 (haf { on := 5, ground := .data } (by simp) rfl)
          have hne : ¬ s9 = s10 := fun c => hP.ne (haf { on := 6, ground := .phase } (by simp) rfl) (haf { on := 7, ground := .data } (by simp) rfl) c
          rw [cel_off (off_of hu)] at hc
          subst e9 g2
          have hP2 := hP.t9 hx hc ga hne
          have y0 : v.cell? ⟨X, 0, none⟩ = some (.string ⟨#[]⟩) := by simp [World.cell?, hc]
          have y1 : v.cell? ⟨X, 1, none⟩ = some (.string ⟨#[]⟩) := by simp [World.cell?, hc]
          have y2 : v.frozen? ⟨X, 0, none⟩ = false := by simp [World.frozen?, hc]
          have y3 : v.frozen? ⟨X, 1, none⟩ = false := by simp [World.frozen?, hc]
          refine step_run rfl rfl ?_
          go_simp
          exact ⟨_, _, _, _, _, _, _, _, ⟨rfl, rfl, rfl, rfl, rfl, rfl, rfl, rfl⟩, hP2⟩
      · intro L a v hI hr
        obtain ⟨s9, s10, s18, s19, s20, s21, s22, s23, rfl, hP⟩ := hI
        have hno := List.eq_nil_iff_forall_not_mem.1 hr
        have g0 : on L 0 := Decidable.byContradiction fun hc => hno 0 (mem_ready.2 ⟨off (by rw [hP.sz]; decide) hc, _, rfl, fun e he => by simp at he⟩)
        have g1 : on L 1 := Decidable.byContradiction fun hc => hno 1 (mem_ready.2 ⟨off (by rw [hP.sz]; decide) hc, _, rfl, fun e he => by simp at he⟩)
        have g2 : on L 2 := by
          refine Decidable.byContradiction fun hc => hno 2 (mem_ready.2 ⟨off (by rw [hP.sz]; decide) hc, _, rfl, ?_⟩)
          intro e he hb
          simp at he
          rcases he with rfl | rfl
          all_goals first | assumption | exact absurd hb (by decide)
        have g3 : on L 3 := Decidable.byContradiction fun hc => hno 3 (mem_ready.2 ⟨off (by rw [hP.sz]; decide) hc, _, rfl, fun e he => by simp at he⟩)
        have g4 : on L 4 := Decidable.byContradiction fun hc => hno 4 (mem_ready.2 ⟨off (by rw [hP.sz]; decide) hc, _, rfl, fun e he => by simp at he⟩)
        have g5 : on L 5 := by
          refine Decidable.byContradiction fun hc => hno 5 (mem_ready.2 ⟨off (by rw [hP.sz]; decide) hc, _, rfl, ?_⟩)
          intro e he hb
          simp at he
          rcases he with rfl | rfl | rfl
          all_goals first | assumption | exact absurd hb (by decide)
        have g6 : on L 6 := Decidable.byContradiction fun hc => hno 6 (mem_ready.2 ⟨off (by rw [hP.sz]; decide) hc, _, rfl, fun e he => by simp at he⟩)
        have g7 : on L 7 := Decidable.byContradiction fun hc => hno 7 (mem_ready.2 ⟨off (by rw [hP.sz]; decide) hc, _, rfl, fun e he => by simp at he⟩)
        have g8 : on L 8 := by
          refine Decidable.byContradiction fun hc => hno 8 (mem_ready.2 ⟨off (by rw [hP.sz]; decide) hc, _, rfl, ?_⟩)
          intro e he hb
          simp at he
          rcases he with rfl | rfl | rfl | rfl | rfl | rfl | rfl | rfl | rfl | rfl | rfl
          all_goals first | assumption | exact absurd hb (by decide)
        have g9 : on L 9 := by
          refine Decidable.byContradiction fun hc => hno 9 (mem_ready.2 ⟨off (by rw [hP.sz]; decide) hc, _, rfl, ?_⟩)
          intro e he hb
          simp at he
          rcases he with rfl | rfl | rfl | rfl | rfl | rfl | rfl | rfl | rfl | rfl | rfl | rfl
          all_goals first | assumption | exact absurd hb (by decide)
        have hne9 := hP.ne g6 g7
        obtain ⟨X, eX, hX, hcX⟩ := hP.h6 g6
        obtain ⟨Y, eY, hY, hcY⟩ := hP.h7 g7
        rw [cel_on g8] at hcX
        rw [cel_on g9] at hcY
        have e18 := hP.h0 g0
        have e19 := hP.h1 g1
        have e20 := hP.h2 g2
        have e21 := hP.h3 g3
        have e22 := hP.h4 g4
        have e23 := hP.h5 g5
        have hbl := hP.bl
        clear hP g0 g1 g2 g3 g4 g5 g6 g7 g8 g9 hr hno
        subst eX eY e18 e19 e20 e21 e22 e23
        have hXY : X ≠ Y := fun c => hne9 (by rw [c])
        have PX : Pc v X (.string P1) (.string Q1) := Pc.of hcX
        have PY : Pc v Y (.string P2) (.string Q2) := Pc.of hcY
        have y0 := PX.c0
        have y1 := PX.c1
        have y2 := PY.c0
        have y3 := PY.c1
        have HP : Hid _ := And.intro PX PY
        clear hcX hcY PX PY
        dsimp only
        have HVb : Hid _ := hbl
        clear hbl
        go_wp2_with fail
        refine (hN _).mono ?_
        rintro e v2 ⟨rfl, hb2⟩
        have PX := HP.out.1.below hb2
        have PY := HP.out.2.below hb2
        have HB2 : Hid (Below wr.heap.size wr v2) := bl_trans HVb.out hb2
        clear hb2 y0 y1 y2 y3 hN HP HVb
        have HXY : Hid (wr.heap.size ≤ X ∧ wr.heap.size ≤ Y ∧ X ≠ Y) := ⟨hX, hY, hXY⟩
        clear hX hY hXY
        have x0 := PX.c0
        have x1 := PX.c1
        have x2 := PX.f0
        have x3 := PX.f1
        have z0 := PY.c0
        have z1 := PY.c1
        have z2 := PY.f0
        have z3 := PY.f1
        have HP : Hid _ := And.intro PX PY
        clear PX PY
        cases less
        · have e3 : P1 = P3 := HV.out.1.symm
          have e4 : Q1 = Q3 := HV.out.2.symm
          subst e3 e4
          have HBL : Hid (Below wr.heap.size wr (v2.alloc (.cells #[.string P1, .string Q1] 51))) := bl_alloc HB2.out _
          have hown2 : (v2.alloc (.cells #[.string P1, .string Q1] 51)).ownsRow (w.heap.size + 1 + 1 + 1) 51 2 u7 k L0 := owns_below hown HBL.out
          have HZ2 : Hid (Zb w (v2.alloc (.cells #[.string P1, .string Q1] 51)) (.slice a1 m c1) (.slice b1 n d1) (.slice a2 m c2) (.slice b2 n d2)) := HZ.out.below HBL.out
          have hs : v2.heap.size = v2.heap.size := by first | rfl | simp [World.setCell]
          have hnw : ∀ (j : Nat) (u : Value), ([Value.string P1, Value.string Q1] : List Value)[j]? = some u → (v2.alloc (.cells #[.string P1, .string Q1] 51)).cell? ((⟨v2.heap.size, 0, none⟩ : Addr).add j) = some u := by
            intro j u hj
            match j, hj with
            | 0, hj => simp at hj; subst hj; rw [row_add, ← hs, World.cell?_alloc_new]; rfl
            | 1, hj => simp at hj; subst hj; rw [row_add, ← hs, World.cell?_alloc_new]; rfl
            | j + 2, hj => simp at hj
          clear hs
          have HNW : Hid _ := hnw
          have HO2 : Hid _ := hown2
          clear hnw hown2
          go_wp2_with (first | (at_builtin; refine wpList_append_own _ rfl _ _ 54 rfl (w.heap.size + 1 + 1 + 1) 51 i0 (.agg #[.string ByteArray.empty, .string ByteArray.empty]) 2 32 Tryz.underlying54 hi hz0 hz1 hz2 rfl (by decide) _ k L0 rfl HO2.out ⟨v2.heap.size, 0, none⟩ 1 1 [.string P1, .string Q1] rfl rfl HNW.out (by simp [Value.oneCell']) (by unfold maxLen; omega) (by omega) (by have := HZ2.out.bx.lt; omega) ?_))
          intro v' w4 hown4 hgrow4 _
          have HZ4 : Hid (Zb w w4 (.slice a1 m c1) (.slice b1 n d1) (.slice a2 m c2) (.slice b2 n d2)) := HZ2.out.keep ((Below.refl (w.heap.size + 1 + 1 + 1) _).grown hgrow4 (by have := HZ2.out.bx.lt; omega) (fun b hb => (World.ownsRow.lt HO2.out b hb).1))
          have HO4 : Hid (w4.ownsRow (w.heap.size + 1 + 1 + 1) 51 2 v' (k + 1) (L0 ++ [.string P1, .string Q1])) := hown4
          clear hown4 hgrow4
          go_wp2
          refine ⟨⟨k + 1, v', by omega, by simp, rfl, HZ4.out, ?_⟩, by simp [intOf]; omega⟩
          rw [HL.out]
          exact HO4.out
        · have e3 : P2 = P3 := HV.out.1.symm
          have e4 : Q2 = Q3 := HV.out.2.symm
          subst e3 e4
          have HBL : Hid (Below wr.heap.size wr (((v2.setCell ⟨X, 0, none⟩ (.string P2)).setCell ⟨X, 1, none⟩ (.string Q2)).alloc (.cells #[.string P2, .string Q2] 51))) := bl_alloc (bl_set (bl_set HB2.out HXY.out.1 _) HXY.out.1 _) _
          have hown2 : (((v2.setCell ⟨X, 0, none⟩ (.string P2)).setCell ⟨X, 1, none⟩ (.string Q2)).alloc (.cells #[.string P2, .string Q2] 51)).ownsRow (w.heap.size + 1 + 1 + 1) 51 2 u7 k L0 := owns_below hown HBL.out
          have HZ2 : Hid (Zb w (((v2.setCell ⟨X, 0, none⟩ (.string P2)).setCell ⟨X, 1, none⟩ (.string Q2)).alloc (.cells #[.string P2, .string Q2] 51)) (.slice a1 m c1) (.slice b1 n d1) (.slice a2 m c2) (.slice b2 n d2)) := HZ.out.below HBL.out
          have hs : ((v2.setCell ⟨X, 0, none⟩ (.string P2)).setCell ⟨X, 1, none⟩ (.string Q2)).heap.size = v2.heap.size := by first | rfl | simp [World.setCell]
          have hnw : ∀ (j : Nat) (u : Value), ([Value.string P2, Value.string Q2] : List Value)[j]? = some u → (((v2.setCell ⟨X, 0, none⟩ (.string P2)).setCell ⟨X, 1, none⟩ (.string Q2)).alloc (.cells #[.string P2, .string Q2] 51)).cell? ((⟨v2.heap.size, 0, none⟩ : Addr).add j) = some u := by
            intro j u hj
            match j, hj with
            | 0, hj => simp at hj; subst hj; rw [row_add, ← hs, World.cell?_alloc_new]; rfl
            | 1, hj => simp at hj; subst hj; rw [row_add, ← hs, World.cell?_alloc_new]; rfl
            | j + 2, hj => simp at hj
          clear hs
          have HNW : Hid _ := hnw
          have HO2 : Hid _ := hown2
          clear hnw hown2
          go_wp2_with (first | (at_builtin; refine wpList_append_own _ rfl _ _ 54 rfl (w.heap.size + 1 + 1 + 1) 51 i0 (.agg #[.string ByteArray.empty, .string ByteArray.empty]) 2 32 Tryz.underlying54 hi hz0 hz1 hz2 rfl (by decide) _ k L0 rfl HO2.out ⟨v2.heap.size, 0, none⟩ 1 1 [.string P2, .string Q2] rfl rfl HNW.out (by simp [Value.oneCell']) (by unfold maxLen; omega) (by omega) (by have := HZ2.out.bx.lt; omega) ?_))
          intro v' w4 hown4 hgrow4 _
          have HZ4 : Hid (Zb w w4 (.slice a1 m c1) (.slice b1 n d1) (.slice a2 m c2) (.slice b2 n d2)) := HZ2.out.keep ((Below.refl (w.heap.size + 1 + 1 + 1) _).grown hgrow4 (by have := HZ2.out.bx.lt; omega) (fun b hb => (World.ownsRow.lt HO2.out b hb).1))
          have HO4 : Hid (w4.ownsRow (w.heap.size + 1 + 1 + 1) 51 2 v' (k + 1) (L0 ++ [.string P2, .string Q2])) := hown4
          clear hown4 hgrow4
          go_wp2
          refine ⟨⟨k + 1, v', by omega, by simp, rfl, HZ4.out, ?_⟩, by simp [intOf]; omega⟩
          rw [HL.out]
          exact HO4.out
      · exact ⟨_, _, _, _, _, _, _, _, rfl, ⟨by simp, fun g => absurd g (by simp [on]), fun g => absurd g (by simp [on]), fun g => absurd g (by simp [on]), fun g => absurd g (by simp [on]), fun g => absurd g (by simp [on]), fun g => absurd g (by simp [on]), bl_drew (Below.refl _ _), fun g => absurd g (by simp [on]), fun g => absurd g (by simp [on]), fun g => absurd g (by simp [on]), fun g => absurd g (by simp [on]), fun g => absurd g (by simp [on])⟩⟩
    · have ek : k = n := by omega
      subst ek
      obtain ⟨ao, cap, ev, hrow⟩ := row_own2 hown
      subst ev
      have e1 : (List.zipWith kMax qs rs).take k = List.zipWith kMax qs rs := List.take_of_length_le (by rw [HLn.out]; exact Nat.le_refl _)
      rw [e1] at hrow
      have hO := of_any a1 ao zs (List.zipWith kMax qs rs) c1 cap wr ((HT1.out.below hZ.bl).tm.s) hrow (by rw [HLn.out]; omega) (fun q hq => (HTr.out.b q hq).mono (by omega))
      rw [HLn.out, HT1.out.hm] at hO
      have HZ : Hid (Zb w wr (.slice a1 m c1) (.slice b1 k d1) (.slice a2 m c2) (.slice b2 k d2)) := hZ
      have k0 := hZ.a0
      have k1 := hZ.a1
      clear hZ hrow hown e1
      go_wp2_with fail
      refine hO.mono ?_
      rintro e w5 ⟨c5, b5, d5, rfl, hr5, hf5, hb5⟩
      have hZ5 := HZ.out.below hb5
      have HT5 : Hid (Tt w5 0 a1 b5 zs m k (List.zipWith kMax qs rs) 40) := ⟨⟨((HT1.out.below HZ.out.bl).below hb5).tm.s, hr5, fun _ _ _ _ => Nat.zero_le _, fun _ _ _ _ => Nat.zero_le _⟩, HTr.out, HT1.out.hm, HLn.out⟩
      have HF5 : Hid (Sp.Sl w a1 zs ∧ Fresh wr.heap.size b5) := ⟨HT1.out.tm.s, hf5⟩
      have hx0 := hZ5.bx.c0
      have hx1 := hZ5.bx.c1
      have hx2 := hZ5.bx.f0
      have hx3 := hZ5.bx.f1
      have HZ5 : Hid (Zb w w5 (.slice a1 m c1) (.slice b1 k d1) (.slice a2 m c2) (.slice b2 k d2)) := hZ5
      clear hZ5 hr5 hf5 hb5 hO k0 k1
      go_wp2
      refine bodyPost_ret (v := .agg #[.slice a1 m c5, .slice b5 k d5]) (by simp [results, Tryz.results24, go_sem, (two_set HZ5.out.bx.c0 HZ5.out.bx.c1 _ _).1, (two_set HZ5.out.bx.c0 HZ5.out.bx.c1 _ _).2]) rfl ⟨a1, c5, b5, d5, rfl, ?_, ?_⟩
      · have hbl := bl_set (bl_set HZ5.out.bl (a := ⟨w.heap.size + 1 + 1, 0, none⟩) (by simp; omega) (.slice a1 m c5)) (a := ⟨w.heap.size + 1 + 1, 1, none⟩) (by simp; omega) (.slice b5 k d5)
        refine ⟨⟨HF5.out.1.below hbl, ?_, fun _ _ _ _ => Nat.zero_le _, fun _ _ _ _ => Nat.zero_le _⟩, HTr.out, HT1.out.hm, HLn.out⟩
        have hlt := HZ.out.bx.lt
        exact row_set (row_set HT5.out.tm.r HF5.out.2 (by simpa using hlt) _) HF5.out.2 (by simpa using hlt) _
      · exact bl_set (bl_set HZ5.out.bl (by simp; omega) _) (by simp; omega) _

set_option maxHeartbeats 8000000 in
theorem rtwo_above (a1 b1 a2 b2 : Option Addr) (c1 d1 c2 d2 m n B1 B2 : Nat) (zs : List Int) (qs rs : List Rat) (w : World) (h1 : Tt w B1 a1 b1 zs m n qs 40) (h2 : Tt w B2 a2 b2 zs m n rs 40) :
    Calls Tryz.prog 24 #[.string nAbove, .agg #[.slice a1 m c1, .slice b1 n d1], .agg #[.slice a2 m c2, .slice b2 n d2]] w fun e w' => ∃ a3 c3 b3 d3, e = .returned (.agg #[.slice a3 m c3, .slice b3 n d3]) ∧ Tt w' 0 a3 b3 zs m n (List.zipWith kAbove qs rs) 40 ∧ Below w.heap.size w w' := by
  obtain ⟨i0, hi, hz0, hz1, hz2⟩ := info_parts inf51
  have hle := h1.le
  have HTr : Hid (Tr zs (List.zipWith kAbove qs rs) 40) := h1.tr.zip h2.tr fun x y hx hy => bd_above hx
  have HLn : Hid ((List.zipWith kAbove qs rs).length = n) := by unfold Hid; rw [zip_len _ (by rw [h1.hn, h2.hn]), h1.hn]
  have HT1 : Hid _ := h1
  have HT2 : Hid _ := h2
  clear h1 h2
  go_enter Tryz.func24, Tryz.ntmps24
  go_wp2_with fail
  go_loopw [7, 8] (fun l i wr => ∃ (k : Nat) (v : Value), k ≤ n ∧ i = .int .i64 k ∧ l = v ∧ Zb w wr (.slice a1 m c1) (.slice b1 n d1) (.slice a2 m c2) (.slice b2 n d2) ∧ wr.ownsRow (w.heap.size + 1 + 1 + 1) 51 2 v k (frs ((List.zipWith kAbove qs rs).take k))) (fun _ i _ => n - (intOf i).toNat)
  case atStart => exact ⟨0, .slice none 0 0, by omega, rfl, rfl, Zb.new w _ _ _ _, World.ownsRow_nil _ _ _ _⟩
  case round =>
    obtain ⟨k, v, hk, rfl, rfl, hZ, hown⟩ := hrel
    by_cases h : k < n
    · have hA := fun (u : World) (hu : Below wr.heap.size wr u) => zat c1 d1 k (HT1.out.below (bl_trans hZ.bl hu)) h (by omega)
      have hB := fun (u : World) (hu : Below wr.heap.size wr u) => zat c2 d2 k (HT2.out.below (bl_trans hZ.bl hu)) h (by omega)
      have hN := fun (u : World) => rless_R (qs.getD k 0) (rs.getD k 0) 40 40 u (HT1.out.tr.b _ (mem_getD qs (by rw [HT1.out.hn]; exact h))) (HT2.out.tr.b _ (mem_getD rs (by rw [HT2.out.hn]; exact h))) (by omega)
      unfold fr at hN
      have HL : Hid (frs ((List.zipWith kAbove qs rs).take (k + 1)) = frs ((List.zipWith kAbove qs rs).take k) ++ [.string (W ((kAbove (qs.getD k 0) (rs.getD k 0)).num)), .string (S ((kAbove (qs.getD k 0) (rs.getD k 0)).den))]) := by
        unfold Hid
        have q1 : k < qs.length := by rw [HT1.out.hn]; exact h
        have q2 : k < rs.length := by rw [HT2.out.hn]; exact h
        rw [take_snoc _ (by rw [HLn.out]; exact h), frs_app, zip_at _ q1 q2]; rfl
      have HV : Hid (W (kAbove (qs.getD k 0) (rs.getD k 0)).num = (if decide (qs.getD k 0 < rs.getD k 0) then ⟨#[48]⟩ else ⟨#[49]⟩) ∧ S (kAbove (qs.getD k 0) (rs.getD k 0)).den = (if decide (qs.getD k 0 < rs.getD k 0) then ⟨#[49]⟩ else ⟨#[49]⟩)) := by
        unfold Hid kAbove
        by_cases hlt : qs.getD k 0 < rs.getD k 0
        · rw [if_pos hlt, decide_eq_true hlt, if_pos rfl, if_pos rfl]
          exact ⟨by decide +kernel, by decide +kernel⟩
        · rw [if_neg hlt, decide_eq_false hlt, if_neg (by decide), if_neg (by decide)]
          exact ⟨by decide +kernel, by decide +kernel⟩
      have k1 := hZ.a1
      have HZ : Hid (Zb w wr (.slice a1 m c1) (.slice b1 n d1) (.slice a2 m c2) (.slice b2 n d2)) := hZ
      clear hZ
      unfold fr at hA hB
      generalize W (kAbove (qs.getD k 0) (rs.getD k 0)).num = P3 at *
      generalize S (kAbove (qs.getD k 0) (rs.getD k 0)).den = Q3 at *
      generalize W (qs.getD k 0).num = P1 at *
      generalize S (qs.getD k 0).den = Q1 at *
      generalize W (rs.getD k 0).num = P2 at *
      generalize S (rs.getD k 0).den = Q2 at *
      generalize decide (qs.getD k 0 < rs.getD k 0) = less at *
      generalize frs ((List.zipWith kAbove qs rs).take k) = L0 at *
      have HA : Hid _ := hA
      have HB : Hid _ := hB
      clear hA hB
      go_wp2_with fail
      refine wp_region_any (by kernel_rfl) ?_
      refine wpAny_inv (fun L a v => ∃ s9 s10 s18 s19 s20 s21 s22 s23, a = ⟨#[.string nAbove, .agg #[.slice a1 m c1, .slice b1 n d1], .agg #[.slice a2 m c2, .slice b2 n d2], undef, .pointer (some ⟨w.heap.size, 0, none⟩), .pointer (some ⟨w.heap.size + 1, 0, none⟩), .pointer (some ⟨w.heap.size + 1 + 1, 0, none⟩), u7, .int .i64 (k : Int), s9, s10, u11, .int .i64 (k : Int), .pointer (some ⟨w.heap.size, 1, none⟩), .slice b1 n d1, .int .i64 (n : Int), .bool true, u17, u18, s18, s19, s20, s21, s22, s23, u25, u26, u27, u28, u29, u30, u31, u32, u33, u34, u35, u36, u37, undef, undef, undef, undef], []⟩ ∧ Pv wr (.agg #[.slice a1 m c1, .slice b1 n d1]) (.agg #[.slice a2 m c2, .slice b2 n d2]) (.int .i64 (k : Int)) P1 Q1 P2 Q2 L v s9 s10 s18 s19 s20 s21 s22 s23) ?_ ?_ _ _ _ _ (by decide) ?_
      · intro L a v i hI hi
        obtain ⟨s9, s10, s18, s19, s20, s21, s22, s23, rfl, hP⟩ := hI
        obtain ⟨hu, o, ho, haf⟩ := mem_ready.1 hi
        have hlt : i < 10 := (Array.getElem?_eq_some_iff.1 ho).1
        have hZ := HZ.out.below hP.bl
        have k0 := hZ.a0
        have k1 := hZ.a1
        have k2 := hZ.b0
        have k3 := hZ.b1
        rcases (by omega : i = 0 ∨ i = 1 ∨ i = 2 ∨ i = 3 ∨ i = 4 ∨ i = 5 ∨ i = 6 ∨ i = 7 ∨ i = 8 ∨ i = 9) with rfl | rfl | rfl | rfl | rfl | rfl | rfl | rfl | rfl | rfl
        all_goals (simp only [List.getElem?_toArray, List.getElem?_cons_zero, List.getElem?_cons_succ, Option.some.injEq] at ho; subst ho)
        · refine step_run rfl rfl ?_
          go_simp
          exact ⟨_, _, _, _, _, _, _, _, ⟨rfl, rfl, rfl, rfl, rfl, rfl, rfl, rfl⟩, hP.t0⟩
        · refine step_run rfl rfl ?_
          go_simp
          exact ⟨_, _, _, _, _, _, _, _, ⟨rfl, rfl, rfl, rfl, rfl, rfl, rfl, rfl⟩, hP.t1⟩
        · have g1 := hP.h0 (haf { on := 0, ground := .data } (by simp) rfl)
          have g2 := hP.h1 (haf { on := 1, ground := .data } (by simp) rfl)
          subst g1 g2
          refine step_run rfl rfl ?_
          unfold Oper.wp
          rw [run_two cf36 (.tmp 19) (.tmp 20) 25 3 rfl _ _ rfl rfl]
          refine (HA.out v hP.bl).mono ?_
          rintro e v2 ⟨rfl, hb⟩
          have hP2 := hP.t2 hb
          go_simp
          exact ⟨_, _, _, _, _, _, _, _, ⟨rfl, rfl, rfl, rfl, rfl, rfl, rfl, rfl⟩, hP2⟩
        · refine step_run rfl rfl ?_
          go_simp
          exact ⟨_, _, _, _, _, _, _, _, ⟨rfl, rfl, rfl, rfl, rfl, rfl, rfl, rfl⟩, hP.t3⟩
        · refine step_run rfl rfl ?_
          go_simp
          exact ⟨_, _, _, _, _, _, _, _, ⟨rfl, rfl, rfl, rfl, rfl, rfl, rfl, rfl⟩, hP.t4⟩
        · have g1 := hP.h3 (haf { on := 3, ground := .data } (by simp) rfl)
          have g2 := hP.h4 (haf { on := 4, ground := .data } (by simp) rfl)
          subst g1 g2
          refine step_run rfl rfl ?_
          unfold Oper.wp
          rw [run_two cf36 (.tmp 22) (.tmp 23) 25 3 rfl _ _ rfl rfl]
          refine (HB.out v hP.bl).mono ?_
          rintro e v2 ⟨rfl, hb⟩
          have hP2 := hP.t5 hb
          go_simp
          exact ⟨_, _, _, _, _, _, _, _, ⟨rfl, rfl, rfl, rfl, rfl, rfl, rfl, rfl⟩, hP2⟩
        · have hP2 := hP.t6 (off_of hu)
          refine step_run rfl rfl ?_
          go_simp
          exact ⟨_, _, _, _, _, _, _, _, ⟨rfl, rfl, rfl, rfl, rfl, rfl, rfl, rfl⟩, hP2⟩
        · have hP2 := hP.t7 (off_of hu)
          refine step_run rfl rfl ?_
          go_simp
          exact ⟨_, _, _, _, _, _, _, _, ⟨rfl, rfl, rfl, rfl, rfl, rfl, rfl, rfl⟩, hP2⟩
        · have ga := haf { on := 6, ground := .data } (by simp) rfl
          obtain ⟨X, e9, hx, hc⟩ := hP.h6 ga
          have g2 := hP.h2 (haf { on := 2, ground := .data } (by simp) rfl)
          have hne : ¬ s10 = s9 := fun c => hP.ne (haf { on := 6, ground := .data } (by simp) rfl) (haf { on := 7, ground := .phase } (by simp) rfl) c.symm
          rw [cel_off (off_of hu)] at hc
          subst e9 g2
          have hP2 := hP.t8 hx hc ga hne
          have y0 : v.cell? ⟨X, 0, none⟩ = some (.string ⟨#[]⟩) := by simp [World.cell?, hc]
          have y1 : v.cell? ⟨X, 1, none⟩ = some (.string ⟨#[]⟩) := by simp [World.cell?, hc]
          have y2 : v.frozen? ⟨X, 0, none⟩ = false := by simp [World.frozen?, hc]
          have y3 : v.frozen? ⟨X, 1, none⟩ = false := by simp [World.frozen?, hc]
          refine step_run rfl rfl ?_
          go_simp
          exact ⟨_, _, _, _, _, _, _, _, ⟨rfl, rfl, rfl, rfl, rfl, rfl, rfl, rfl⟩, hP2⟩
        · have ga := haf { on := 7, ground := .data } (by simp) rfl
          obtain ⟨X, e9, hx, hc⟩ := hP.h7 ga
          have g2 := hP.h5 (haf { on := 5, ground := .data } (by simp) rfl)
          have hne : ¬ s9 = s10 := fun c => hP.ne (haf { on := 6, ground := .phase } (by simp) rfl) (haf { on := 7, ground := .data } (by simp) rfl) c
          rw [cel_off (off_of hu)] at hc
          subst e9 g2
          have hP2 := hP.t9 hx hc ga hne
          have y0 : v.cell? ⟨X, 0, none⟩ = some (.string ⟨#[]⟩) := by simp [World.cell?, hc]
          have y1 : v.cell? ⟨X, 1, none⟩ = some (.string ⟨#[]⟩) := by simp [World.cell?, hc]
          have y2 : v.frozen? ⟨X, 0, none⟩ = false := by simp [World.frozen?, hc]
          have y3 : v.frozen? ⟨X, 1, none⟩ = false := by simp [World.frozen?, hc]
          refine step_run rfl rfl ?_
          go_simp
          exact ⟨_, _, _, _, _, _, _, _, ⟨rfl, rfl, rfl, rfl, rfl, rfl, rfl, rfl⟩, hP2⟩
      · intro L a v hI hr
        obtain ⟨s9, s10, s18, s19, s20, s21, s22, s23, rfl, hP⟩ := hI
        have hno := List.eq_nil_iff_forall_not_mem.1 hr
        have g0 : on L 0 := Decidable.byContradiction fun hc => hno 0 (mem_ready.2 ⟨off (by rw [hP.sz]; decide) hc, _, rfl, fun e he => by simp at he⟩)
        have g1 : on L 1 := Decidable.byContradiction fun hc => hno 1 (mem_ready.2 ⟨off (by rw [hP.sz]; decide) hc, _, rfl, fun e he => by simp at he⟩)
        have g2 : on L 2 := by
          refine Decidable.byContradiction fun hc => hno 2 (mem_ready.2 ⟨off (by rw [hP.sz]; decide) hc, _, rfl, ?_⟩)
          intro e he hb
          simp at he
          rcases he with rfl | rfl
          all_goals first | assumption | exact absurd hb (by decide)
        have g3 : on L 3 := Decidable.byContradiction fun hc => hno 3 (mem_ready.2 ⟨off (by rw [hP.sz]; decide) hc, _, rfl, fun e he => by simp at he⟩)
        have g4 : on L 4 := Decidable.byContradiction fun hc => hno 4 (mem_ready.2 ⟨off (by rw [hP.sz]; decide) hc, _, rfl, fun e he => by simp at he⟩)
        have g5 : on L 5 := by
          refine Decidable.byContradiction fun hc => hno 5 (mem_ready.2 ⟨off (by rw [hP.sz]; decide) hc, _, rfl, ?_⟩)
          intro e he hb
          simp at he
          rcases he with rfl | rfl | rfl
          all_goals first | assumption | exact absurd hb (by decide)
        have g6 : on L 6 := Decidable.byContradiction fun hc => hno 6 (mem_ready.2 ⟨off (by rw [hP.sz]; decide) hc, _, rfl, fun e he => by simp at he⟩)
        have g7 : on L 7 := Decidable.byContradiction fun hc => hno 7 (mem_ready.2 ⟨off (by rw [hP.sz]; decide) hc, _, rfl, fun e he => by simp at he⟩)
        have g8 : on L 8 := by
          refine Decidable.byContradiction fun hc => hno 8 (mem_ready.2 ⟨off (by rw [hP.sz]; decide) hc, _, rfl, ?_⟩)
          intro e he hb
          simp at he
          rcases he with rfl | rfl | rfl | rfl | rfl | rfl | rfl | rfl | rfl | rfl | rfl
          all_goals first | assumption | exact absurd hb (by decide)
        have g9 : on L 9 := by
          refine Decidable.byContradiction fun hc => hno 9 (mem_ready.2 ⟨off (by rw [hP.sz]; decide) hc, _, rfl, ?_⟩)
          intro e he hb
          simp at he
          rcases he with rfl | rfl | rfl | rfl | rfl | rfl | rfl | rfl | rfl | rfl | rfl | rfl
          all_goals first | assumption | exact absurd hb (by decide)
        have hne9 := hP.ne g6 g7
        obtain ⟨X, eX, hX, hcX⟩ := hP.h6 g6
        obtain ⟨Y, eY, hY, hcY⟩ := hP.h7 g7
        rw [cel_on g8] at hcX
        rw [cel_on g9] at hcY
        have e18 := hP.h0 g0
        have e19 := hP.h1 g1
        have e20 := hP.h2 g2
        have e21 := hP.h3 g3
        have e22 := hP.h4 g4
        have e23 := hP.h5 g5
        have hbl := hP.bl
        clear hP g0 g1 g2 g3 g4 g5 g6 g7 g8 g9 hr hno
        subst eX eY e18 e19 e20 e21 e22 e23
        have hXY : X ≠ Y := fun c => hne9 (by rw [c])
        have PX : Pc v X (.string P1) (.string Q1) := Pc.of hcX
        have PY : Pc v Y (.string P2) (.string Q2) := Pc.of hcY
        have y0 := PX.c0
        have y1 := PX.c1
        have y2 := PY.c0
        have y3 := PY.c1
        have HP : Hid _ := And.intro PX PY
        clear hcX hcY PX PY
        dsimp only
        have HVb : Hid _ := hbl
        clear hbl
        go_wp2_with fail
        refine (hN _).mono ?_
        rintro e v2 ⟨rfl, hb2⟩
        have PX := HP.out.1.below hb2
        have PY := HP.out.2.below hb2
        have HB2 : Hid (Below wr.heap.size wr v2) := bl_trans HVb.out hb2
        clear hb2 y0 y1 y2 y3 hN HP HVb
        have HXY : Hid (wr.heap.size ≤ X ∧ wr.heap.size ≤ Y ∧ X ≠ Y) := ⟨hX, hY, hXY⟩
        clear hX hY hXY
        have x0 := PX.c0
        have x1 := PX.c1
        have x2 := PX.f0
        have x3 := PX.f1
        have z0 := PY.c0
        have z1 := PY.c1
        have z2 := PY.f0
        have z3 := PY.f1
        have HP : Hid _ := And.intro PX PY
        clear PX PY
        have n1 : (X = Y) = False := eq_false HXY.out.2.2
        have n2 : (Y = X) = False := eq_false (Ne.symm HXY.out.2.2)
        go_upto_region 9 with fail
        obtain ⟨v5, hv5⟩ : ∃ v5, v5 = ((((v2.setCell ⟨X, 0, none⟩ (.string ⟨#[49]⟩)).setCell ⟨X, 1, none⟩ (.string ⟨#[49]⟩)).setCell ⟨Y, 0, none⟩ (.string ⟨#[48]⟩)).setCell ⟨Y, 1, none⟩ (.string ⟨#[49]⟩)) := ⟨_, rfl⟩
        have QX : Pc v5 X (.string ⟨#[49]⟩) (.string ⟨#[49]⟩) := by rw [hv5]; exact (HP.out.1.put _ _).apart HXY.out.2.2 _ _
        have QY : Pc v5 Y (.string ⟨#[48]⟩) (.string ⟨#[49]⟩) := by rw [hv5]; exact (HP.out.2.apart (Ne.symm HXY.out.2.2) _ _).put _ _
        have HB5 : Hid (Below wr.heap.size wr v5) := by unfold Hid; rw [hv5]; exact (bl_set (bl_set (bl_set (bl_set HB2.out HXY.out.1 _) HXY.out.1 _) HXY.out.2.1 _) HXY.out.2.1 _)
        rw [← hv5]
        clear hv5 n1 n2 x0 x1 x2 x3 z0 z1 z2 z3 HP HB2
        have x0 := QX.c0
        have x1 := QX.c1
        have x2 := QX.f0
        have x3 := QX.f1
        have z0 := QY.c0
        have z1 := QY.c1
        clear QX QY
        cases less
        · have e3 : ⟨#[49]⟩ = P3 := HV.out.1.symm
          have e4 : ⟨#[49]⟩ = Q3 := HV.out.2.symm
          subst e3 e4
          have HBL : Hid (Below wr.heap.size wr (v5.alloc (.cells #[.string ⟨#[49]⟩, .string ⟨#[49]⟩] 51))) := bl_alloc HB5.out _
          have hown2 : (v5.alloc (.cells #[.string ⟨#[49]⟩, .string ⟨#[49]⟩] 51)).ownsRow (w.heap.size + 1 + 1 + 1) 51 2 u7 k L0 := owns_below hown HBL.out
          have HZ2 : Hid (Zb w (v5.alloc (.cells #[.string ⟨#[49]⟩, .string ⟨#[49]⟩] 51)) (.slice a1 m c1) (.slice b1 n d1) (.slice a2 m c2) (.slice b2 n d2)) := HZ.out.below HBL.out
          have hs : v5.heap.size = v5.heap.size := by first | rfl | simp [World.setCell]
          have hnw : ∀ (j : Nat) (u : Value), ([Value.string ⟨#[49]⟩, Value.string ⟨#[49]⟩] : List Value)[j]? = some u → (v5.alloc (.cells #[.string ⟨#[49]⟩, .string ⟨#[49]⟩] 51)).cell? ((⟨v5.heap.size, 0, none⟩ : Addr).add j) = some u := by
            intro j u hj
            match j, hj with
            | 0, hj => simp at hj; subst hj; rw [row_add, ← hs, World.cell?_alloc_new]; rfl
            | 1, hj => simp at hj; subst hj; rw [row_add, ← hs, World.cell?_alloc_new]; rfl
            | j + 2, hj => simp at hj
          clear hs
          have HNW : Hid _ := hnw
          have HO2 : Hid _ := hown2
          clear hnw hown2
          go_wp2_with (first | (at_builtin; refine wpList_append_own _ rfl _ _ 54 rfl (w.heap.size + 1 + 1 + 1) 51 i0 (.agg #[.string ByteArray.empty, .string ByteArray.empty]) 2 32 Tryz.underlying54 hi hz0 hz1 hz2 rfl (by decide) _ k L0 rfl HO2.out ⟨v5.heap.size, 0, none⟩ 1 1 [.string ⟨#[49]⟩, .string ⟨#[49]⟩] rfl rfl HNW.out (by simp [Value.oneCell']) (by unfold maxLen; omega) (by omega) (by have := HZ2.out.bx.lt; omega) ?_))
          intro v' w4 hown4 hgrow4 _
          have HZ4 : Hid (Zb w w4 (.slice a1 m c1) (.slice b1 n d1) (.slice a2 m c2) (.slice b2 n d2)) := HZ2.out.keep ((Below.refl (w.heap.size + 1 + 1 + 1) _).grown hgrow4 (by have := HZ2.out.bx.lt; omega) (fun b hb => (World.ownsRow.lt HO2.out b hb).1))
          have HO4 : Hid (w4.ownsRow (w.heap.size + 1 + 1 + 1) 51 2 v' (k + 1) (L0 ++ [.string ⟨#[49]⟩, .string ⟨#[49]⟩])) := hown4
          clear hown4 hgrow4
          go_wp2
          refine ⟨⟨k + 1, v', by omega, by simp, rfl, HZ4.out, ?_⟩, by simp [intOf]; omega⟩
          rw [HL.out]
          exact HO4.out
        · have e3 : ⟨#[48]⟩ = P3 := HV.out.1.symm
          have e4 : ⟨#[49]⟩ = Q3 := HV.out.2.symm
          subst e3 e4
          have HBL : Hid (Below wr.heap.size wr (((v5.setCell ⟨X, 0, none⟩ (.string ⟨#[48]⟩)).setCell ⟨X, 1, none⟩ (.string ⟨#[49]⟩)).alloc (.cells #[.string ⟨#[48]⟩, .string ⟨#[49]⟩] 51))) := bl_alloc (bl_set (bl_set HB5.out HXY.out.1 _) HXY.out.1 _) _
          have hown2 : (((v5.setCell ⟨X, 0, none⟩ (.string ⟨#[48]⟩)).setCell ⟨X, 1, none⟩ (.string ⟨#[49]⟩)).alloc (.cells #[.string ⟨#[48]⟩, .string ⟨#[49]⟩] 51)).ownsRow (w.heap.size + 1 + 1 + 1) 51 2 u7 k L0 := owns_below hown HBL.out
          have HZ2 : Hid (Zb w (((v5.setCell ⟨X, 0, none⟩ (.string ⟨#[48]⟩)).setCell ⟨X, 1, none⟩ (.string ⟨#[49]⟩)).alloc (.cells #[.string ⟨#[48]⟩, .string ⟨#[49]⟩] 51)) (.slice a1 m c1) (.slice b1 n d1) (.slice a2 m c2) (.slice b2 n d2)) := HZ.out.below HBL.out
          have hs : ((v5.setCell ⟨X, 0, none⟩ (.string ⟨#[48]⟩)).setCell ⟨X, 1, none⟩ (.string ⟨#[49]⟩)).heap.size = v5.heap.size := by first | rfl | simp [World.setCell]
          have hnw : ∀ (j : Nat) (u : Value), ([Value.string ⟨#[48]⟩, Value.string ⟨#[49]⟩] : List Value)[j]? = some u → (((v5.setCell ⟨X, 0, none⟩ (.string ⟨#[48]⟩)).setCell ⟨X, 1, none⟩ (.string ⟨#[49]⟩)).alloc (.cells #[.string ⟨#[48]⟩, .string ⟨#[49]⟩] 51)).cell? ((⟨v5.heap.size, 0, none⟩ : Addr).add j) = some u := by
            intro j u hj
            match j, hj with
            | 0, hj => simp at hj; subst hj; rw [row_add, ← hs, World.cell?_alloc_new]; rfl
            | 1, hj => simp at hj; subst hj; rw [row_add, ← hs, World.cell?_alloc_new]; rfl
            | j + 2, hj => simp at hj
          clear hs
          have HNW : Hid _ := hnw
          have HO2 : Hid _ := hown2
          clear hnw hown2
          go_wp2_with (first | (at_builtin; refine wpList_append_own _ rfl _ _ 54 rfl (w.heap.size + 1 + 1 + 1) 51 i0 (.agg #[.string ByteArray.empty, .string ByteArray.empty]) 2 32 Tryz.underlying54 hi hz0 hz1 hz2 rfl (by decide) _ k L0 rfl HO2.out ⟨v5.heap.size, 0, none⟩ 1 1 [.string ⟨#[48]⟩, .string ⟨#[49]⟩] rfl rfl HNW.out (by simp [Value.oneCell']) (by unfold maxLen; omega) (by omega) (by have := HZ2.out.bx.lt; omega) ?_))
          intro v' w4 hown4 hgrow4 _
          have HZ4 : Hid (Zb w w4 (.slice a1 m c1) (.slice b1 n d1) (.slice a2 m c2) (.slice b2 n d2)) := HZ2.out.keep ((Below.refl (w.heap.size + 1 + 1 + 1) _).grown hgrow4 (by have := HZ2.out.bx.lt; omega) (fun b hb => (World.ownsRow.lt HO2.out b hb).1))
          have HO4 : Hid (w4.ownsRow (w.heap.size + 1 + 1 + 1) 51 2 v' (k + 1) (L0 ++ [.string ⟨#[48]⟩, .string ⟨#[49]⟩])) := hown4
          clear hown4 hgrow4
          go_wp2
          refine ⟨⟨k + 1, v', by omega, by simp, rfl, HZ4.out, ?_⟩, by simp [intOf]; omega⟩
          rw [HL.out]
          exact HO4.out
      · exact ⟨_, _, _, _, _, _, _, _, rfl, ⟨by simp, fun g => absurd g (by simp [on]), fun g => absurd g (by simp [on]), fun g => absurd g (by simp [on]), fun g => absurd g (by simp [on]), fun g => absurd g (by simp [on]), fun g => absurd g (by simp [on]), bl_drew (Below.refl _ _), fun g => absurd g (by simp [on]), fun g => absurd g (by simp [on]), fun g => absurd g (by simp [on]), fun g => absurd g (by simp [on]), fun g => absurd g (by simp [on])⟩⟩
    · have ek : k = n := by omega
      subst ek
      obtain ⟨ao, cap, ev, hrow⟩ := row_own2 hown
      subst ev
      have e1 : (List.zipWith kAbove qs rs).take k = List.zipWith kAbove qs rs := List.take_of_length_le (by rw [HLn.out]; exact Nat.le_refl _)
      rw [e1] at hrow
      have hO := of_any a1 ao zs (List.zipWith kAbove qs rs) c1 cap wr ((HT1.out.below hZ.bl).tm.s) hrow (by rw [HLn.out]; omega) (fun q hq => (HTr.out.b q hq).mono (by omega))
      rw [HLn.out, HT1.out.hm] at hO
      have HZ : Hid (Zb w wr (.slice a1 m c1) (.slice b1 k d1) (.slice a2 m c2) (.slice b2 k d2)) := hZ
      have k0 := hZ.a0
      have k1 := hZ.a1
      clear hZ hrow hown e1
      go_wp2_with fail
      refine hO.mono ?_
      rintro e w5 ⟨c5, b5, d5, rfl, hr5, hf5, hb5⟩
      have hZ5 := HZ.out.below hb5
      have HT5 : Hid (Tt w5 0 a1 b5 zs m k (List.zipWith kAbove qs rs) 40) := ⟨⟨((HT1.out.below HZ.out.bl).below hb5).tm.s, hr5, fun _ _ _ _ => Nat.zero_le _, fun _ _ _ _ => Nat.zero_le _⟩, HTr.out, HT1.out.hm, HLn.out⟩
      have HF5 : Hid (Sp.Sl w a1 zs ∧ Fresh wr.heap.size b5) := ⟨HT1.out.tm.s, hf5⟩
      have hx0 := hZ5.bx.c0
      have hx1 := hZ5.bx.c1
      have hx2 := hZ5.bx.f0
      have hx3 := hZ5.bx.f1
      have HZ5 : Hid (Zb w w5 (.slice a1 m c1) (.slice b1 k d1) (.slice a2 m c2) (.slice b2 k d2)) := hZ5
      clear hZ5 hr5 hf5 hb5 hO k0 k1
      go_wp2
      refine bodyPost_ret (v := .agg #[.slice a1 m c5, .slice b5 k d5]) (by simp [results, Tryz.results24, go_sem, (two_set HZ5.out.bx.c0 HZ5.out.bx.c1 _ _).1, (two_set HZ5.out.bx.c0 HZ5.out.bx.c1 _ _).2]) rfl ⟨a1, c5, b5, d5, rfl, ?_, ?_⟩
      · have hbl := bl_set (bl_set HZ5.out.bl (a := ⟨w.heap.size + 1 + 1, 0, none⟩) (by simp; omega) (.slice a1 m c5)) (a := ⟨w.heap.size + 1 + 1, 1, none⟩) (by simp; omega) (.slice b5 k d5)
        refine ⟨⟨HF5.out.1.below hbl, ?_, fun _ _ _ _ => Nat.zero_le _, fun _ _ _ _ => Nat.zero_le _⟩, HTr.out, HT1.out.hm, HLn.out⟩
        have hlt := HZ.out.bx.lt
        exact row_set (row_set HT5.out.tm.r HF5.out.2 (by simpa using hlt) _) HF5.out.2 (by simpa using hlt) _
      · exact bl_set (bl_set HZ5.out.bl (by simp; omega) _) (by simp; omega) _
end Go.Proofs.YtjkobbpebnkimaaGreatDoor.Tn
