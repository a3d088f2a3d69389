/-
  THE DOCUMENT'S TENSORS, NUMBER BY NUMBER: what a call of the document's Zip gives. Conditions: sizes.
-/
import Derived.Test.YtfblgaffkflenaaGreatDoorIv
namespace Go.Proofs.YtfblgaffkflenaaGreatDoor.Tn
set_option maxRecDepth 100000
open Go.RowKit Nm
set_option linter.unusedVariables false

theorem owns_below {w w' : World} {base : Nat} {e : TypeId} {size : Nat} {v : Value} {n : Nat} {xs : List Value} (h : w.ownsRow base e size v n xs) (hb : Below w.heap.size w w') : w'.ownsRow base e size v n xs := by
  refine ⟨h.1, ?_⟩
  rcases h.2 with h1 | ⟨g, c, cur, h1, h2, h3, h4⟩
  · exact Or.inl h1
  · exact Or.inr ⟨g, c, cur, h1, h2, by rw [hb.block g (lt_of_block h3)]; exact h3, h4⟩
theorem Zb.new (w : World) (x1 x2 y1 y2 : Value) : Zb w (((w.alloc (.cells #[x1, x2] 25)).alloc (.cells #[y1, y2] 25)).alloc (.cells #[.slice none 0 0, .slice none 0 0] 25)) x1 x2 y1 y2 := Zb.of (Below.refl _ _)
theorem cf28 : ∀ (args : Array Value) (w : World), (callFunc 28 args).run Tryz.prog w = .ok (.enter 28 args) w := fun a w => run_enter Tryz.func28 (by kernel_rfl) rfl a w
theorem cf29 : ∀ (args : Array Value) (w : World), (callFunc 29 args).run Tryz.prog w = .ok (.enter 29 args) w := fun a w => run_enter Tryz.func29 (by kernel_rfl) rfl a w
theorem cf41 : ∀ (args : Array Value) (w : World), (callFunc 41 args).run Tryz.prog w = .ok (.enter 41 args) w := fun a w => run_enter Tryz.func41 (by kernel_rfl) rfl a w
theorem inf41 : (Tryz.prog.info? 41).map (fun i => (i.zero, i.size, i.bytes)) = some (some (.agg #[.string ByteArray.empty, .string ByteArray.empty]), 2, 32) := by kernel_rfl

/-- a step of a region that draws: what is run -/
theorem step_run {P : Program} {ops : Array Oper} {Q : Exit → Act → World → Prop} {i : Nat} {o : Oper} {K : Act → World → Prop} {a : Act} {w : World} (ho : ops[i]? = some o) (hg : o.guard = none) (h : o.wp P a w K Q) : wpOp P ops Q i K a w := by
  unfold wpOp
  rw [ho]
  have hw : Region.wanted o (yielded ops a.tmps) = true := by simp [Region.wanted, hg]
  simp only [hw, if_true]
  exact Or.inl h

theorem Zb.keep {w v u : World} {x1 x2 y1 y2 : Value} (h : Zb w v x1 x2 y1 y2) (k : Below (w.heap.size + 1 + 1 + 1) v u) : Zb w u x1 x2 y1 y2 := by
  have f : ∀ b, b < w.heap.size + 1 + 1 + 1 → ∀ i, u.frozen? ⟨b, i, none⟩ = v.frozen? ⟨b, i, none⟩ := fun b hb i => World.frozen?_of_block (k.block b hb)
  have c : ∀ b, b < w.heap.size + 1 + 1 + 1 → ∀ i, u.cell? ⟨b, i, none⟩ = v.cell? ⟨b, i, none⟩ := fun b hb i => World.cell?_of_block (k.block b hb)
  exact ⟨by rw [c _ (by omega)]; exact h.a0, by rw [c _ (by omega)]; exact h.a1, by rw [c _ (by omega)]; exact h.b0, by rw [c _ (by omega)]; exact h.b1,
    ⟨by rw [c _ (by omega)]; exact h.bx.c0, by rw [c _ (by omega)]; exact h.bx.c1, by rw [f _ (by omega)]; exact h.bx.f0, by rw [f _ (by omega)]; exact h.bx.f1⟩, h.bl.trans (k.mono (by omega))⟩
theorem row_own2 {w : World} {base e n : Nat} {v : Value} {vs : List Value} (h : w.ownsRow base e 2 v n vs) : ∃ ao cap, v = .slice ao n cap ∧ Row w ao vs := by
  have h0 := h
  rcases h.2 with ⟨h1, h2⟩ | ⟨g, c, cur, h1, h2, h3, h4, _⟩
  · subst h1 h2
    have : vs.length = 0 := by have := h.1; omega
    rw [List.eq_nil_of_length_eq_zero this]
    exact ⟨none, 0, rfl, Row.nil _ _⟩
  · subst h1
    refine ⟨some ⟨g, 0, none⟩, c, rfl, fun i u hi => ?_⟩
    have hi2 : i < n * 2 := by have := (List.getElem?_eq_some_iff.1 hi).1; have := h.1; omega
    exact ⟨g, 0, rfl, by rw [Nat.zero_add, h0.cellAt i hi2]; exact hi⟩

set_option maxHeartbeats 8000000 in
theorem rzip_add (a1 b1 a2 b2 : Option Addr) (c1 d1 c2 d2 m n B1 B2 : Nat) (zs : List Int) (qs rs : List Rat) (w : World) (h1 : Tt w B1 a1 b1 zs m n qs 40) (h2 : Tt w B2 a2 b2 zs m n rs 40) :
    Calls Tryz.prog 19 #[.string sAdd, .agg #[.slice a1 m c1, .slice b1 n d1], .agg #[.slice a2 m c2, .slice b2 n d2]] w fun e w' => ∃ a3 c3 b3 d3, e = .returned (.agg #[.slice a3 m c3, .slice b3 n d3]) ∧ Tt w' 0 a3 b3 zs m n (List.zipWith (· + ·) qs rs) 81 ∧ Below w.heap.size w w' := by
  obtain ⟨i0, hi, hz0, hz1, hz2⟩ := info_parts inf41
  have hle := h1.le
  have HTr : Hid (Tr zs (List.zipWith (· + ·) qs rs) 81) := h1.tr.zip h2.tr fun x y hx hy => hx.plus hy
  have HLn : Hid ((List.zipWith (· + ·) qs rs).length = n) := by unfold Hid; rw [zip_len _ (by rw [h1.hn, h2.hn]), h1.hn]
  have HT1 : Hid _ := h1
  have HT2 : Hid _ := h2
  clear h1 h2
  go_enter Tryz.func19, Tryz.ntmps19
  go_wp2_with fail
  go_loopw [7, 8, 9, 10] (fun l i _ _ wr => ∃ (k : Nat) (v : Value), k ≤ n ∧ i = .int .i64 k ∧ l = v ∧ Zb w wr (.slice a1 m c1) (.slice b1 n d1) (.slice a2 m c2) (.slice b2 n d2) ∧ wr.ownsRow (w.heap.size + 1 + 1 + 1) 41 2 v k (frs ((List.zipWith (· + ·) qs rs).take k))) (fun _ i _ _ _ => n - (intOf i).toNat)
  case atStart => exact ⟨0, .slice none 0 0, by omega, rfl, rfl, Zb.new w _ _ _ _, World.ownsRow_nil _ _ _ _⟩
  case round =>
    obtain ⟨k, v, hk, rfl, rfl, hZ, hown⟩ := hrel
    by_cases h : k < n
    · have hA := fun (u : World) (hu : Below wr.heap.size wr u) => zat c1 d1 k (HT1.out.below (bl_trans hZ.bl hu)) h (by omega)
      have hB := fun (u : World) (hu : Below wr.heap.size wr u) => zat c2 d2 k (HT2.out.below (bl_trans hZ.bl hu)) h (by omega)
      have hN := fun (u : World) => radd_R (qs.getD k 0) (rs.getD k 0) 40 40 u (HT1.out.tr.b _ (mem_getD qs (by rw [HT1.out.hn]; exact h))) (HT2.out.tr.b _ (mem_getD rs (by rw [HT2.out.hn]; exact h))) (by omega)
      unfold fr at hN
      have HL : Hid (frs ((List.zipWith (· + ·) qs rs).take (k + 1)) = frs ((List.zipWith (· + ·) qs rs).take k) ++ [.string (W (((qs.getD k 0 + rs.getD k 0)).num)), .string (S (((qs.getD k 0 + rs.getD k 0)).den))]) := by
        unfold Hid
        have q1 : k < qs.length := by rw [HT1.out.hn]; exact h
        have q2 : k < rs.length := by rw [HT2.out.hn]; exact h
        rw [take_snoc _ (by rw [HLn.out]; exact h), frs_app, zip_at _ q1 q2]; rfl
      have k1 := hZ.a1
      have HZ : Hid (Zb w wr (.slice a1 m c1) (.slice b1 n d1) (.slice a2 m c2) (.slice b2 n d2)) := hZ
      clear hZ
      unfold fr at hA hB
      generalize W ((qs.getD k 0 + rs.getD k 0)).num = P3 at *
      generalize S ((qs.getD k 0 + rs.getD k 0)).den = Q3 at *
      generalize W (qs.getD k 0).num = P1 at *
      generalize S (qs.getD k 0).den = Q1 at *
      generalize W (rs.getD k 0).num = P2 at *
      generalize S (rs.getD k 0).den = Q2 at *
      generalize frs ((List.zipWith (· + ·) qs rs).take k) = L0 at *
      have HA : Hid _ := hA
      have HB : Hid _ := hB
      clear hA hB
      go_wp2_with fail
      refine wp_region_any (by kernel_rfl) ?_
      refine wpAny_inv (fun L a v => ∃ s9 s10 s18 s19 s20 s21 s22 s23, a = ⟨#[.string sAdd, .agg #[.slice a1 m c1, .slice b1 n d1], .agg #[.slice a2 m c2, .slice b2 n d2], undef, .pointer (some ⟨w.heap.size, 0, none⟩), .pointer (some ⟨w.heap.size + 1, 0, none⟩), .pointer (some ⟨w.heap.size + 1 + 1, 0, none⟩), u7, .int .i64 (k : Int), s9, s10, .int .i64 (k : Int), .pointer (some ⟨w.heap.size, 1, none⟩), .slice b1 n d1, .int .i64 (n : Int), .bool true, u16, u17, s18, s19, s20, s21, s22, s23, u24, u25, u26, u27, u28, u29, u30, u31, u32, u33, u34, u35, u36, u37, u38, u39, u40, u41, u42, u43, u44, u45, u46, u47, undef, undef, undef, undef], []⟩ ∧ Pv wr (.agg #[.slice a1 m c1, .slice b1 n d1]) (.agg #[.slice a2 m c2, .slice b2 n d2]) (.int .i64 (k : Int)) P1 Q1 P2 Q2 L v s9 s10 s18 s19 s20 s21 s22 s23) ?_ ?_ _ _ _ _ (by decide) ?_
      · intro L a v i hI hi
        obtain ⟨s9, s10, s18, s19, s20, s21, s22, s23, rfl, hP⟩ := hI
        obtain ⟨hu, o, ho, haf⟩ := mem_ready.1 hi
        have hlt : i < 10 := (Array.getElem?_eq_some_iff.1 ho).1
        have hZ := HZ.out.below hP.bl
        have k0 := hZ.a0
        have k1 := hZ.a1
        have k2 := hZ.b0
        have k3 := hZ.b1
        rcases (by omega : i = 0 ∨ i = 1 ∨ i = 2 ∨ i = 3 ∨ i = 4 ∨ i = 5 ∨ i = 6 ∨ i = 7 ∨ i = 8 ∨ i = 9) with rfl | rfl | rfl | rfl | rfl | rfl | rfl | rfl | rfl | rfl
        all_goals (simp only [List.getElem?_toArray, List.getElem?_cons_zero, List.getElem?_cons_succ, Option.some.injEq] at ho; subst ho)
        · refine step_run rfl rfl ?_
          go_simp
          exact ⟨_, _, _, _, _, _, _, _, ⟨rfl, rfl, rfl, rfl, rfl, rfl, rfl, rfl⟩, hP.t0⟩
        · refine step_run rfl rfl ?_
          go_simp
          exact ⟨_, _, _, _, _, _, _, _, ⟨rfl, rfl, rfl, rfl, rfl, rfl, rfl, rfl⟩, hP.t1⟩
        · have g1 := hP.h0 (haf { on := 0, ground := .data } (by simp) rfl)
          have g2 := hP.h1 (haf { on := 1, ground := .data } (by simp) rfl)
          subst g1 g2
          refine step_run rfl rfl ?_
          unfold Oper.wp
          rw [run_two cf28 (.tmp 18) (.tmp 19) 25 3 rfl _ _ rfl rfl]
          refine (HA.out v hP.bl).mono ?_
          rintro e v2 ⟨rfl, hb⟩
          have hP2 := hP.t2 hb
          go_simp
          exact ⟨_, _, _, _, _, _, _, _, ⟨rfl, rfl, rfl, rfl, rfl, rfl, rfl, rfl⟩, hP2⟩
        · refine step_run rfl rfl ?_
          go_simp
          exact ⟨_, _, _, _, _, _, _, _, ⟨rfl, rfl, rfl, rfl, rfl, rfl, rfl, rfl⟩, hP.t3⟩
        · refine step_run rfl rfl ?_
          go_simp
          exact ⟨_, _, _, _, _, _, _, _, ⟨rfl, rfl, rfl, rfl, rfl, rfl, rfl, rfl⟩, hP.t4⟩
        · have g1 := hP.h3 (haf { on := 3, ground := .data } (by simp) rfl)
          have g2 := hP.h4 (haf { on := 4, ground := .data } (by simp) rfl)
          subst g1 g2
          refine step_run rfl rfl ?_
          unfold Oper.wp
          rw [run_two cf28 (.tmp 21) (.tmp 22) 25 3 rfl _ _ rfl rfl]
          refine (HB.out v hP.bl).mono ?_
          rintro e v2 ⟨rfl, hb⟩
          have hP2 := hP.t5 hb
          go_simp
          exact ⟨_, _, _, _, _, _, _, _, ⟨rfl, rfl, rfl, rfl, rfl, rfl, rfl, rfl⟩, hP2⟩
        · have hP2 := hP.t6 (off_of hu)
          refine step_run rfl rfl ?_
          go_simp
          exact ⟨_, _, _, _, _, _, _, _, ⟨rfl, rfl, rfl, rfl, rfl, rfl, rfl, rfl⟩, hP2⟩
        · have hP2 := hP.t7 (off_of hu)
          refine step_run rfl rfl ?_
          go_simp
          exact ⟨_, _, _, _, _, _, _, _, ⟨rfl, rfl, rfl, rfl, rfl, rfl, rfl, rfl⟩, hP2⟩
        · have ga := haf { on := 6, ground := .data } (by simp) rfl
          obtain ⟨X, e9, hx, hc⟩ := hP.h6 ga
          have g2 := hP.h2 (haf { on := 2, ground := .data } (by simp) rfl)
          have hne : ¬ s10 = s9 := fun c => hP.ne (haf { on := 6, ground := .data } (by simp) rfl) (haf { on := 7, ground := .phase } (by simp) rfl) c.symm
          rw [cel_off (off_of hu)] at hc
          subst e9 g2
          have hP2 := hP.t8 hx hc ga hne
          have y0 : v.cell? ⟨X, 0, none⟩ = some (.string ⟨#[]⟩) := by simp [World.cell?, hc]
          have y1 : v.cell? ⟨X, 1, none⟩ = some (.string ⟨#[]⟩) := by simp [World.cell?, hc]
          have y2 : v.frozen? ⟨X, 0, none⟩ = false := by simp [World.frozen?, hc]
          have y3 : v.frozen? ⟨X, 1, none⟩ = false := by simp [World.frozen?, hc]
          refine step_run rfl rfl ?_
          go_simp
          exact ⟨_, _, _, _, _, _, _, _, ⟨rfl, rfl, rfl, rfl, rfl, rfl, rfl, rfl⟩, hP2⟩
        · have ga := haf { on := 7, ground := .data } (by simp) rfl
          obtain ⟨X, e9, hx, hc⟩ := hP.h7 ga
          have g2 := hP.h5 (haf { on := 5, ground := .data } (by simp) rfl)
          have hne : ¬ s9 = s10 := fun c => hP.ne (haf { on := 6, ground := .phase } (by simp) rfl) (haf { on := 7, ground := .data } (by simp) rfl) c
          rw [cel_off (off_of hu)] at hc
          subst e9 g2
          have hP2 := hP.t9 hx hc ga hne
          have y0 : v.cell? ⟨X, 0, none⟩ = some (.string ⟨#[]⟩) := by simp [World.cell?, hc]
          have y1 : v.cell? ⟨X, 1, none⟩ = some (.string ⟨#[]⟩) := by simp [World.cell?, hc]
          have y2 : v.frozen? ⟨X, 0, none⟩ = false := by simp [World.frozen?, hc]
          have y3 : v.frozen? ⟨X, 1, none⟩ = false := by simp [World.frozen?, hc]
          refine step_run rfl rfl ?_
          go_simp
          exact ⟨_, _, _, _, _, _, _, _, ⟨rfl, rfl, rfl, rfl, rfl, rfl, rfl, rfl⟩, hP2⟩
      · intro L a v hI hr
        obtain ⟨s9, s10, s18, s19, s20, s21, s22, s23, rfl, hP⟩ := hI
        have hno := List.eq_nil_iff_forall_not_mem.1 hr
        have g0 : on L 0 := Decidable.byContradiction fun hc => hno 0 (mem_ready.2 ⟨off (by rw [hP.sz]; decide) hc, _, rfl, fun e he => by simp at he⟩)
        have g1 : on L 1 := Decidable.byContradiction fun hc => hno 1 (mem_ready.2 ⟨off (by rw [hP.sz]; decide) hc, _, rfl, fun e he => by simp at he⟩)
        have g2 : on L 2 := by
          refine Decidable.byContradiction fun hc => hno 2 (mem_ready.2 ⟨off (by rw [hP.sz]; decide) hc, _, rfl, ?_⟩)
          intro e he hb
          simp at he
          rcases he with rfl | rfl
          all_goals first | assumption | exact absurd hb (by decide)
        have g3 : on L 3 := Decidable.byContradiction fun hc => hno 3 (mem_ready.2 ⟨off (by rw [hP.sz]; decide) hc, _, rfl, fun e he => by simp at he⟩)
        have g4 : on L 4 := Decidable.byContradiction fun hc => hno 4 (mem_ready.2 ⟨off (by rw [hP.sz]; decide) hc, _, rfl, fun e he => by simp at he⟩)
        have g5 : on L 5 := by
          refine Decidable.byContradiction fun hc => hno 5 (mem_ready.2 ⟨off (by rw [hP.sz]; decide) hc, _, rfl, ?_⟩)
          intro e he hb
          simp at he
          rcases he with rfl | rfl | rfl
          all_goals first | assumption | exact absurd hb (by decide)
        have g6 : on L 6 := Decidable.byContradiction fun hc => hno 6 (mem_ready.2 ⟨off (by rw [hP.sz]; decide) hc, _, rfl, fun e he => by simp at he⟩)
        have g7 : on L 7 := Decidable.byContradiction fun hc => hno 7 (mem_ready.2 ⟨off (by rw [hP.sz]; decide) hc, _, rfl, fun e he => by simp at he⟩)
        have g8 : on L 8 := by
          refine Decidable.byContradiction fun hc => hno 8 (mem_ready.2 ⟨off (by rw [hP.sz]; decide) hc, _, rfl, ?_⟩)
          intro e he hb
          simp at he
          rcases he with rfl | rfl | rfl | rfl | rfl | rfl | rfl | rfl | rfl | rfl | rfl
          all_goals first | assumption | exact absurd hb (by decide)
        have g9 : on L 9 := by
          refine Decidable.byContradiction fun hc => hno 9 (mem_ready.2 ⟨off (by rw [hP.sz]; decide) hc, _, rfl, ?_⟩)
          intro e he hb
          simp at he
          rcases he with rfl | rfl | rfl | rfl | rfl | rfl | rfl | rfl | rfl | rfl | rfl | rfl
          all_goals first | assumption | exact absurd hb (by decide)
        obtain ⟨X, eX, hX, hcX⟩ := hP.h6 g6
        obtain ⟨Y, eY, hY, hcY⟩ := hP.h7 g7
        rw [cel_on g8] at hcX
        rw [cel_on g9] at hcY
        have e18 := hP.h0 g0
        have e19 := hP.h1 g1
        have e20 := hP.h2 g2
        have e21 := hP.h3 g3
        have e22 := hP.h4 g4
        have e23 := hP.h5 g5
        have hbl := hP.bl
        clear hP g0 g1 g2 g3 g4 g5 g6 g7 g8 g9 hr hno
        subst eX eY e18 e19 e20 e21 e22 e23
        have y0 : v.cell? ⟨X, 0, none⟩ = some (.string P1) := by simp [World.cell?, hcX]
        have y1 : v.cell? ⟨X, 1, none⟩ = some (.string Q1) := by simp [World.cell?, hcX]
        have y2 : v.cell? ⟨Y, 0, none⟩ = some (.string P2) := by simp [World.cell?, hcY]
        have y3 : v.cell? ⟨Y, 1, none⟩ = some (.string Q2) := by simp [World.cell?, hcY]
        clear hcX hcY
        dsimp only
        have HV : Hid _ := hbl
        clear hbl
        go_wp2_with fail
        refine (hN _).mono ?_
        rintro e v2 ⟨rfl, hb2⟩
        have HBL : Hid (Below wr.heap.size wr (v2.alloc (.cells #[.string P3, .string Q3] 41))) := bl_alloc (bl_trans HV.out hb2) _
        clear hb2 y0 y1 y2 y3 hN
        have hown2 : (v2.alloc (.cells #[.string P3, .string Q3] 41)).ownsRow (w.heap.size + 1 + 1 + 1) 41 2 u7 k L0 := owns_below hown HBL.out
        have HZ2 : Hid (Zb w (v2.alloc (.cells #[.string P3, .string Q3] 41)) (.slice a1 m c1) (.slice b1 n d1) (.slice a2 m c2) (.slice b2 n d2)) := HZ.out.below HBL.out
        have hnw : ∀ (j : Nat) (u : Value), ([Value.string P3, Value.string Q3] : List Value)[j]? = some u → (v2.alloc (.cells #[.string P3, .string Q3] 41)).cell? ((⟨v2.heap.size, 0, none⟩ : Addr).add j) = some u := by
          intro j u hj
          match j, hj with
          | 0, hj => simp at hj; subst hj; rw [row_add]; simp
          | 1, hj => simp at hj; subst hj; rw [row_add]; simp
          | j + 2, hj => simp at hj
        go_wp2_with (first | (at_builtin; refine wpList_append_own _ rfl _ _ 45 rfl (w.heap.size + 1 + 1 + 1) 41 i0 (.agg #[.string ByteArray.empty, .string ByteArray.empty]) 2 32 Tryz.underlying45 hi hz0 hz1 hz2 rfl (by decide) _ k L0 rfl hown2 ⟨v2.heap.size, 0, none⟩ 1 1 [.string P3, .string Q3] rfl rfl hnw (by simp [Value.oneCell']) (by unfold maxLen; omega) (by omega) (by have := HZ2.out.bx.lt; omega) ?_))
        intro v' w4 hown4 hgrow4 _
        have HZ4 : Hid (Zb w w4 (.slice a1 m c1) (.slice b1 n d1) (.slice a2 m c2) (.slice b2 n d2)) := HZ2.out.keep ((Below.refl (w.heap.size + 1 + 1 + 1) _).grown hgrow4 (by have := HZ2.out.bx.lt; omega) (fun b hb => (hown2.lt b hb).1))
        have HO4 : Hid (w4.ownsRow (w.heap.size + 1 + 1 + 1) 41 2 v' (k + 1) (L0 ++ [.string P3, .string Q3])) := hown4
        clear hown4 hgrow4 hown2 hnw
        go_wp2
        refine ⟨⟨k + 1, v', by omega, by simp, rfl, HZ4.out, ?_⟩, by simp [intOf]; omega⟩
        rw [HL.out]
        exact HO4.out
      · exact ⟨_, _, _, _, _, _, _, _, rfl, ⟨by simp, fun g => absurd g (by simp [on]), fun g => absurd g (by simp [on]), fun g => absurd g (by simp [on]), fun g => absurd g (by simp [on]), fun g => absurd g (by simp [on]), fun g => absurd g (by simp [on]), bl_drew (Below.refl _ _), fun g => absurd g (by simp [on]), fun g => absurd g (by simp [on]), fun g => absurd g (by simp [on]), fun g => absurd g (by simp [on]), fun g => absurd g (by simp [on])⟩⟩
    · have ek : k = n := by omega
      subst ek
      obtain ⟨ao, cap, ev, hrow⟩ := row_own2 hown
      subst ev
      have e1 : (List.zipWith (· + ·) qs rs).take k = List.zipWith (· + ·) qs rs := List.take_of_length_le (by rw [HLn.out]; exact Nat.le_refl _)
      rw [e1] at hrow
      have hO := of_any a1 ao zs (List.zipWith (· + ·) qs rs) c1 cap wr ((HT1.out.below hZ.bl).tm.s) hrow (by rw [HLn.out]; omega) (fun q hq => (HTr.out.b q hq).mono (by omega))
      rw [HLn.out, HT1.out.hm] at hO
      have HZ : Hid (Zb w wr (.slice a1 m c1) (.slice b1 k d1) (.slice a2 m c2) (.slice b2 k d2)) := hZ
      have k0 := hZ.a0
      have k1 := hZ.a1
      clear hZ hrow hown e1
      go_wp2_with fail
      refine hO.mono ?_
      rintro e w5 ⟨c5, b5, d5, rfl, hr5, hf5, hb5⟩
      have hZ5 := HZ.out.below hb5
      have HT5 : Hid (Tt w5 0 a1 b5 zs m k (List.zipWith (· + ·) qs rs) 81) := ⟨⟨((HT1.out.below HZ.out.bl).below hb5).tm.s, hr5, fun _ _ _ _ => Nat.zero_le _, fun _ _ _ _ => Nat.zero_le _⟩, HTr.out, HT1.out.hm, HLn.out⟩
      have HF5 : Hid (Sp.Sl w a1 zs ∧ Fresh wr.heap.size b5) := ⟨HT1.out.tm.s, hf5⟩
      have hx0 := hZ5.bx.c0
      have hx1 := hZ5.bx.c1
      have hx2 := hZ5.bx.f0
      have hx3 := hZ5.bx.f1
      have HZ5 : Hid (Zb w w5 (.slice a1 m c1) (.slice b1 k d1) (.slice a2 m c2) (.slice b2 k d2)) := hZ5
      clear hZ5 hr5 hf5 hb5 hO k0 k1
      go_wp2
      refine bodyPost_ret (v := .agg #[.slice a1 m c5, .slice b5 k d5]) (by simp [results, Tryz.results19, go_sem, (two_set HZ5.out.bx.c0 HZ5.out.bx.c1 _ _).1, (two_set HZ5.out.bx.c0 HZ5.out.bx.c1 _ _).2]) rfl ⟨a1, c5, b5, d5, rfl, ?_, ?_⟩
      · have hbl := bl_set (bl_set HZ5.out.bl (a := ⟨w.heap.size + 1 + 1, 0, none⟩) (by simp; omega) (.slice a1 m c5)) (a := ⟨w.heap.size + 1 + 1, 1, none⟩) (by simp; omega) (.slice b5 k d5)
        refine ⟨⟨HF5.out.1.below hbl, ?_, fun _ _ _ _ => Nat.zero_le _, fun _ _ _ _ => Nat.zero_le _⟩, HTr.out, HT1.out.hm, HLn.out⟩
        have hlt := HZ.out.bx.lt
        exact row_set (row_set HT5.out.tm.r HF5.out.2 (by simpa using hlt) _) HF5.out.2 (by simpa using hlt) _
      · exact bl_set (bl_set HZ5.out.bl (by simp; omega) _) (by simp; omega) _
set_option maxHeartbeats 8000000 in
theorem rzip_mul (a1 b1 a2 b2 : Option Addr) (c1 d1 c2 d2 m n B1 B2 : Nat) (zs : List Int) (qs rs : List Rat) (w : World) (h1 : Tt w B1 a1 b1 zs m n qs 40) (h2 : Tt w B2 a2 b2 zs m n rs 40) :
    Calls Tryz.prog 19 #[.string sMul, .agg #[.slice a1 m c1, .slice b1 n d1], .agg #[.slice a2 m c2, .slice b2 n d2]] w fun e w' => ∃ a3 c3 b3 d3, e = .returned (.agg #[.slice a3 m c3, .slice b3 n d3]) ∧ Tt w' 0 a3 b3 zs m n (List.zipWith (· * ·) qs rs) 80 ∧ Below w.heap.size w w' := by
  obtain ⟨i0, hi, hz0, hz1, hz2⟩ := info_parts inf41
  have hle := h1.le
  have HTr : Hid (Tr zs (List.zipWith (· * ·) qs rs) 80) := h1.tr.zip h2.tr fun x y hx hy => hx.mul hy
  have HLn : Hid ((List.zipWith (· * ·) qs rs).length = n) := by unfold Hid; rw [zip_len _ (by rw [h1.hn, h2.hn]), h1.hn]
  have HT1 : Hid _ := h1
  have HT2 : Hid _ := h2
  clear h1 h2
  go_enter Tryz.func19, Tryz.ntmps19
  go_wp2_with fail
  go_loopw [7, 8, 9, 10] (fun l i _ _ wr => ∃ (k : Nat) (v : Value), k ≤ n ∧ i = .int .i64 k ∧ l = v ∧ Zb w wr (.slice a1 m c1) (.slice b1 n d1) (.slice a2 m c2) (.slice b2 n d2) ∧ wr.ownsRow (w.heap.size + 1 + 1 + 1) 41 2 v k (frs ((List.zipWith (· * ·) qs rs).take k))) (fun _ i _ _ _ => n - (intOf i).toNat)
  case atStart => exact ⟨0, .slice none 0 0, by omega, rfl, rfl, Zb.new w _ _ _ _, World.ownsRow_nil _ _ _ _⟩
  case round =>
    obtain ⟨k, v, hk, rfl, rfl, hZ, hown⟩ := hrel
    by_cases h : k < n
    · have hA := fun (u : World) (hu : Below wr.heap.size wr u) => zat c1 d1 k (HT1.out.below (bl_trans hZ.bl hu)) h (by omega)
      have hB := fun (u : World) (hu : Below wr.heap.size wr u) => zat c2 d2 k (HT2.out.below (bl_trans hZ.bl hu)) h (by omega)
      have hN := fun (u : World) => rmul_R (qs.getD k 0) (rs.getD k 0) 40 40 u (HT1.out.tr.b _ (mem_getD qs (by rw [HT1.out.hn]; exact h))) (HT2.out.tr.b _ (mem_getD rs (by rw [HT2.out.hn]; exact h))) (by omega)
      unfold fr at hN
      have HL : Hid (frs ((List.zipWith (· * ·) qs rs).take (k + 1)) = frs ((List.zipWith (· * ·) qs rs).take k) ++ [.string (W (((qs.getD k 0 * rs.getD k 0)).num)), .string (S (((qs.getD k 0 * rs.getD k 0)).den))]) := by
        unfold Hid
        have q1 : k < qs.length := by rw [HT1.out.hn]; exact h
        have q2 : k < rs.length := by rw [HT2.out.hn]; exact h
        rw [take_snoc _ (by rw [HLn.out]; exact h), frs_app, zip_at _ q1 q2]; rfl
      have k1 := hZ.a1
      have HZ : Hid (Zb w wr (.slice a1 m c1) (.slice b1 n d1) (.slice a2 m c2) (.slice b2 n d2)) := hZ
      clear hZ
      unfold fr at hA hB
      generalize W ((qs.getD k 0 * rs.getD k 0)).num = P3 at *
      generalize S ((qs.getD k 0 * rs.getD k 0)).den = Q3 at *
      generalize W (qs.getD k 0).num = P1 at *
      generalize S (qs.getD k 0).den = Q1 at *
      generalize W (rs.getD k 0).num = P2 at *
      generalize S (rs.getD k 0).den = Q2 at *
      generalize frs ((List.zipWith (· * ·) qs rs).take k) = L0 at *
      have HA : Hid _ := hA
      have HB : Hid _ := hB
      clear hA hB
      go_wp2_with fail
      refine wp_region_any (by kernel_rfl) ?_
      refine wpAny_inv (fun L a v => ∃ s9 s10 s18 s19 s20 s21 s22 s23, a = ⟨#[.string sMul, .agg #[.slice a1 m c1, .slice b1 n d1], .agg #[.slice a2 m c2, .slice b2 n d2], undef, .pointer (some ⟨w.heap.size, 0, none⟩), .pointer (some ⟨w.heap.size + 1, 0, none⟩), .pointer (some ⟨w.heap.size + 1 + 1, 0, none⟩), u7, .int .i64 (k : Int), s9, s10, .int .i64 (k : Int), .pointer (some ⟨w.heap.size, 1, none⟩), .slice b1 n d1, .int .i64 (n : Int), .bool true, u16, u17, s18, s19, s20, s21, s22, s23, u24, u25, u26, u27, u28, u29, u30, u31, u32, u33, u34, u35, u36, u37, u38, u39, u40, u41, u42, u43, u44, u45, u46, u47, undef, undef, undef, undef], []⟩ ∧ Pv wr (.agg #[.slice a1 m c1, .slice b1 n d1]) (.agg #[.slice a2 m c2, .slice b2 n d2]) (.int .i64 (k : Int)) P1 Q1 P2 Q2 L v s9 s10 s18 s19 s20 s21 s22 s23) ?_ ?_ _ _ _ _ (by decide) ?_
      · intro L a v i hI hi
        obtain ⟨s9, s10, s18, s19, s20, s21, s22, s23, rfl, hP⟩ := hI
        obtain ⟨hu, o, ho, haf⟩ := mem_ready.1 hi
        have hlt : i < 10 := (Array.getElem?_eq_some_iff.1 ho).1
        have hZ := HZ.out.below hP.bl
        have k0 := hZ.a0
        have k1 := hZ.a1
        have k2 := hZ.b0
        have k3 := hZ.b1
        rcases (by omega : i = 0 ∨ i = 1 ∨ i = 2 ∨ i = 3 ∨ i = 4 ∨ i = 5 ∨ i = 6 ∨ i = 7 ∨ i = 8 ∨ i = 9) with rfl | rfl | rfl | rfl | rfl | rfl | rfl | rfl | rfl | rfl
        all_goals (simp only [List.getElem?_toArray, List.getElem?_cons_zero, List.getElem?_cons_succ, Option.some.injEq] at ho; subst ho)
        · refine step_run rfl rfl ?_
          go_simp
          exact ⟨_, _, _, _, _, _, _, _, ⟨rfl, rfl, rfl, rfl, rfl, rfl, rfl, rfl⟩, hP.t0⟩
        · refine step_run rfl rfl ?_
          go_simp
          exact ⟨_, _, _, _, _, _, _, _, ⟨rfl, rfl, rfl, rfl, rfl, rfl, rfl, rfl⟩, hP.t1⟩
        · have g1 := hP.h0 (haf { on := 0, ground := .data } (by simp) rfl)
          have g2 := hP.h1 (haf { on := 1, ground := .data } (by simp) rfl)
          subst g1 g2
          refine step_run rfl rfl ?_
          unfold Oper.wp
          rw [run_two cf28 (.tmp 18) (.tmp 19) 25 3 rfl _ _ rfl rfl]
          refine (HA.out v hP.bl).mono ?_
          rintro e v2 ⟨rfl, hb⟩
          have hP2 := hP.t2 hb
          go_simp
          exact ⟨_, _, _, _, _, _, _, _, ⟨rfl, rfl, rfl, rfl, rfl, rfl, rfl, rfl⟩, hP2⟩
        · refine step_run rfl rfl ?_
          go_simp
          exact ⟨_, _, _, _, _, _, _, _, ⟨rfl, rfl, rfl, rfl, rfl, rfl, rfl, rfl⟩, hP.t3⟩
        · refine step_run rfl rfl ?_
          go_simp
          exact ⟨_, _, _, _, _, _, _, _, ⟨rfl, rfl, rfl, rfl, rfl, rfl, rfl, rfl⟩, hP.t4⟩
        · have g1 := hP.h3 (haf { on := 3, ground := .data } (by simp) rfl)
          have g2 := hP.h4 (haf { on := 4, ground := .data } (by simp) rfl)
          subst g1 g2
          refine step_run rfl rfl ?_
          unfold Oper.wp
          rw [run_two cf28 (.tmp 21) (.tmp 22) 25 3 rfl _ _ rfl rfl]
          refine (HB.out v hP.bl).mono ?_
          rintro e v2 ⟨rfl, hb⟩
          have hP2 := hP.t5 hb
          go_simp
          exact ⟨_, _, _, _, _, _, _, _, ⟨rfl, rfl, rfl, rfl, rfl, rfl, rfl, rfl⟩, hP2⟩
        · have hP2 := hP.t6 (off_of hu)
          refine step_run rfl rfl ?_
          go_simp
          exact ⟨_, _, _, _, _, _, _, _, ⟨rfl, rfl, rfl, rfl, rfl, rfl, rfl, rfl⟩, hP2⟩
        · have hP2 := hP.t7 (off_of hu)
          refine step_run rfl rfl ?_
          go_simp
          exact ⟨_, _, _, _, _, _, _, _, ⟨rfl, rfl, rfl, rfl, rfl, rfl, rfl, rfl⟩, hP2⟩
        · have ga := haf { on := 6, ground := .data } (by simp) rfl
          obtain ⟨X, e9, hx, hc⟩ := hP.h6 ga
          have g2 := hP.h2 (haf { on := 2, ground := .data } (by simp) rfl)
          have hne : ¬ s10 = s9 := fun c => hP.ne (haf { on := 6, ground := .data } (by simp) rfl) (haf { on := 7, ground := .phase } (by simp) rfl) c.symm
          rw [cel_off (off_of hu)] at hc
          subst e9 g2
          have hP2 := hP.t8 hx hc ga hne
          have y0 : v.cell? ⟨X, 0, none⟩ = some (.string ⟨#[]⟩) := by simp [World.cell?, hc]
          have y1 : v.cell? ⟨X, 1, none⟩ = some (.string ⟨#[]⟩) := by simp [World.cell?, hc]
          have y2 : v.frozen? ⟨X, 0, none⟩ = false := by simp [World.frozen?, hc]
          have y3 : v.frozen? ⟨X, 1, none⟩ = false := by simp [World.frozen?, hc]
          refine step_run rfl rfl ?_
          go_simp
          exact ⟨_, _, _, _, _, _, _, _, ⟨rfl, rfl, rfl, rfl, rfl, rfl, rfl, rfl⟩, hP2⟩
        · have ga := haf { on := 7, ground := .data } (by simp) rfl
          obtain ⟨X, e9, hx, hc⟩ := hP.h7 ga
          have g2 := hP.h5 (haf { on := 5, ground := .data } (by simp) rfl)
          have hne : ¬ s9 = s10 := fun c => hP.ne (haf { on := 6, ground := .phase } (by simp) rfl) (haf { on := 7, ground := .data } (by simp) rfl) c
          rw [cel_off (off_of hu)] at hc
          subst e9 g2
          have hP2 := hP.t9 hx hc ga hne
          have y0 : v.cell? ⟨X, 0, none⟩ = some (.string ⟨#[]⟩) := by simp [World.cell?, hc]
          have y1 : v.cell? ⟨X, 1, none⟩ = some (.string ⟨#[]⟩) := by simp [World.cell?, hc]
          have y2 : v.frozen? ⟨X, 0, none⟩ = false := by simp [World.frozen?, hc]
          have y3 : v.frozen? ⟨X, 1, none⟩ = false := by simp [World.frozen?, hc]
          refine step_run rfl rfl ?_
          go_simp
          exact ⟨_, _, _, _, _, _, _, _, ⟨rfl, rfl, rfl, rfl, rfl, rfl, rfl, rfl⟩, hP2⟩
      · intro L a v hI hr
        obtain ⟨s9, s10, s18, s19, s20, s21, s22, s23, rfl, hP⟩ := hI
        have hno := List.eq_nil_iff_forall_not_mem.1 hr
        have g0 : on L 0 := Decidable.byContradiction fun hc => hno 0 (mem_ready.2 ⟨off (by rw [hP.sz]; decide) hc, _, rfl, fun e he => by simp at he⟩)
        have g1 : on L 1 := Decidable.byContradiction fun hc => hno 1 (mem_ready.2 ⟨off (by rw [hP.sz]; decide) hc, _, rfl, fun e he => by simp at he⟩)
        have g2 : on L 2 := by
          refine Decidable.byContradiction fun hc => hno 2 (mem_ready.2 ⟨off (by rw [hP.sz]; decide) hc, _, rfl, ?_⟩)
          intro e he hb
          simp at he
          rcases he with rfl | rfl
          all_goals first | assumption | exact absurd hb (by decide)
        have g3 : on L 3 := Decidable.byContradiction fun hc => hno 3 (mem_ready.2 ⟨off (by rw [hP.sz]; decide) hc, _, rfl, fun e he => by simp at he⟩)
        have g4 : on L 4 := Decidable.byContradiction fun hc => hno 4 (mem_ready.2 ⟨off (by rw [hP.sz]; decide) hc, _, rfl, fun e he => by simp at he⟩)
        have g5 : on L 5 := by
          refine Decidable.byContradiction fun hc => hno 5 (mem_ready.2 ⟨off (by rw [hP.sz]; decide) hc, _, rfl, ?_⟩)
          intro e he hb
          simp at he
          rcases he with rfl | rfl | rfl
          all_goals first | assumption | exact absurd hb (by decide)
        have g6 : on L 6 := Decidable.byContradiction fun hc => hno 6 (mem_ready.2 ⟨off (by rw [hP.sz]; decide) hc, _, rfl, fun e he => by simp at he⟩)
        have g7 : on L 7 := Decidable.byContradiction fun hc => hno 7 (mem_ready.2 ⟨off (by rw [hP.sz]; decide) hc, _, rfl, fun e he => by simp at he⟩)
        have g8 : on L 8 := by
          refine Decidable.byContradiction fun hc => hno 8 (mem_ready.2 ⟨off (by rw [hP.sz]; decide) hc, _, rfl, ?_⟩)
          intro e he hb
          simp at he
          rcases he with rfl | rfl | rfl | rfl | rfl | rfl | rfl | rfl | rfl | rfl | rfl
          all_goals first | assumption | exact absurd hb (by decide)
        have g9 : on L 9 := by
          refine Decidable.byContradiction fun hc => hno 9 (mem_ready.2 ⟨off (by rw [hP.sz]; decide) hc, _, rfl, ?_⟩)
          intro e he hb
          simp at he
          rcases he with rfl | rfl | rfl | rfl | rfl | rfl | rfl | rfl | rfl | rfl | rfl | rfl
          all_goals first | assumption | exact absurd hb (by decide)
        obtain ⟨X, eX, hX, hcX⟩ := hP.h6 g6
        obtain ⟨Y, eY, hY, hcY⟩ := hP.h7 g7
        rw [cel_on g8] at hcX
        rw [cel_on g9] at hcY
        have e18 := hP.h0 g0
        have e19 := hP.h1 g1
        have e20 := hP.h2 g2
        have e21 := hP.h3 g3
        have e22 := hP.h4 g4
        have e23 := hP.h5 g5
        have hbl := hP.bl
        clear hP g0 g1 g2 g3 g4 g5 g6 g7 g8 g9 hr hno
        subst eX eY e18 e19 e20 e21 e22 e23
        have y0 : v.cell? ⟨X, 0, none⟩ = some (.string P1) := by simp [World.cell?, hcX]
        have y1 : v.cell? ⟨X, 1, none⟩ = some (.string Q1) := by simp [World.cell?, hcX]
        have y2 : v.cell? ⟨Y, 0, none⟩ = some (.string P2) := by simp [World.cell?, hcY]
        have y3 : v.cell? ⟨Y, 1, none⟩ = some (.string Q2) := by simp [World.cell?, hcY]
        clear hcX hcY
        dsimp only
        have HV : Hid _ := hbl
        clear hbl
        go_wp2_with fail
        refine (hN _).mono ?_
        rintro e v2 ⟨rfl, hb2⟩
        have HBL : Hid (Below wr.heap.size wr (v2.alloc (.cells #[.string P3, .string Q3] 41))) := bl_alloc (bl_trans HV.out hb2) _
        clear hb2 y0 y1 y2 y3 hN
        have hown2 : (v2.alloc (.cells #[.string P3, .string Q3] 41)).ownsRow (w.heap.size + 1 + 1 + 1) 41 2 u7 k L0 := owns_below hown HBL.out
        have HZ2 : Hid (Zb w (v2.alloc (.cells #[.string P3, .string Q3] 41)) (.slice a1 m c1) (.slice b1 n d1) (.slice a2 m c2) (.slice b2 n d2)) := HZ.out.below HBL.out
        have hnw : ∀ (j : Nat) (u : Value), ([Value.string P3, Value.string Q3] : List Value)[j]? = some u → (v2.alloc (.cells #[.string P3, .string Q3] 41)).cell? ((⟨v2.heap.size, 0, none⟩ : Addr).add j) = some u := by
          intro j u hj
          match j, hj with
          | 0, hj => simp at hj; subst hj; rw [row_add]; simp
          | 1, hj => simp at hj; subst hj; rw [row_add]; simp
          | j + 2, hj => simp at hj
        go_wp2_with (first | (at_builtin; refine wpList_append_own _ rfl _ _ 45 rfl (w.heap.size + 1 + 1 + 1) 41 i0 (.agg #[.string ByteArray.empty, .string ByteArray.empty]) 2 32 Tryz.underlying45 hi hz0 hz1 hz2 rfl (by decide) _ k L0 rfl hown2 ⟨v2.heap.size, 0, none⟩ 1 1 [.string P3, .string Q3] rfl rfl hnw (by simp [Value.oneCell']) (by unfold maxLen; omega) (by omega) (by have := HZ2.out.bx.lt; omega) ?_))
        intro v' w4 hown4 hgrow4 _
        have HZ4 : Hid (Zb w w4 (.slice a1 m c1) (.slice b1 n d1) (.slice a2 m c2) (.slice b2 n d2)) := HZ2.out.keep ((Below.refl (w.heap.size + 1 + 1 + 1) _).grown hgrow4 (by have := HZ2.out.bx.lt; omega) (fun b hb => (hown2.lt b hb).1))
        have HO4 : Hid (w4.ownsRow (w.heap.size + 1 + 1 + 1) 41 2 v' (k + 1) (L0 ++ [.string P3, .string Q3])) := hown4
        clear hown4 hgrow4 hown2 hnw
        go_wp2
        refine ⟨⟨k + 1, v', by omega, by simp, rfl, HZ4.out, ?_⟩, by simp [intOf]; omega⟩
        rw [HL.out]
        exact HO4.out
      · exact ⟨_, _, _, _, _, _, _, _, rfl, ⟨by simp, fun g => absurd g (by simp [on]), fun g => absurd g (by simp [on]), fun g => absurd g (by simp [on]), fun g => absurd g (by simp [on]), fun g => absurd g (by simp [on]), fun g => absurd g (by simp [on]), bl_drew (Below.refl _ _), fun g => absurd g (by simp [on]), fun g => absurd g (by simp [on]), fun g => absurd g (by simp [on]), fun g => absurd g (by simp [on]), fun g => absurd g (by simp [on])⟩⟩
    · have ek : k = n := by omega
      subst ek
      obtain ⟨ao, cap, ev, hrow⟩ := row_own2 hown
      subst ev
      have e1 : (List.zipWith (· * ·) qs rs).take k = List.zipWith (· * ·) qs rs := List.take_of_length_le (by rw [HLn.out]; exact Nat.le_refl _)
      rw [e1] at hrow
      have hO := of_any a1 ao zs (List.zipWith (· * ·) qs rs) c1 cap wr ((HT1.out.below hZ.bl).tm.s) hrow (by rw [HLn.out]; omega) (fun q hq => (HTr.out.b q hq).mono (by omega))
      rw [HLn.out, HT1.out.hm] at hO
      have HZ : Hid (Zb w wr (.slice a1 m c1) (.slice b1 k d1) (.slice a2 m c2) (.slice b2 k d2)) := hZ
      have k0 := hZ.a0
      have k1 := hZ.a1
      clear hZ hrow hown e1
      go_wp2_with fail
      refine hO.mono ?_
      rintro e w5 ⟨c5, b5, d5, rfl, hr5, hf5, hb5⟩
      have hZ5 := HZ.out.below hb5
      have HT5 : Hid (Tt w5 0 a1 b5 zs m k (List.zipWith (· * ·) qs rs) 80) := ⟨⟨((HT1.out.below HZ.out.bl).below hb5).tm.s, hr5, fun _ _ _ _ => Nat.zero_le _, fun _ _ _ _ => Nat.zero_le _⟩, HTr.out, HT1.out.hm, HLn.out⟩
      have HF5 : Hid (Sp.Sl w a1 zs ∧ Fresh wr.heap.size b5) := ⟨HT1.out.tm.s, hf5⟩
      have hx0 := hZ5.bx.c0
      have hx1 := hZ5.bx.c1
      have hx2 := hZ5.bx.f0
      have hx3 := hZ5.bx.f1
      have HZ5 : Hid (Zb w w5 (.slice a1 m c1) (.slice b1 k d1) (.slice a2 m c2) (.slice b2 k d2)) := hZ5
      clear hZ5 hr5 hf5 hb5 hO k0 k1
      go_wp2
      refine bodyPost_ret (v := .agg #[.slice a1 m c5, .slice b5 k d5]) (by simp [results, Tryz.results19, go_sem, (two_set HZ5.out.bx.c0 HZ5.out.bx.c1 _ _).1, (two_set HZ5.out.bx.c0 HZ5.out.bx.c1 _ _).2]) rfl ⟨a1, c5, b5, d5, rfl, ?_, ?_⟩
      · have hbl := bl_set (bl_set HZ5.out.bl (a := ⟨w.heap.size + 1 + 1, 0, none⟩) (by simp; omega) (.slice a1 m c5)) (a := ⟨w.heap.size + 1 + 1, 1, none⟩) (by simp; omega) (.slice b5 k d5)
        refine ⟨⟨HF5.out.1.below hbl, ?_, fun _ _ _ _ => Nat.zero_le _, fun _ _ _ _ => Nat.zero_le _⟩, HTr.out, HT1.out.hm, HLn.out⟩
        have hlt := HZ.out.bx.lt
        exact row_set (row_set HT5.out.tm.r HF5.out.2 (by simpa using hlt) _) HF5.out.2 (by simpa using hlt) _
      · exact bl_set (bl_set HZ5.out.bl (by simp; omega) _) (by simp; omega) _
set_option maxHeartbeats 8000000 in
theorem rzip_sub (a1 b1 a2 b2 : Option Addr) (c1 d1 c2 d2 m n B1 B2 : Nat) (zs : List Int) (qs rs : List Rat) (w : World) (h1 : Tt w B1 a1 b1 zs m n qs 40) (h2 : Tt w B2 a2 b2 zs m n rs 40) :
    Calls Tryz.prog 19 #[.string sSub, .agg #[.slice a1 m c1, .slice b1 n d1], .agg #[.slice a2 m c2, .slice b2 n d2]] w fun e w' => ∃ a3 c3 b3 d3, e = .returned (.agg #[.slice a3 m c3, .slice b3 n d3]) ∧ Tt w' 0 a3 b3 zs m n (List.zipWith (· - ·) qs rs) 81 ∧ Below w.heap.size w w' := by
  obtain ⟨i0, hi, hz0, hz1, hz2⟩ := info_parts inf41
  have hle := h1.le
  have HTr : Hid (Tr zs (List.zipWith (· - ·) qs rs) 81) := h1.tr.zip h2.tr fun x y hx hy => hx.minus hy
  have HLn : Hid ((List.zipWith (· - ·) qs rs).length = n) := by unfold Hid; rw [zip_len _ (by rw [h1.hn, h2.hn]), h1.hn]
  have HT1 : Hid _ := h1
  have HT2 : Hid _ := h2
  clear h1 h2
  go_enter Tryz.func19, Tryz.ntmps19
  go_wp2_with fail
  go_loopw [7, 8, 9, 10] (fun l i _ _ wr => ∃ (k : Nat) (v : Value), k ≤ n ∧ i = .int .i64 k ∧ l = v ∧ Zb w wr (.slice a1 m c1) (.slice b1 n d1) (.slice a2 m c2) (.slice b2 n d2) ∧ wr.ownsRow (w.heap.size + 1 + 1 + 1) 41 2 v k (frs ((List.zipWith (· - ·) qs rs).take k))) (fun _ i _ _ _ => n - (intOf i).toNat)
  case atStart => exact ⟨0, .slice none 0 0, by omega, rfl, rfl, Zb.new w _ _ _ _, World.ownsRow_nil _ _ _ _⟩
  case round =>
    obtain ⟨k, v, hk, rfl, rfl, hZ, hown⟩ := hrel
    by_cases h : k < n
    · have hA := fun (u : World) (hu : Below wr.heap.size wr u) => zat c1 d1 k (HT1.out.below (bl_trans hZ.bl hu)) h (by omega)
      have hB := fun (u : World) (hu : Below wr.heap.size wr u) => zat c2 d2 k (HT2.out.below (bl_trans hZ.bl hu)) h (by omega)
      have hN := fun (u : World) => radd_R (qs.getD k 0) (-(rs.getD k 0)) 40 40 u (HT1.out.tr.b _ (mem_getD qs (by rw [HT1.out.hn]; exact h))) (HT2.out.tr.b _ (mem_getD rs (by rw [HT2.out.hn]; exact h))).neg (by omega)
      rw [← Rat.sub_eq_add_neg] at hN
      have hM := fun (u : World) => rneg_R (rs.getD k 0) u ((HT2.out.tr.b _ (mem_getD rs (by rw [HT2.out.hn]; exact h))).mono (by omega))
      unfold fr at hN hM
      have HL : Hid (frs ((List.zipWith (· - ·) qs rs).take (k + 1)) = frs ((List.zipWith (· - ·) qs rs).take k) ++ [.string (W (((qs.getD k 0 - rs.getD k 0)).num)), .string (S (((qs.getD k 0 - rs.getD k 0)).den))]) := by
        unfold Hid
        have q1 : k < qs.length := by rw [HT1.out.hn]; exact h
        have q2 : k < rs.length := by rw [HT2.out.hn]; exact h
        rw [take_snoc _ (by rw [HLn.out]; exact h), frs_app, zip_at _ q1 q2]; rfl
      have k1 := hZ.a1
      have HZ : Hid (Zb w wr (.slice a1 m c1) (.slice b1 n d1) (.slice a2 m c2) (.slice b2 n d2)) := hZ
      clear hZ
      unfold fr at hA hB
      generalize W ((qs.getD k 0 - rs.getD k 0)).num = P3 at *
      generalize S ((qs.getD k 0 - rs.getD k 0)).den = Q3 at *
      generalize W (-(rs.getD k 0)).num = P4 at *
      generalize S (-(rs.getD k 0)).den = Q4 at *
      generalize W (qs.getD k 0).num = P1 at *
      generalize S (qs.getD k 0).den = Q1 at *
      generalize W (rs.getD k 0).num = P2 at *
      generalize S (rs.getD k 0).den = Q2 at *
      generalize frs ((List.zipWith (· - ·) qs rs).take k) = L0 at *
      have HA : Hid _ := hA
      have HB : Hid _ := hB
      clear hA hB
      go_wp2_with fail
      refine wp_region_any (by kernel_rfl) ?_
      refine wpAny_inv (fun L a v => ∃ s9 s10 s18 s19 s20 s21 s22 s23, a = ⟨#[.string sSub, .agg #[.slice a1 m c1, .slice b1 n d1], .agg #[.slice a2 m c2, .slice b2 n d2], undef, .pointer (some ⟨w.heap.size, 0, none⟩), .pointer (some ⟨w.heap.size + 1, 0, none⟩), .pointer (some ⟨w.heap.size + 1 + 1, 0, none⟩), u7, .int .i64 (k : Int), s9, s10, .int .i64 (k : Int), .pointer (some ⟨w.heap.size, 1, none⟩), .slice b1 n d1, .int .i64 (n : Int), .bool true, u16, u17, s18, s19, s20, s21, s22, s23, u24, u25, u26, u27, u28, u29, u30, u31, u32, u33, u34, u35, u36, u37, u38, u39, u40, u41, u42, u43, u44, u45, u46, u47, undef, undef, undef, undef], []⟩ ∧ Pv wr (.agg #[.slice a1 m c1, .slice b1 n d1]) (.agg #[.slice a2 m c2, .slice b2 n d2]) (.int .i64 (k : Int)) P1 Q1 P2 Q2 L v s9 s10 s18 s19 s20 s21 s22 s23) ?_ ?_ _ _ _ _ (by decide) ?_
      · intro L a v i hI hi
        obtain ⟨s9, s10, s18, s19, s20, s21, s22, s23, rfl, hP⟩ := hI
        obtain ⟨hu, o, ho, haf⟩ := mem_ready.1 hi
        have hlt : i < 10 := (Array.getElem?_eq_some_iff.1 ho).1
        have hZ := HZ.out.below hP.bl
        have k0 := hZ.a0
        have k1 := hZ.a1
        have k2 := hZ.b0
        have k3 := hZ.b1
        rcases (by omega : i = 0 ∨ i = 1 ∨ i = 2 ∨ i = 3 ∨ i = 4 ∨ i = 5 ∨ i = 6 ∨ i = 7 ∨ i = 8 ∨ i = 9) with rfl | rfl | rfl | rfl | rfl | rfl | rfl | rfl | rfl | rfl
        all_goals (simp only [List.getElem?_toArray, List.getElem?_cons_zero, List.getElem?_cons_succ, Option.some.injEq] at ho; subst ho)
        · refine step_run rfl rfl ?_
          go_simp
          exact ⟨_, _, _, _, _, _, _, _, ⟨rfl, rfl, rfl, rfl, rfl, rfl, rfl, rfl⟩, hP.t0⟩
        · refine step_run rfl rfl ?_
          go_simp
          exact ⟨_, _, _, _, _, _, _, _, ⟨rfl, rfl, rfl, rfl, rfl, rfl, rfl, rfl⟩, hP.t1⟩
        · have g1 := hP.h0 (haf { on := 0, ground := .data } (by simp) rfl)
          have g2 := hP.h1 (haf { on := 1, ground := .data } (by simp) rfl)
          subst g1 g2
          refine step_run rfl rfl ?_
          unfold Oper.wp
          rw [run_two cf28 (.tmp 18) (.tmp 19) 25 3 rfl _ _ rfl rfl]
          refine (HA.out v hP.bl).mono ?_
          rintro e v2 ⟨rfl, hb⟩
          have hP2 := hP.t2 hb
          go_simp
          exact ⟨_, _, _, _, _, _, _, _, ⟨rfl, rfl, rfl, rfl, rfl, rfl, rfl, rfl⟩, hP2⟩
        · refine step_run rfl rfl ?_
          go_simp
          exact ⟨_, _, _, _, _, _, _, _, ⟨rfl, rfl, rfl, rfl, rfl, rfl, rfl, rfl⟩, hP.t3⟩
        · refine step_run rfl rfl ?_
          go_simp
          exact ⟨_, _, _, _, _, _, _, _, ⟨rfl, rfl, rfl, rfl, rfl, rfl, rfl, rfl⟩, hP.t4⟩
        · have g1 := hP.h3 (haf { on := 3, ground := .data } (by simp) rfl)
          have g2 := hP.h4 (haf { on := 4, ground := .data } (by simp) rfl)
          subst g1 g2
          refine step_run rfl rfl ?_
          unfold Oper.wp
          rw [run_two cf28 (.tmp 21) (.tmp 22) 25 3 rfl _ _ rfl rfl]
          refine (HB.out v hP.bl).mono ?_
          rintro e v2 ⟨rfl, hb⟩
          have hP2 := hP.t5 hb
          go_simp
          exact ⟨_, _, _, _, _, _, _, _, ⟨rfl, rfl, rfl, rfl, rfl, rfl, rfl, rfl⟩, hP2⟩
        · have hP2 := hP.t6 (off_of hu)
          refine step_run rfl rfl ?_
          go_simp
          exact ⟨_, _, _, _, _, _, _, _, ⟨rfl, rfl, rfl, rfl, rfl, rfl, rfl, rfl⟩, hP2⟩
        · have hP2 := hP.t7 (off_of hu)
          refine step_run rfl rfl ?_
          go_simp
          exact ⟨_, _, _, _, _, _, _, _, ⟨rfl, rfl, rfl, rfl, rfl, rfl, rfl, rfl⟩, hP2⟩
        · have ga := haf { on := 6, ground := .data } (by simp) rfl
          obtain ⟨X, e9, hx, hc⟩ := hP.h6 ga
          have g2 := hP.h2 (haf { on := 2, ground := .data } (by simp) rfl)
          have hne : ¬ s10 = s9 := fun c => hP.ne (haf { on := 6, ground := .data } (by simp) rfl) (haf { on := 7, ground := .phase } (by simp) rfl) c.symm
          rw [cel_off (off_of hu)] at hc
          subst e9 g2
          have hP2 := hP.t8 hx hc ga hne
          have y0 : v.cell? ⟨X, 0, none⟩ = some (.string ⟨#[]⟩) := by simp [World.cell?, hc]
          have y1 : v.cell? ⟨X, 1, none⟩ = some (.string ⟨#[]⟩) := by simp [World.cell?, hc]
          have y2 : v.frozen? ⟨X, 0, none⟩ = false := by simp [World.frozen?, hc]
          have y3 : v.frozen? ⟨X, 1, none⟩ = false := by simp [World.frozen?, hc]
          refine step_run rfl rfl ?_
          go_simp
          exact ⟨_, _, _, _, _, _, _, _, ⟨rfl, rfl, rfl, rfl, rfl, rfl, rfl, rfl⟩, hP2⟩
        · have ga := haf { on := 7, ground := .data } (by simp) rfl
          obtain ⟨X, e9, hx, hc⟩ := hP.h7 ga
          have g2 := hP.h5 (haf { on := 5, ground := .data } (by simp) rfl)
          have hne : ¬ s9 = s10 := fun c => hP.ne (haf { on := 6, ground := .phase } (by simp) rfl) (haf { on := 7, ground := .data } (by simp) rfl) c
          rw [cel_off (off_of hu)] at hc
          subst e9 g2
          have hP2 := hP.t9 hx hc ga hne
          have y0 : v.cell? ⟨X, 0, none⟩ = some (.string ⟨#[]⟩) := by simp [World.cell?, hc]
          have y1 : v.cell? ⟨X, 1, none⟩ = some (.string ⟨#[]⟩) := by simp [World.cell?, hc]
          have y2 : v.frozen? ⟨X, 0, none⟩ = false := by simp [World.frozen?, hc]
          have y3 : v.frozen? ⟨X, 1, none⟩ = false := by simp [World.frozen?, hc]
          refine step_run rfl rfl ?_
          go_simp
          exact ⟨_, _, _, _, _, _, _, _, ⟨rfl, rfl, rfl, rfl, rfl, rfl, rfl, rfl⟩, hP2⟩
      · intro L a v hI hr
        obtain ⟨s9, s10, s18, s19, s20, s21, s22, s23, rfl, hP⟩ := hI
        have hno := List.eq_nil_iff_forall_not_mem.1 hr
        have g0 : on L 0 := Decidable.byContradiction fun hc => hno 0 (mem_ready.2 ⟨off (by rw [hP.sz]; decide) hc, _, rfl, fun e he => by simp at he⟩)
        have g1 : on L 1 := Decidable.byContradiction fun hc => hno 1 (mem_ready.2 ⟨off (by rw [hP.sz]; decide) hc, _, rfl, fun e he => by simp at he⟩)
        have g2 : on L 2 := by
          refine Decidable.byContradiction fun hc => hno 2 (mem_ready.2 ⟨off (by rw [hP.sz]; decide) hc, _, rfl, ?_⟩)
          intro e he hb
          simp at he
          rcases he with rfl | rfl
          all_goals first | assumption | exact absurd hb (by decide)
        have g3 : on L 3 := Decidable.byContradiction fun hc => hno 3 (mem_ready.2 ⟨off (by rw [hP.sz]; decide) hc, _, rfl, fun e he => by simp at he⟩)
        have g4 : on L 4 := Decidable.byContradiction fun hc => hno 4 (mem_ready.2 ⟨off (by rw [hP.sz]; decide) hc, _, rfl, fun e he => by simp at he⟩)
        have g5 : on L 5 := by
          refine Decidable.byContradiction fun hc => hno 5 (mem_ready.2 ⟨off (by rw [hP.sz]; decide) hc, _, rfl, ?_⟩)
          intro e he hb
          simp at he
          rcases he with rfl | rfl | rfl
          all_goals first | assumption | exact absurd hb (by decide)
        have g6 : on L 6 := Decidable.byContradiction fun hc => hno 6 (mem_ready.2 ⟨off (by rw [hP.sz]; decide) hc, _, rfl, fun e he => by simp at he⟩)
        have g7 : on L 7 := Decidable.byContradiction fun hc => hno 7 (mem_ready.2 ⟨off (by rw [hP.sz]; decide) hc, _, rfl, fun e he => by simp at he⟩)
        have g8 : on L 8 := by
          refine Decidable.byContradiction fun hc => hno 8 (mem_ready.2 ⟨off (by rw [hP.sz]; decide) hc, _, rfl, ?_⟩)
          intro e he hb
          simp at he
          rcases he with rfl | rfl | rfl | rfl | rfl | rfl | rfl | rfl | rfl | rfl | rfl
          all_goals first | assumption | exact absurd hb (by decide)
        have g9 : on L 9 := by
          refine Decidable.byContradiction fun hc => hno 9 (mem_ready.2 ⟨off (by rw [hP.sz]; decide) hc, _, rfl, ?_⟩)
          intro e he hb
          simp at he
          rcases he with rfl | rfl | rfl | rfl | rfl | rfl | rfl | rfl | rfl | rfl | rfl | rfl
          all_goals first | assumption | exact absurd hb (by decide)
        obtain ⟨X, eX, hX, hcX⟩ := hP.h6 g6
        obtain ⟨Y, eY, hY, hcY⟩ := hP.h7 g7
        rw [cel_on g8] at hcX
        rw [cel_on g9] at hcY
        have e18 := hP.h0 g0
        have e19 := hP.h1 g1
        have e20 := hP.h2 g2
        have e21 := hP.h3 g3
        have e22 := hP.h4 g4
        have e23 := hP.h5 g5
        have hbl := hP.bl
        clear hP g0 g1 g2 g3 g4 g5 g6 g7 g8 g9 hr hno
        subst eX eY e18 e19 e20 e21 e22 e23
        have y0 : v.cell? ⟨X, 0, none⟩ = some (.string P1) := by simp [World.cell?, hcX]
        have y1 : v.cell? ⟨X, 1, none⟩ = some (.string Q1) := by simp [World.cell?, hcX]
        have y2 : v.cell? ⟨Y, 0, none⟩ = some (.string P2) := by simp [World.cell?, hcY]
        have y3 : v.cell? ⟨Y, 1, none⟩ = some (.string Q2) := by simp [World.cell?, hcY]
        clear hcX hcY
        dsimp only
        have HV : Hid (Below wr.heap.size wr v) := hbl
        have HOWN : Hid (wr.ownsRow (w.heap.size + 1 + 1 + 1) 41 2 u7 k L0) := hown
        clear hbl hown
        go_wp2_with fail
        go_region_law (first
          | (refine step_enter rfl (run_one cf41 (.tmp 43) 41 rfl _ rfl) (hM _) ?_
             rintro e v2 ⟨rfl, hb2⟩
             have z0 := cell_below hb2 y0
             have z1 := cell_below hb2 y1
             have HB2 : Hid (Below wr.heap.size wr v2) := bl_trans (bl_drew HV.out) hb2
             clear hb2
             refine ⟨_, rfl, ?_⟩)
          | (refine step_enter rfl (run_two cf29 (.tmp 42) (.tmp 44) 41 41 rfl _ _ rfl rfl) (hN _) ?_
             rintro e v3 ⟨rfl, hb3⟩
             have HBL : Hid (Below wr.heap.size wr (v3.alloc (.cells #[.string P3, .string Q3] 41))) := bl_alloc (bl_trans HB2.out hb3) _
             clear hb3
             refine ⟨_, rfl, ?_⟩)
          | (have hown2 : (v3.alloc (.cells #[.string P3, .string Q3] 41)).ownsRow (w.heap.size + 1 + 1 + 1) 41 2 u7 k L0 := owns_below HOWN.out HBL.out
             have HZ2 : Hid (Zb w (v3.alloc (.cells #[.string P3, .string Q3] 41)) (.slice a1 m c1) (.slice b1 n d1) (.slice a2 m c2) (.slice b2 n d2)) := HZ.out.below HBL.out
             have hnw : ∀ (j : Nat) (u : Value), ([Value.string P3, Value.string Q3] : List Value)[j]? = some u → (v3.alloc (.cells #[.string P3, .string Q3] 41)).cell? ((⟨v3.heap.size, 0, none⟩ : Addr).add j) = some u := by
               intro j u hj
               match j, hj with
               | 0, hj => simp at hj; subst hj; rw [row_add]; simp
               | 1, hj => simp at hj; subst hj; rw [row_add]; simp
               | j + 2, hj => simp at hj
             refine step_append rfl (.tmp 41) (.tmp 46) 45 rfl (w.heap.size + 1 + 1 + 1) 41 i0 (.agg #[.string ByteArray.empty, .string ByteArray.empty]) 2 32 Tryz.underlying45 hi hz0 hz1 hz2 rfl (by decide) _ k L0 rfl hown2 ⟨v3.heap.size, 0, none⟩ 1 1 [.string P3, .string Q3] rfl rfl hnw (by simp [Value.oneCell']) (by unfold maxLen; omega) (by omega) (by have := HZ2.out.bx.lt; omega) ?_
             intro v' w4 hown4 hgrow4
             have HZ4 : Hid (Zb w w4 (.slice a1 m c1) (.slice b1 n d1) (.slice a2 m c2) (.slice b2 n d2)) := HZ2.out.keep ((Below.refl (w.heap.size + 1 + 1 + 1) _).grown hgrow4 (by have := HZ2.out.bx.lt; omega) (fun b hb => (hown2.lt b hb).1))
             have HO4 : Hid (w4.ownsRow (w.heap.size + 1 + 1 + 1) 41 2 v' (k + 1) (L0 ++ [.string P3, .string Q3])) := hown4
             clear hown4 hgrow4 hown2 hnw))
        all_goals
          go_wp2
          refine ⟨⟨k + 1, v', by omega, by simp, rfl, HZ4.out, ?_⟩, by simp [intOf]; omega⟩
          rw [HL.out]
          exact HO4.out
      · exact ⟨_, _, _, _, _, _, _, _, rfl, ⟨by simp, fun g => absurd g (by simp [on]), fun g => absurd g (by simp [on]), fun g => absurd g (by simp [on]), fun g => absurd g (by simp [on]), fun g => absurd g (by simp [on]), fun g => absurd g (by simp [on]), bl_drew (Below.refl _ _), fun g => absurd g (by simp [on]), fun g => absurd g (by simp [on]), fun g => absurd g (by simp [on]), fun g => absurd g (by simp [on]), fun g => absurd g (by simp [on])⟩⟩
    · have ek : k = n := by omega
      subst ek
      obtain ⟨ao, cap, ev, hrow⟩ := row_own2 hown
      subst ev
      have e1 : (List.zipWith (· - ·) qs rs).take k = List.zipWith (· - ·) qs rs := List.take_of_length_le (by rw [HLn.out]; exact Nat.le_refl _)
      rw [e1] at hrow
      have hO := of_any a1 ao zs (List.zipWith (· - ·) qs rs) c1 cap wr ((HT1.out.below hZ.bl).tm.s) hrow (by rw [HLn.out]; omega) (fun q hq => (HTr.out.b q hq).mono (by omega))
      rw [HLn.out, HT1.out.hm] at hO
      have HZ : Hid (Zb w wr (.slice a1 m c1) (.slice b1 k d1) (.slice a2 m c2) (.slice b2 k d2)) := hZ
      have k0 := hZ.a0
      have k1 := hZ.a1
      clear hZ hrow hown e1
      go_wp2_with fail
      refine hO.mono ?_
      rintro e w5 ⟨c5, b5, d5, rfl, hr5, hf5, hb5⟩
      have hZ5 := HZ.out.below hb5
      have HT5 : Hid (Tt w5 0 a1 b5 zs m k (List.zipWith (· - ·) qs rs) 81) := ⟨⟨((HT1.out.below HZ.out.bl).below hb5).tm.s, hr5, fun _ _ _ _ => Nat.zero_le _, fun _ _ _ _ => Nat.zero_le _⟩, HTr.out, HT1.out.hm, HLn.out⟩
      have HF5 : Hid (Sp.Sl w a1 zs ∧ Fresh wr.heap.size b5) := ⟨HT1.out.tm.s, hf5⟩
      have hx0 := hZ5.bx.c0
      have hx1 := hZ5.bx.c1
      have hx2 := hZ5.bx.f0
      have hx3 := hZ5.bx.f1
      have HZ5 : Hid (Zb w w5 (.slice a1 m c1) (.slice b1 k d1) (.slice a2 m c2) (.slice b2 k d2)) := hZ5
      clear hZ5 hr5 hf5 hb5 hO k0 k1
      go_wp2
      refine bodyPost_ret (v := .agg #[.slice a1 m c5, .slice b5 k d5]) (by simp [results, Tryz.results19, go_sem, (two_set HZ5.out.bx.c0 HZ5.out.bx.c1 _ _).1, (two_set HZ5.out.bx.c0 HZ5.out.bx.c1 _ _).2]) rfl ⟨a1, c5, b5, d5, rfl, ?_, ?_⟩
      · have hbl := bl_set (bl_set HZ5.out.bl (a := ⟨w.heap.size + 1 + 1, 0, none⟩) (by simp; omega) (.slice a1 m c5)) (a := ⟨w.heap.size + 1 + 1, 1, none⟩) (by simp; omega) (.slice b5 k d5)
        refine ⟨⟨HF5.out.1.below hbl, ?_, fun _ _ _ _ => Nat.zero_le _, fun _ _ _ _ => Nat.zero_le _⟩, HTr.out, HT1.out.hm, HLn.out⟩
        have hlt := HZ.out.bx.lt
        exact row_set (row_set HT5.out.tm.r HF5.out.2 (by simpa using hlt) _) HF5.out.2 (by simpa using hlt) _
      · exact bl_set (bl_set HZ5.out.bl (by simp; omega) _) (by simp; omega) _
end Go.Proofs.YtfblgaffkflenaaGreatDoor.Tn
