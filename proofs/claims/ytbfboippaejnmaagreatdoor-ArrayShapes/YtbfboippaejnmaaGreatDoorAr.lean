/-
  PACKAGE array, ITS SMALL CALLS: whether a tensor stands in rows, a number of it, a row by a column, a tensor made by rows. Conditions: each theorem's own.
-/
import Derived.Test.YtbfboippaejnmaaGreatDoorTw
import Derived.Test.YtbfboippaejnmaaGreatDoorMx
namespace Go.Proofs.YtbfboippaejnmaaGreatDoor.Tn
set_option maxRecDepth 100000
open Go.RowKit Nm
set_option linter.unusedVariables false

theorem inRows_yes (a b : Option Addr) (n c d : Nat) (w : World) :
    Calls Tryz.prog 30 #[.agg #[.slice a 2 c, .slice b n d]] w fun e w' => e = .returned (.bool true) ∧ Below w.heap.size w w' := by
  go_enter Tryz.func30, Tryz.ntmps30
  go_wp2
  go_ret
  exact ⟨rfl, bl_alloc (Below.refl _ _) _⟩
theorem inRows_no (a b : Option Addr) (m n c d : Nat) (w : World) (hm : ((m : Int) == 2) = false) :
    Calls Tryz.prog 30 #[.agg #[.slice a m c, .slice b n d]] w fun e w' => e = .returned (.bool false) ∧ Below w.heap.size w w' := by
  go_enter Tryz.func30, Tryz.ntmps30
  go_wp2
  go_ret
  exact ⟨rfl, bl_alloc (Below.refl _ _) _⟩

set_option maxHeartbeats 2000000 in
theorem number_raw (p1 q1 p2 q2 i j q n c d : Nat) (x : ByteArray) (w : World) (hi : i * q + j < n) (hn : n ≤ 1000) (hq : i * q ≤ 1000)
    (hx : w.cell? ⟨p1, q1 + 1, none⟩ = some (.int .i64 (q : Int))) (hy : w.cell? ⟨p2, q2 + (i * q + j), none⟩ = some (.string x)) :
    Calls Tryz.prog 36 #[.agg #[.slice (some ⟨p1, q1, none⟩) 2 c, .slice (some ⟨p2, q2, none⟩) n d], .int .i64 (i : Int), .int .i64 (j : Int)] w fun e w' => e = .returned (.string x) ∧ Below w.heap.size w w' := by
  obtain ⟨t, ht⟩ : ∃ t, i * q = t := ⟨_, rfl⟩
  have hm : IntKind.i64.wrap ((i : Int) * (q : Int)) = (t : Int) := by rw [← Int.natCast_mul, ht, IntKind.wrap_i64]; omega
  rw [ht] at hi hy hq
  obtain ⟨s, hs⟩ : ∃ s, t + j = s := ⟨_, rfl⟩
  have ha : IntKind.i64.wrap ((t : Int) + (j : Int)) = (s : Int) := by rw [← Int.natCast_add, hs, IntKind.wrap_i64]; omega
  rw [hs] at hi hy
  obtain ⟨C, hC⟩ : ∃ C : World → Prop, C = fun v => Below (w.alloc (.cells #[.slice (some ⟨p1, q1, none⟩) 2 c, .slice (some ⟨p2, q2, none⟩) n d] 25)).heap.size (w.alloc (.cells #[.slice (some ⟨p1, q1, none⟩) 2 c, .slice (some ⟨p2, q2, none⟩) n d] 25)) v := ⟨_, rfl⟩
  have c0 : ∀ v, C v → v.cell? ⟨w.heap.size, 0, none⟩ = some (.slice (some ⟨p1, q1, none⟩) 2 c) := fun v h => by subst hC; exact (own1 h).1 0
  have c1 : ∀ v, C v → v.cell? ⟨w.heap.size, 1, none⟩ = some (.slice (some ⟨p2, q2, none⟩) n d) := fun v h => by subst hC; exact (own1 h).1 1
  have cB : ∀ v, C v → Below w.heap.size w v := fun v h => by subst hC; exact (own1 h).2.2
  have c2 : ∀ v, C v → v.cell? ⟨p1, q1 + 1, none⟩ = some (.int .i64 (q : Int)) := fun v h => cell_below (cB v h) hx
  have c3 : ∀ v, C v → v.cell? ⟨p2, q2 + s, none⟩ = some (.string x) := fun v h => cell_below (cB v h) hy
  have cD : ∀ v, C v → C v.drew := fun v h => by subst hC; exact h.drew
  have cI : C (w.alloc (.cells #[.slice (some ⟨p1, q1, none⟩) 2 c, .slice (some ⟨p2, q2, none⟩) n d] 25)) := by subst hC; exact Below.refl _ _
  clear hC hx hy hs ht
  go_enter Tryz.func36, Tryz.ntmps36
  go_wp2_with fail
  refine region_calm C (by kernel_rfl) (by kernel_rfl) (cD _ cI) ?_
  clear cI
  with_reducible refine wpQuiet_step (fun K hK => ?_)
  go_simp
  refine ⟨_, fun v hv => rfl, hK _ ?_⟩
  clear hK K
  with_reducible refine wpQuiet_step (fun K hK => ?_)
  go_simp
  refine ⟨.slice (some ⟨p2, q2, none⟩) n d, fun v hv => ?_, hK _ ?_⟩
  · simp [c1 v hv]
  clear hK K
  with_reducible refine wpQuiet_step (fun K hK => ?_)
  go_simp
  refine ⟨_, fun v hv => rfl, hK _ ?_⟩
  clear hK K
  with_reducible refine wpQuiet_step (fun K hK => ?_)
  go_simp
  refine ⟨_, fun v hv => rfl, hK _ ?_⟩
  clear hK K
  with_reducible refine wpQuiet_step (fun K hK => ?_)
  go_simp
  refine ⟨.slice (some ⟨p1, q1, none⟩) 2 c, fun v hv => ?_, hK _ ?_⟩
  · simp [c0 v hv]
  clear hK K
  with_reducible refine wpQuiet_step (fun K hK => ?_)
  go_simp
  refine ⟨_, fun v hv => rfl, hK _ ?_⟩
  clear hK K
  with_reducible refine wpQuiet_step (fun K hK => ?_)
  go_simp
  refine ⟨.int .i64 (q : Int), fun v hv => ?_, hK _ ?_⟩
  · simp [c2 v hv]
  clear hK K
  with_reducible refine wpQuiet_step (fun K hK => ?_)
  go_simp
  refine ⟨.int .i64 (t : Int), fun v hv => ?_, hK _ ?_⟩
  · simp
  clear hK K
  with_reducible refine wpQuiet_step (fun K hK => ?_)
  go_simp
  refine ⟨_, fun v hv => rfl, hK _ ?_⟩
  clear hK K
  with_reducible refine wpQuiet_step (fun K hK => ?_)
  go_simp
  refine ⟨.int .i64 (s : Int), fun v hv => ?_, hK _ ?_⟩
  · simp
  clear hK K
  with_reducible refine wpQuiet_step (fun K hK => ?_)
  go_simp
  refine ⟨_, fun v hv => rfl, hK _ ?_⟩
  clear hK K
  with_reducible refine wpQuiet_step (fun K hK => ?_)
  go_simp
  refine ⟨.string x, fun v hv => ?_, hK _ ?_⟩
  · simp [c3 v hv]
  clear hK K
  with_reducible refine wpQuiet_step (fun K hK => ?_)
  go_simp
  refine ⟨_, fun v hv => rfl, hK _ ?_⟩
  clear hK K
  refine wpQuiet_nil ?_
  intro w1 C1
  have H1 : Hid _ := cB _ C1
  clear C1
  go_wp2
  go_ret
  exact ⟨rfl, H1.out⟩

set_option maxHeartbeats 4000000 in
theorem rbc_raw (p1 q1 c1 N d1 n M c2 d2 i k : Nat) (b1 a2 b2 : Option Addr) (X Y Z U : Nat → ByteArray) (w : World) (hn : n ≤ 1000)
    (hx : w.cell? ⟨p1, q1 + 1, none⟩ = some (.int .i64 (n : Int))) (hU : U 0 = ⟨#[48]⟩)
    (hX : ∀ (j : Nat) v, j < n → Below w.heap.size w v → Calls Tryz.prog 36 #[.agg #[.slice (some ⟨p1, q1, none⟩) 2 c1, .slice b1 N d1], .int .i64 (i : Int), .int .i64 (j : Int)] v fun e v' => e = .returned (.string (X j)) ∧ Below v.heap.size v v')
    (hY : ∀ (j : Nat) v, j < n → Below w.heap.size w v → Calls Tryz.prog 36 #[.agg #[.slice a2 2 c2, .slice b2 M d2], .int .i64 (j : Int), .int .i64 (k : Int)] v fun e v' => e = .returned (.string (Y j)) ∧ Below v.heap.size v v')
    (hM : ∀ (j : Nat) v, j < n → Calls Tryz.prog 54 #[.string (X j), .string (Y j)] v fun e v' => e = .returned (.tuple #[.string (Z j), .int .i64 0]) ∧ Below v.heap.size v v')
    (hA : ∀ (j : Nat) v, j < n → Calls Tryz.prog 28 #[.string (U j), .string (Z j)] v fun e v' => e = .returned (.tuple #[.string (U (j + 1)), .int .i64 0]) ∧ Below v.heap.size v v') :
    Calls Tryz.prog 34 #[.agg #[.slice (some ⟨p1, q1, none⟩) 2 c1, .slice b1 N d1], .int .i64 (i : Int), .agg #[.slice a2 2 c2, .slice b2 M d2], .int .i64 (k : Int)] w fun e w' => e = .returned (.string (U n)) ∧ Below w.heap.size w w' := by
  obtain ⟨C, hC⟩ : ∃ C : World → Prop, C = fun v => Below ((w.alloc (.cells #[.slice (some ⟨p1, q1, none⟩) 2 c1, .slice b1 N d1] 25)).alloc (.cells #[.slice a2 2 c2, .slice b2 M d2] 25)).heap.size ((w.alloc (.cells #[.slice (some ⟨p1, q1, none⟩) 2 c1, .slice b1 N d1] 25)).alloc (.cells #[.slice a2 2 c2, .slice b2 M d2] 25)) v := ⟨_, rfl⟩
  have o2 : ∀ v, C v → v.cell? ⟨w.heap.size, 0, none⟩ = some (.slice (some ⟨p1, q1, none⟩) 2 c1) ∧ v.cell? ⟨w.heap.size, 1, none⟩ = some (.slice b1 N d1) ∧ v.cell? ⟨w.heap.size + 1, 0, none⟩ = some (.slice a2 2 c2) ∧ v.cell? ⟨w.heap.size + 1, 1, none⟩ = some (.slice b2 M d2) ∧ Below w.heap.size w v := fun v h => by
    subst hC
    have k := own2 h
    exact ⟨k.1 0, k.1 1, k.2.1 0, k.2.1 1, k.2.2.2.2⟩
  have c0 : ∀ v, C v → v.cell? ⟨w.heap.size, 0, none⟩ = some (.slice (some ⟨p1, q1, none⟩) 2 c1) := fun v h => (o2 v h).1
  have c1' : ∀ v, C v → v.cell? ⟨w.heap.size, 1, none⟩ = some (.slice b1 N d1) := fun v h => (o2 v h).2.1
  have c2' : ∀ v, C v → v.cell? ⟨w.heap.size + 1, 0, none⟩ = some (.slice a2 2 c2) := fun v h => (o2 v h).2.2.1
  have c3 : ∀ v, C v → v.cell? ⟨w.heap.size + 1, 1, none⟩ = some (.slice b2 M d2) := fun v h => (o2 v h).2.2.2.1
  have cB : ∀ v, C v → Below w.heap.size w v := fun v h => (o2 v h).2.2.2.2
  have cT : ∀ u v, C u → Below u.heap.size u v → C v := fun u v h k => by subst hC; exact h.trans (k.mono h.size)
  have cD : ∀ v, C v → C v.drew := fun v h => by subst hC; exact h.drew
  have HI : Hid (C ((w.alloc (.cells #[.slice (some ⟨p1, q1, none⟩) 2 c1, .slice b1 N d1] 25)).alloc (.cells #[.slice a2 2 c2, .slice b2 M d2] 25))) := by unfold Hid; subst hC; exact Below.refl _ _
  have x0 : ((w.alloc (.cells #[.slice (some ⟨p1, q1, none⟩) 2 c1, .slice b1 N d1] 25)).alloc (.cells #[.slice a2 2 c2, .slice b2 M d2] 25)).cell? ⟨p1, q1 + 1, none⟩ = some (.int .i64 (n : Int)) := cell_below (cB _ HI.out) hx
  clear hC hx o2
  go_enter Tryz.func34, Tryz.ntmps34
  go_wp2_with fail
  go_loopw [9, 10, 11, 12, 17] (fun s _ _ _ t wr => ∃ j : Nat, j ≤ n ∧ t = .int .i64 j ∧ s = .string (U j) ∧ C wr) (fun _ _ _ _ t _ => n - (intOf t).toNat)
  case atStart => exact ⟨0, by omega, rfl, by rw [hU], HI.out⟩
  case round =>
    clear x0 HI
    obtain ⟨j, hj, rfl, rfl, hc⟩ := hrel
    by_cases h : j < n
    · have kX := fun v => hX j v h
      have kY := fun v => hY j v h
      have kM := fun v => hM j v h
      have kA := fun v => hA j v h
      have HJ : Hid (j < n) := h
      obtain ⟨u', hu'⟩ : ∃ u', U (j + 1) = u' := ⟨_, rfl⟩
      rw [hu'] at kA
      have HU : Hid _ := hu'
      clear hu' hX hY hM hA
      generalize X j = x at *
      generalize Y j = y at *
      generalize Z j = z at *
      generalize U j = u at *
      go_wp2_with fail
      refine region_calm C (by kernel_rfl) (by kernel_rfl) (cD _ hc) ?_
      clear hc
      with_reducible refine wpQuiet_step (fun K hK => ?_)
      go_simp
      refine ⟨.agg #[.slice (some ⟨p1, q1, none⟩) 2 c1, .slice b1 N d1], fun v hv => ?_, hK _ ?_⟩
      · simp [c0 v hv, c1' v hv]
      clear hK K
      with_reducible refine wpQuiet_step (fun K hK => ?_)
      go_simp
      refine ⟨_, fun v hv => rfl, hK _ ?_⟩
      clear hK K
      with_reducible refine wpQuiet_step (fun K hK => ?_)
      go_simp
      refine ⟨_, fun v hv => rfl, hK _ ?_⟩
      clear hK K
      with_reducible refine wpQuiet_step (fun K hK => ?_)
      go_simp
      refine ⟨.string x, fun v hv => ?_, hK _ ?_⟩
      · exact calm_call cT hv (kX v (cB v hv))
      clear hK K
      with_reducible refine wpQuiet_step (fun K hK => ?_)
      go_simp
      refine ⟨.agg #[.slice a2 2 c2, .slice b2 M d2], fun v hv => ?_, hK _ ?_⟩
      · simp [c2' v hv, c3 v hv]
      clear hK K
      with_reducible refine wpQuiet_step (fun K hK => ?_)
      go_simp
      refine ⟨_, fun v hv => rfl, hK _ ?_⟩
      clear hK K
      with_reducible refine wpQuiet_step (fun K hK => ?_)
      go_simp
      refine ⟨_, fun v hv => rfl, hK _ ?_⟩
      clear hK K
      with_reducible refine wpQuiet_step (fun K hK => ?_)
      go_simp
      refine ⟨.string y, fun v hv => ?_, hK _ ?_⟩
      · exact calm_call cT hv (kY v (cB v hv))
      clear hK K
      with_reducible refine wpQuiet_step (fun K hK => ?_)
      go_simp
      refine ⟨.tuple #[.string z, .int .i64 0], fun v hv => ?_, hK _ ?_⟩
      · exact calm_call cT hv (kM v)
      clear hK K
      with_reducible refine wpQuiet_step (fun K hK => ?_)
      go_simp
      refine ⟨_, fun v hv => rfl, hK _ ?_⟩
      clear hK K
      with_reducible refine wpQuiet_step (fun K hK => ?_)
      go_simp
      refine ⟨_, fun v hv => rfl, hK _ ?_⟩
      clear hK K
      with_reducible refine wpQuiet_step (fun K hK => ?_)
      go_simp
      refine ⟨_, fun v hv => rfl, hK _ ?_⟩
      clear hK K
      with_reducible refine wpQuiet_step (fun K hK => ?_)
      go_simp
      refine ⟨_, fun v hv => rfl, hK _ ?_⟩
      clear hK K
      with_reducible refine wpQuiet_step (fun K hK => ?_)
      go_simp
      refine ⟨_, fun v hv => rfl, hK _ ?_⟩
      clear hK K
      refine wpQuiet_nil ?_
      intro w1 C1
      go_wp2_with fail
      refine (kA w1).mono ?_
      rintro e w2 ⟨rfl, hb2⟩
      have H2 : Hid _ := cT _ _ C1 hb2
      clear hb2 kA C1
      go_wp2
      go_roundw
      case rel => exact ⟨j + 1, by have := HJ.out; omega, by go_num, by rw [HU.out], H2.out⟩
      case measure => have := HJ.out; simp [intOf]; omega
    · have HD : Hid _ := cB _ hc
      have ej : j = n := by omega
      subst ej
      clear hc
      go_wp2
      go_ret
      exact ⟨rfl, HD.out⟩

theorem owns_below {w w' : World} {base : Nat} {e : TypeId} {size : Nat} {v : Value} {n : Nat} {xs : List Value} (h : w.ownsRow base e size v n xs) (hb : Below w.heap.size w w') : w'.ownsRow base e size v n xs := by
  refine ⟨h.1, ?_⟩
  rcases h.2 with h1 | ⟨g, c, cur, h1, h2, h3, h4⟩
  · exact Or.inl h1
  · exact Or.inr ⟨g, c, cur, h1, h2, by rw [hb.block g (by have := (Array.getElem?_eq_some_iff.1 h3).1; exact this)]; exact h3, h4⟩
/-- the place of the answer, and a row of texts that grows -/
structure Ri (w wr : World) (v : Value) (k : Nat) (L : List Value) : Prop where
  bx : Bx wr w.heap.size
  ow : wr.ownsRow (w.heap.size + 1) 9 1 v k L
  bl : Below w.heap.size w wr
theorem Ri.call {w wr u : World} {v : Value} {k : Nat} {L : List Value} (h : Ri w wr v k L) (hb : Below wr.heap.size wr u) : Ri w u v k L := ⟨h.bx.below hb, owns_below h.ow hb, bl_trans h.bl hb⟩
theorem Ri.grow {w wr u : World} {v v' : Value} {k k' : Nat} {L L' : List Value} (h : Ri w wr v k L) (hg : wr.grownBy u v.ownBlock) (ho : u.ownsRow (w.heap.size + 1) 9 1 v' k' L') : Ri w u v' k' L' :=
  ⟨h.bx.grown hg (fun b hb => by have := (World.ownsRow.lt h.ow b hb).1; omega), ho, h.bl.grown hg (by have : w.heap.size < wr.heap.size := row_lt h.bx.c0; omega) (fun b hb => by have := (World.ownsRow.lt h.ow b hb).1; omega)⟩

set_option maxHeartbeats 4000000 in
theorem rows_raw (p1 q1 c p q f : Nat) (caps : Array Value) (X : Nat → Nat → ByteArray) (w : World) (hpq : p * q ≤ 64) (hp : p ≤ 64) (hq : q ≤ 64)
    (h0 : w.cell? ⟨p1, q1, none⟩ = some (.int .i64 (p : Int))) (h1 : w.cell? ⟨p1, q1 + 1, none⟩ = some (.int .i64 (q : Int)))
    (hsz : ∀ v, Below w.heap.size w v → Calls Tryz.prog 42 #[.slice (some ⟨p1, q1, none⟩) 2 c] v fun e v' => e = .returned (.int .i64 ((p * q : Nat) : Int)) ∧ v' = v)
    (hcf : ∀ (args : Array Value) (w : World), (callFunc f args).run Tryz.prog w = .ok (.enter f args) w)
    (HF : ∀ (i j : Nat) (v : World), i < p → j < q → Below w.heap.size w v → Calls Tryz.prog f (#[.int .i64 (i : Int), .int .i64 (j : Int)] ++ caps) v fun e v' => e = .returned (.string (X i j)) ∧ Below v.heap.size v v') :
    Calls Tryz.prog 32 #[.slice (some ⟨p1, q1, none⟩) 2 c, .func (.func f) #[] caps] w fun e w' => ∃ b1 d1, e = .returned (.agg #[.slice (some ⟨p1, q1, none⟩) 2 c, .slice b1 (p * q) d1]) ∧ Row w' b1 (txts (grid p q X)) ∧ Fresh w.heap.size b1 ∧ Below w.heap.size w w' := by
  obtain ⟨i0, hi, hz0, hz1, hz2⟩ := info_parts inf9
  obtain ⟨N, hN⟩ : ∃ N, p * q = N := ⟨_, rfl⟩
  have HG : Hid (txts (grid p q X) = txts ((List.range (p * q)).map fun t => X (t / q) (t % q))) := rfl
  have HN : Hid (p * q = N) := hN
  have HF' : Hid _ := HF
  have K0 : Hid (∀ v, Below w.heap.size w v → v.cell? ⟨p1, q1, none⟩ = some (.int .i64 (p : Int)) ∧ v.cell? ⟨p1, q1 + 1, none⟩ = some (.int .i64 (q : Int))) := fun v hv => ⟨cell_below hv h0, cell_below hv h1⟩
  rw [hN] at hpq hsz HG ⊢
  clear HF hN h0 h1
  go_enter Tryz.func32, Tryz.ntmps32
  go_wp2_with fail
  refine (hsz _ ((Below.refl _ _).alloc (Nat.le_refl _) _)).mono ?_
  rintro e w1 ⟨rfl, rfl⟩
  clear hsz
  go_wp2_with (first | (at_make; refine wpList_make_own _ rfl _ _ 23 rfl (w.heap.size + 1) 9 i0 (.string ByteArray.empty) 1 Tryz.underlying23 hi hz0 hz1 _ _ _ N rfl rfl rfl (by rw [hz2]; omega) (by unfold maxLen; omega) (by simp) ?_))
  intro w2 hown1 hgrow1
  have hR : Ri w w2 (.slice (some ⟨w.heap.size + 1, 0, none⟩) 0 N) 0 [] := ⟨(Bx.new w).grown hgrow1 (fun k h => by cases h), by simpa using hown1, ((Below.refl _ _).alloc (Nat.le_refl _) _).grown hgrow1 (by simp) (fun k h => by cases h)⟩
  have x0 := (K0.out _ hR.bl).1
  have HR : Hid _ := hR
  clear hown1 hgrow1 hR
  go_wp2_with fail
  have HS : Hid (∀ i j : Nat, i < p → j < q → (List.range (i * q + j + 1)).map (fun t => X (t / q) (t % q)) = (List.range (i * q + j)).map (fun t => X (t / q) (t % q)) ++ [X i j]) := fun i j _ hj => grid_snoc X hj
  have HL : Hid (∀ i j : Nat, i < p → j < q → i * q + j < N) := fun i j h1 h2 => by rw [← HN.out]; exact in_grid h1 h2
  go_loopw [5, 14] (fun v i wr => ∃ k : Nat, k ≤ p ∧ i = .int .i64 k ∧ Ri w wr v (k * q) (txts ((List.range (k * q)).map fun t => X (t / q) (t % q)))) (fun _ i _ => p - (intOf i).toNat)
  case atStart => exact ⟨0, by omega, rfl, by rw [Nat.zero_mul]; exact HR.out⟩
  case round =>
    clear HR x0
    obtain ⟨k, hk, rfl, hR⟩ := hrel
    by_cases h : k < p
    · have x1 := (K0.out _ hR.bl).2
      have HR : Hid _ := hR
      clear hR
      go_wp2_with fail
      go_loopw [5, 20] (fun v i wr => ∃ j : Nat, j ≤ q ∧ i = .int .i64 j ∧ Ri w wr v (k * q + j) (txts ((List.range (k * q + j)).map fun t => X (t / q) (t % q)))) (fun _ i _ => q - (intOf i).toNat)
      case atStart => exact ⟨0, by omega, rfl, by rw [Nat.add_zero]; exact HR.out⟩
      case round =>
        clear HR x1
        obtain ⟨j, hj, rfl, hR⟩ := hrel
        by_cases h' : j < q
        · have hl := HL.out k j h h'
          have hc := HF'.out k j _ h h' hR.bl
          have hX := HS.out k j h h'
          generalize X k j = x at *
          have HX : Hid (txts ((List.range (k * q + (j + 1))).map fun t => X (t / q) (t % q)) = txts ((List.range (k * q + j)).map fun t => X (t / q) (t % q)) ++ [.string x]) := by
            unfold Hid; rw [← Nat.add_assoc, hX, txts_app]; rfl
          generalize txts ((List.range (k * q + j)).map fun t => X (t / q) (t % q)) = L at *
          obtain ⟨t, ht⟩ : ∃ t, k * q + j = t := ⟨_, rfl⟩
          have HT : Hid _ := ht
          rw [ht] at hl hR
          have HR : Hid _ := hR
          clear ht hX hR
          go_wp2_with fail
          refine hc.mono ?_
          rintro e w3 ⟨rfl, hb3⟩
          have hR3 := HR.out.call hb3
          have hR4 := hR3.call (bl_alloc (Below.refl w3.heap.size w3) (.cells #[.string x] 9))
          have HOW : Hid _ := hR4.ow
          have HR4 : Hid _ := hR4
          have hnw : Row (w3.alloc (.cells #[.string x] 9)) (some ⟨w3.heap.size, 0, none⟩) [.string x] := Row.one (by simp)
          have HNW : Hid _ := hnw
          clear hb3 hR3 hR4 hc hnw HR
          go_wp2_with (first | (at_builtin; refine wpList_append_row _ _ 23 rfl (w.heap.size + 1) 9 i0 (.string ByteArray.empty) 16 Tryz.underlying23 hi hz0 hz1 hz2 rfl _ t L rfl HOW.out (some ⟨w3.heap.size, 0, none⟩) 1 1 [.string x] rfl rfl HNW.out (by simp [Value.oneCell']) (fun h => by cases h) (by unfold maxLen; omega) (by omega) (by simp; have := HR4.out.bx.lt; simp at this; omega) (by first | rfl | go_simp) ?_))
          intro v' w4 hown4 hgrow4
          have H4 : Hid _ := HR4.out.grow hgrow4 hown4
          clear hown4 hgrow4 HOW HNW HR4
          go_wp2
          go_roundw
          case rel => exact ⟨j + 1, by omega, by go_num, by rw [HX.out, ← Nat.add_assoc, HT.out]; exact H4.out⟩
          case measure => simp [intOf]; omega
        · have ej : j = q := by omega
          subst ej
          have HR : Hid _ := hR
          clear hR
          go_wp2
          go_roundw
          case rel => exact ⟨k + 1, by omega, by go_num, by rw [Nat.succ_mul]; exact HR.out⟩
          case measure => simp [intOf]; omega
    · have ek : k = p := by omega
      subst ek
      rw [HN.out] at hR
      obtain ⟨b1, d1, ev, hr, _, _, _, hfr⟩ := Row.of_own hR.ow
      subst ev
      have hx0 := hR.bx.c0
      have hx1 := hR.bx.c1
      have hx2 := hR.bx.f0
      have hx3 := hR.bx.f1
      have HR : Hid _ := hR
      have HF : Hid (Row wr b1 _ ∧ Fresh (w.heap.size + 1) b1) := ⟨hr, fun b off sp e => (hfr b off sp e).2.1⟩
      clear hR hr hfr
      go_wp2
      refine bodyPost_ret (v := .agg #[.slice (some ⟨p1, q1, none⟩) 2 c, .slice b1 N d1]) (by simp [results, Tryz.results32, go_sem, (two_set HR.out.bx.c0 HR.out.bx.c1 _ _).1, (two_set HR.out.bx.c0 HR.out.bx.c1 _ _).2]) rfl ⟨b1, d1, rfl, ?_, ?_, ?_⟩
      · rw [HG.out]
        exact row_set (row_set HF.out.1 HF.out.2 (by simp) _) HF.out.2 (by simp) _
      · exact fun b off sp e => by have := HF.out.2 b off sp e; omega
      · exact bl_set (bl_set HR.out.bl (by simp) _) (by simp) _
end Go.Proofs.YtbfboippaejnmaaGreatDoor.Tn
