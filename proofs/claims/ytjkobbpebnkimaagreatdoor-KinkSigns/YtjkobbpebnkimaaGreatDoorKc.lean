/-
  THE CLOSURES OF PACKAGE kink, AND WHAT IS MADE NUMBER BY NUMBER: what a call of each gives. Conditions: each theorem's own.
-/
import Derived.Test.YtjkobbpebnkimaaGreatDoorKb
namespace Go.Proofs.YtjkobbpebnkimaaGreatDoor.Tn
set_option maxRecDepth 100000
open Go.RowKit Nm
set_option linter.unusedVariables false

theorem cf39 : ∀ (args : Array Value) (w : World), (callFunc 39 args).run Tryz.prog w = .ok (.enter 39 args) w := fun a w => run_enter Tryz.func39 (by kernel_rfl) rfl a w
theorem cf40 : ∀ (args : Array Value) (w : World), (callFunc 40 args).run Tryz.prog w = .ok (.enter 40 args) w := fun a w => run_enter Tryz.func40 (by kernel_rfl) rfl a w
theorem cf53 : ∀ (args : Array Value) (w : World), (callFunc 53 args).run Tryz.prog w = .ok (.enter 53 args) w := fun a w => run_enter Tryz.func53 (by kernel_rfl) rfl a w
theorem cf64 : ∀ (args : Array Value) (w : World), (callFunc 64 args).run Tryz.prog w = .ok (.enter 64 args) w := fun a w => run_enter Tryz.func64 (by kernel_rfl) rfl a w

set_option maxHeartbeats 2000000 in
theorem each1_any (k n1 d1 p1 q1 bb ba : Nat) (by1 : Int) (x z : ByteArray) (w : World) (hk1 : k < n1) (hn1 : n1 ≤ 1000)
    (hb : w.cell? ⟨bb, 0, none⟩ = some (.int .i64 by1)) (ha : w.cell? ⟨ba, 1, none⟩ = some (.slice (some ⟨p1, q1, none⟩) n1 d1)) (hx : w.cell? ⟨p1, q1 + k, none⟩ = some (.string x))
    (hF : ∀ v, Below w.heap.size w v → Calls Tryz.prog 54 #[.int .i64 by1, .string x] v fun e v' => e = .returned (.string z) ∧ Below v.heap.size v v') :
    Calls Tryz.prog 53 #[.int .i64 (k : Int), .pointer (some ⟨bb, 0, none⟩), .pointer (some ⟨ba, 0, none⟩)] w fun e w' => e = .returned (.string z) ∧ Below w.heap.size w w' := by
  obtain ⟨C, hC⟩ : ∃ C : World → Prop, C = fun v => Below w.heap.size w v := ⟨_, rfl⟩
  have c0 : ∀ v, C v → v.cell? ⟨bb, 0, none⟩ = some (.int .i64 by1) := fun v h => by subst hC; exact cell_below h hb
  have c1 : ∀ v, C v → v.cell? ⟨ba, 1, none⟩ = some (.slice (some ⟨p1, q1, none⟩) n1 d1) := fun v h => by subst hC; exact cell_below h ha
  have c3 : ∀ v, C v → v.cell? ⟨p1, q1 + k, none⟩ = some (.string x) := fun v h => by subst hC; exact cell_below h hx
  have cB : ∀ v, C v → Below w.heap.size w v := fun v h => by subst hC; exact h
  have cT : ∀ u v, C u → Below u.heap.size u v → C v := fun u v h k => by subst hC; exact bl_trans h k
  have cD : ∀ v, C v → C v.drew := fun v h => by subst hC; exact h.drew
  have cI : C w := by subst hC; exact Below.refl _ _
  clear hC ha hb hx
  go_enter Tryz.func53, Tryz.ntmps53
  go_wp2_with fail
  refine region_calm C (by kernel_rfl) (by kernel_rfl) (cD _ cI) ?_
  clear cI
  refine wpQuiet_step (fun K hK => ?_)
  go_simp
  refine ⟨.int .i64 by1, fun v hv => ?_, hK _ ?_⟩
  · simp [c0 v hv]
  clear hK K
  refine wpQuiet_step (fun K hK => ?_)
  go_simp
  refine ⟨_, fun v hv => rfl, hK _ ?_⟩
  clear hK K
  refine wpQuiet_step (fun K hK => ?_)
  go_simp
  refine ⟨.slice (some ⟨p1, q1, none⟩) n1 d1, fun v hv => ?_, hK _ ?_⟩
  · simp [c1 v hv]
  clear hK K
  refine wpQuiet_step (fun K hK => ?_)
  go_simp
  refine ⟨_, fun v hv => rfl, hK _ ?_⟩
  clear hK K
  refine wpQuiet_step (fun K hK => ?_)
  go_simp
  refine ⟨_, fun v hv => rfl, hK _ ?_⟩
  clear hK K
  refine wpQuiet_step (fun K hK => ?_)
  go_simp
  refine ⟨.string x, fun v hv => ?_, hK _ ?_⟩
  · simp [c3 v hv]
  clear hK K
  refine wpQuiet_step (fun K hK => ?_)
  go_simp
  refine ⟨.string z, fun v hv => ?_, hK _ ?_⟩
  · exact calm_call cT hv (hF v (cB v hv))
  clear hK K
  refine wpQuiet_step (fun K hK => ?_)
  go_simp
  refine ⟨_, fun v hv => rfl, hK _ ?_⟩
  clear hK K
  refine wpQuiet_nil ?_
  intro w1 C1
  have H1 : Hid _ := cB _ C1
  clear C1
  go_wp2
  go_ret
  exact ⟨rfl, H1.out⟩

set_option maxHeartbeats 2000000 in
theorem pairs1_any (f k n1 n2 d1 d2 p1 q1 p2 q2 bj ba bb : Nat) (x y z : ByteArray) (s : Int) (w : World) (hk1 : k < n1) (hk2 : k < n2) (hn1 : n1 ≤ 1000) (hn2 : n2 ≤ 1000)
    (hcf : ∀ (args : Array Value) (w : World), (callFunc f args).run Tryz.prog w = .ok (.enter f args) w)
    (hj : w.cell? ⟨bj, 0, none⟩ = some (.func (.func f) #[] #[])) (ha : w.cell? ⟨ba, 1, none⟩ = some (.slice (some ⟨p1, q1, none⟩) n1 d1)) (hb : w.cell? ⟨bb, 1, none⟩ = some (.slice (some ⟨p2, q2, none⟩) n2 d2))
    (hx : w.cell? ⟨p1, q1 + k, none⟩ = some (.string x)) (hy : w.cell? ⟨p2, q2 + k, none⟩ = some (.string y))
    (hM : ∀ v, Calls Tryz.prog 65 #[.string x, .string y] v fun e v' => e = .returned (.tuple #[.int .i64 s, .int .i64 0]) ∧ Below v.heap.size v v')
    (hF : ∀ v, Calls Tryz.prog f #[.string x, .string y, .bool (decide (s < 0))] v fun e v' => e = .returned (.string z) ∧ Below v.heap.size v v') :
    Calls Tryz.prog 64 #[.int .i64 (k : Int), .pointer (some ⟨ba, 0, none⟩), .pointer (some ⟨bb, 0, none⟩), .pointer (some ⟨bj, 0, none⟩)] w fun e w' => e = .returned (.string z) ∧ Below w.heap.size w w' := by
  obtain ⟨C, hC⟩ : ∃ C : World → Prop, C = fun v => Below w.heap.size w v := ⟨_, rfl⟩
  have c0 : ∀ v, C v → v.cell? ⟨bj, 0, none⟩ = some (.func (.func f) #[] #[]) := fun v h => by subst hC; exact cell_below h hj
  have c1 : ∀ v, C v → v.cell? ⟨ba, 1, none⟩ = some (.slice (some ⟨p1, q1, none⟩) n1 d1) := fun v h => by subst hC; exact cell_below h ha
  have c2 : ∀ v, C v → v.cell? ⟨bb, 1, none⟩ = some (.slice (some ⟨p2, q2, none⟩) n2 d2) := fun v h => by subst hC; exact cell_below h hb
  have c3 : ∀ v, C v → v.cell? ⟨p1, q1 + k, none⟩ = some (.string x) := fun v h => by subst hC; exact cell_below h hx
  have c4 : ∀ v, C v → v.cell? ⟨p2, q2 + k, none⟩ = some (.string y) := fun v h => by subst hC; exact cell_below h hy
  have cB : ∀ v, C v → Below w.heap.size w v := fun v h => by subst hC; exact h
  have cT : ∀ u v, C u → Below u.heap.size u v → C v := fun u v h k => by subst hC; exact bl_trans h k
  have cD : ∀ v, C v → C v.drew := fun v h => by subst hC; exact h.drew
  have cI : C w := by subst hC; exact Below.refl _ _
  clear hC hj ha hb hx hy
  go_enter Tryz.func64, Tryz.ntmps64
  go_wp2_with fail
  refine region_calm C (by kernel_rfl) (by kernel_rfl) (cD _ cI) ?_
  clear cI
  refine wpQuiet_step (fun K hK => ?_)
  go_simp
  refine ⟨_, fun v hv => rfl, hK _ ?_⟩
  clear hK K
  refine wpQuiet_step (fun K hK => ?_)
  go_simp
  refine ⟨.slice (some ⟨p1, q1, none⟩) n1 d1, fun v hv => ?_, hK _ ?_⟩
  · simp [c1 v hv]
  clear hK K
  refine wpQuiet_step (fun K hK => ?_)
  go_simp
  refine ⟨_, fun v hv => rfl, hK _ ?_⟩
  clear hK K
  refine wpQuiet_step (fun K hK => ?_)
  go_simp
  refine ⟨_, fun v hv => rfl, hK _ ?_⟩
  clear hK K
  refine wpQuiet_step (fun K hK => ?_)
  go_simp
  refine ⟨.string x, fun v hv => ?_, hK _ ?_⟩
  · simp [c3 v hv]
  clear hK K
  refine wpQuiet_step (fun K hK => ?_)
  go_simp
  refine ⟨_, fun v hv => rfl, hK _ ?_⟩
  clear hK K
  refine wpQuiet_step (fun K hK => ?_)
  go_simp
  refine ⟨.slice (some ⟨p2, q2, none⟩) n2 d2, fun v hv => ?_, hK _ ?_⟩
  · simp [c2 v hv]
  clear hK K
  refine wpQuiet_step (fun K hK => ?_)
  go_simp
  refine ⟨_, fun v hv => rfl, hK _ ?_⟩
  clear hK K
  refine wpQuiet_step (fun K hK => ?_)
  go_simp
  refine ⟨_, fun v hv => rfl, hK _ ?_⟩
  clear hK K
  refine wpQuiet_step (fun K hK => ?_)
  go_simp
  refine ⟨.string y, fun v hv => ?_, hK _ ?_⟩
  · simp [c4 v hv]
  clear hK K
  refine wpQuiet_step (fun K hK => ?_)
  go_simp
  refine ⟨_, fun v hv => rfl, hK _ ?_⟩
  clear hK K
  refine wpQuiet_step (fun K hK => ?_)
  go_simp
  refine ⟨_, fun v hv => rfl, hK _ ?_⟩
  clear hK K
  refine wpQuiet_nil ?_
  intro w1 C1
  have H0 : Hid _ := And.intro c0 (And.intro cB cT)
  have H1 : Hid _ := C1
  clear c0 c1 c2 c3 c4 cB cT cD C1
  go_wp2_with fail
  refine (hM _).mono ?_
  rintro e w2 ⟨rfl, hb⟩
  have k0 := H0.out.1 _ (H0.out.2.2 _ _ H1.out hb)
  replace H1 : Hid _ := H0.out.2.2 _ _ H1.out hb
  clear hb hM
  go_wp2_with fail
  refine (hF _).mono ?_
  rintro e w3 ⟨rfl, hb⟩
  have H2 : Hid _ := bl_trans (H0.out.2.1 _ H1.out) hb
  clear hb
  go_wp2
  go_ret
  exact ⟨rfl, H2.out⟩

theorem choose_max (x y : ByteArray) (b : Bool) (w : World) : Calls Tryz.prog 39 #[.string x, .string y, .bool b] w fun e w' => e = .returned (.string (if b then y else x)) ∧ Below w.heap.size w w' := by
  cases b
  all_goals
    go_enter Tryz.func39, Tryz.ntmps39
    go_wp2
    go_ret
    exact ⟨rfl, Below.refl _ _⟩
theorem choose_above (x y : ByteArray) (b : Bool) (w : World) : Calls Tryz.prog 40 #[.string x, .string y, .bool b] w fun e w' => e = .returned (.string (if b then ⟨#[48]⟩ else ⟨#[49]⟩)) ∧ Below w.heap.size w w' := by
  cases b
  all_goals
    go_enter Tryz.func40, Tryz.ntmps40
    go_wp2
    go_ret
    exact ⟨rfl, Below.refl _ _⟩

/-- made's own blocks ahead of its list: the tensor handed in, and the answer's place -/
structure Kd (w v : World) (x1 x2 : Value) : Prop where
  a0 : v.cell? ⟨w.heap.size, 0, none⟩ = some x1
  a1 : v.cell? ⟨w.heap.size, 1, none⟩ = some x2
  bx : Bx v (w.heap.size + 1)
  bl : Below w.heap.size w v
theorem Kd.of {w v : World} {x1 x2 : Value} (h : Below ((w.alloc (.cells #[x1, x2] 25)).alloc (.cells #[.slice none 0 0, .slice none 0 0] 25)).heap.size ((w.alloc (.cells #[x1, x2] 25)).alloc (.cells #[.slice none 0 0, .slice none 0 0] 25)) v) : Kd w v x1 x2 := by
  have k := own2 h
  exact ⟨k.1 0, k.1 1, ⟨k.2.1 0, k.2.1 1, k.2.2.2.1 0, k.2.2.2.1 1⟩, k.2.2.2.2⟩
theorem Kd.below {w v u : World} {x1 x2 : Value} (h : Kd w v x1 x2) (k : Below v.heap.size v u) : Kd w u x1 x2 :=
  ⟨cell_below k h.a0, cell_below k h.a1, h.bx.below k, bl_trans h.bl k⟩
theorem Kd.set {w v : World} {x1 x2 : Value} (h : Kd w v x1 x2) {a : Addr} (ha : w.heap.size + 2 ≤ a.block) (x : Value) : Kd w (v.setCell a x) x1 x2 := by
  refine ⟨?_, ?_, h.bx.set (by omega) x, bl_set h.bl (by omega) x⟩
  · rw [World.cell?_setCell_other _ _ _ _ (by intro e; rw [e] at ha; simp at ha; omega)]; exact h.a0
  · rw [World.cell?_setCell_other _ _ _ _ (by intro e; rw [e] at ha; simp at ha; omega)]; exact h.a1

set_option maxHeartbeats 2000000 in
theorem kmade_any (ao bo : Option Addr) (zs : List Int) (m n c d f : Nat) (caps : Array Value) (xs : List ByteArray) (w : World) (hm : zs.length = m) (hl4 : m ≤ 4) (hS : Sp.Sl w ao zs) (hn : xs.length = n) (h64 : n ≤ 64)
    (hcf : ∀ (args : Array Value) (w : World), (callFunc f args).run Tryz.prog w = .ok (.enter f args) w)
    (HF : ∀ (k : Nat) (v : World), k < n → Below w.heap.size w v → Calls Tryz.prog f (#[.int .i64 (k : Int)] ++ caps) v fun e v' => e = .returned (.string (xs.getD k ByteArray.empty)) ∧ Below v.heap.size v v') :
    Calls Tryz.prog 52 #[.agg #[.slice ao m c, .slice bo n d], .func (.func f) #[] caps] w fun e w' => ∃ a1 c1 b1 d1, e = .returned (.agg #[.slice a1 m c1, .slice b1 n d1]) ∧ Tm w' w.heap.size a1 b1 zs xs ∧ Below w.heap.size w w' := by
  have hcl := fun (v : World) (h : Below w.heap.size w v) => clone_any ao zs c v (by omega) (hS.below h)
  rw [hm] at hcl
  have HN : Hid (xs.length = n) := hn
  have HF' : Hid _ := HF
  have HC' : Hid _ := hcl
  have hK0 : Kd w ((w.alloc (.cells #[.slice ao m c, .slice bo n d] 25)).alloc (.cells #[.slice none 0 0, .slice none 0 0] 25)) (.slice ao m c) (.slice bo n d) := Kd.of (Below.refl _ _)
  have HK0 : Hid _ := hK0
  clear hS HF hn hm hcl hK0
  obtain ⟨i0, hi, hz0, hz1, hz2⟩ := info_parts inf9
  go_enter Tryz.func52, Tryz.ntmps52
  go_wp2_with (first | (at_make; refine wpList_make_full _ rfl _ _ 23 rfl (w.heap.size + 1 + 1) 9 i0 (.string ByteArray.empty) 1 Tryz.underlying23 hi hz0 hz1 _ _ _ _ n rfl rfl (by omega) (by omega) (by rw [hz2]; omega) (by unfold maxLen; omega) (by simp) ?_))
  intro w2 hown1 hgrow1
  go_wp2_with fail
  have hO1 := Os.of_own hown1
  have hK1 : Kd w w2 (.slice ao m c) (.slice bo n d) := HK0.out.below ((Below.refl _ _).grown hgrow1 (Nat.le_refl _) (fun k h => by cases h))
  clear hown1 hgrow1 HK0
  go_loopw [6, 13, 14, 15, 16, 17, 18, 19, 20, 21, 22] (fun _ i _ _ _ _ _ _ _ _ _ wr => ∃ (k : Nat) (o : Nat → ByteArray), k ≤ n ∧ i = .int .i64 k ∧ Os wr (w.heap.size + 1 + 1) o n ∧ (∀ j, j < k → o j = xs.getD j ByteArray.empty) ∧ Kd w wr (.slice ao m c) (.slice bo n d)) (fun _ i _ _ _ _ _ _ _ _ _ _ => n - (intOf i).toNat)
  case atStart => exact ⟨0, _, by omega, rfl, hO1, fun j hj => by omega, hK1⟩
  case round =>
    clear hO1 hK1
    obtain ⟨k, o, hk, rfl, hO, ho, hK⟩ := hrel
    by_cases h : k < n
    · have hc := HF'.out k wr h hK.bl
      obtain ⟨t, ht⟩ : ∃ t, xs.getD k ByteArray.empty = t := ⟨_, rfl⟩
      rw [ht] at hc
      have HT : Hid _ := ht
      have HO : Hid _ := And.intro hO (And.intro ho hK)
      clear hO ho hK ht
      go_wp2_with fail
      refine hc.mono ?_
      rintro e w3 ⟨rfl, hB3⟩
      obtain ⟨hO, ho, hK⟩ := HO.out
      have hO3 := hO.below hB3
      have HK3 : Hid _ := hK.below hB3
      have hcl2 := hO3.cell k h
      have hfz := hO3.frz k
      have HO3 : Hid _ := And.intro hO3 ho
      clear hO ho hK hO3 hB3 HO
      go_wp2
      go_roundw
      case rel =>
        refine ⟨k + 1, put o k t, by omega, by go_num, HO3.out.1.store h t, fun j hj => ?_, HK3.out.set (by simp) _⟩
        by_cases ej : j = k
        · rw [ej, put_same, HT.out]
        · rw [put_other o t ej]; exact HO3.out.2 j (by omega)
      case measure => simp [intOf]; omega
    · have hc := HC'.out wr hK.bl
      have k0 := hK.a0
      have HO : Hid _ := And.intro hO (And.intro ho hK)
      clear hO ho hK
      go_wp2_with fail
      refine hc.mono ?_
      rintro e w3 ⟨a1, c1, rfl, hS3, hF3, hB3⟩
      obtain ⟨hO, ho, hK⟩ := HO.out
      have HO3 : Hid _ := And.intro (hO.below hB3) ho
      have hK3 := hK.below hB3
      have HS3 : Hid _ := And.intro hS3 (And.intro hF3 hO.lt)
      have hx0 := hK3.bx.c0
      have hx1 := hK3.bx.c1
      have hx2 := hK3.bx.f0
      have hx3 := hK3.bx.f1
      have HK3 : Hid _ := hK3
      clear hO ho hK hB3 HO hc hS3 hK3 hF3 k0
      go_wp2
      refine bodyPost_ret (v := .agg #[.slice a1 m c1, .slice (some ⟨w.heap.size + 1 + 1, 0, none⟩) n n]) (by simp [results, Tryz.results52, go_sem, (two_set HK3.out.bx.c0 HK3.out.bx.c1 _ _).1, (two_set HK3.out.bx.c0 HK3.out.bx.c1 _ _).2]) rfl ⟨a1, c1, some ⟨w.heap.size + 1 + 1, 0, none⟩, n, rfl, ?_, ?_⟩
      · have ek : k = n := by omega
        subst ek
        have hT : Tm w3 (w.heap.size + 1 + 1) a1 (some ⟨w.heap.size + 1 + 1, 0, none⟩) zs xs := ⟨HS3.out.1, HO3.out.1.row HN.out HO3.out.2, fun b off sp e => by have := HS3.out.2.1 b off sp e; have := HS3.out.2.2; omega, fun b off sp e => by cases e; exact Nat.le_refl _⟩
        exact ((hT.set (by simp) _).set (by simp) _).mono (by omega)
      · exact bl_set (bl_set HK3.out.bl (by simp) _) (by simp) _
end Go.Proofs.YtjkobbpebnkimaaGreatDoor.Tn
