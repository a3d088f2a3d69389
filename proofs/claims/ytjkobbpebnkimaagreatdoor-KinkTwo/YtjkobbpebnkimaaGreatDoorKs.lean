/-
  SCALED TENSORS; WHAT IS REFUSED OF TWO; the calls of package tensor that stage 7 takes besides. Conditions: each theorem's own.
-/
import Derived.Test.YtjkobbpebnkimaaGreatDoorLb
namespace Go.Proofs.YtjkobbpebnkimaaGreatDoor.Tn
set_option maxRecDepth 100000
open Go.RowKit Nm
set_option linter.unusedVariables false

theorem cf49 : ∀ (args : Array Value) (w : World), (callFunc 49 args).run Tryz.prog w = .ok (.enter 49 args) w := fun a w => run_enter Tryz.func49 (by kernel_rfl) rfl a w
set_option maxHeartbeats 2000000 in
theorem scale1_any (k n1 d1 p1 q1 ba bk : Nat) (x y z : ByteArray) (er : Int) (w : World) (hk1 : k < n1) (hn1 : n1 ≤ 1000)
    (ha : w.cell? ⟨ba, 1, none⟩ = some (.slice (some ⟨p1, q1, none⟩) n1 d1)) (hb : w.cell? ⟨bk, 0, none⟩ = some (.string y))
    (hx : w.cell? ⟨p1, q1 + k, none⟩ = some (.string x))
    (hF : ∀ v, Below w.heap.size w v → Calls Tryz.prog 50 #[.string x, .string y] v fun e v' => e = .returned (.tuple #[.string z, .int .i64 er]) ∧ Below v.heap.size v v') :
    Calls Tryz.prog 49 #[.int .i64 (k : Int), .pointer (some ⟨ba, 0, none⟩), .pointer (some ⟨bk, 0, none⟩)] w fun e w' => e = .returned (.tuple #[.string z, .int .i64 er]) ∧ Below w.heap.size w w' := by
  obtain ⟨C, hC⟩ : ∃ C : World → Prop, C = fun v => Below w.heap.size w v := ⟨_, rfl⟩
  have c1 : ∀ v, C v → v.cell? ⟨ba, 1, none⟩ = some (.slice (some ⟨p1, q1, none⟩) n1 d1) := fun v h => by subst hC; exact cell_below h ha
  have c2 : ∀ v, C v → v.cell? ⟨bk, 0, none⟩ = some (.string y) := fun v h => by subst hC; exact cell_below h hb
  have c3 : ∀ v, C v → v.cell? ⟨p1, q1 + k, none⟩ = some (.string x) := fun v h => by subst hC; exact cell_below h hx
  have cB : ∀ v, C v → Below w.heap.size w v := fun v h => by subst hC; exact h
  have cT : ∀ u v, C u → Below u.heap.size u v → C v := fun u v h k => by subst hC; exact bl_trans h k
  have cD : ∀ v, C v → C v.drew := fun v h => by subst hC; exact h.drew
  have cI : C w := by subst hC; exact Below.refl _ _
  clear hC ha hb hx
  go_enter Tryz.func49, Tryz.ntmps49
  go_wp2_with fail
  refine region_calm C (by kernel_rfl) (by kernel_rfl) (cD _ cI) ?_
  clear cI
  refine wpQuiet_step (fun K hK => ?_)
  go_simp
  refine ⟨_, fun v hv => rfl, hK _ ?_⟩
  clear hK K
  refine wpQuiet_step (fun K hK => ?_)
  go_simp
  refine ⟨.slice (some ⟨p1, q1, none⟩) n1 d1, fun v hv => ?_, hK _ ?_⟩
  · simp [c1 v hv]
  clear hK K
  refine wpQuiet_step (fun K hK => ?_)
  go_simp
  refine ⟨_, fun v hv => rfl, hK _ ?_⟩
  clear hK K
  refine wpQuiet_step (fun K hK => ?_)
  go_simp
  refine ⟨_, fun v hv => rfl, hK _ ?_⟩
  clear hK K
  refine wpQuiet_step (fun K hK => ?_)
  go_simp
  refine ⟨.string x, fun v hv => ?_, hK _ ?_⟩
  · simp [c3 v hv]
  clear hK K
  refine wpQuiet_step (fun K hK => ?_)
  go_simp
  refine ⟨.string y, fun v hv => ?_, hK _ ?_⟩
  · simp [c2 v hv]
  clear hK K
  refine wpQuiet_step (fun K hK => ?_)
  go_simp
  refine ⟨.tuple #[.string z, .int .i64 er], fun v hv => ?_, hK _ ?_⟩
  · exact calm_call cT hv (hF v (cB v hv))
  clear hK K
  refine wpQuiet_step (fun K hK => ?_)
  go_simp
  refine ⟨_, fun v hv => rfl, hK _ ?_⟩
  clear hK K
  refine wpQuiet_step (fun K hK => ?_)
  go_simp
  refine ⟨_, fun v hv => rfl, hK _ ?_⟩
  clear hK K
  refine wpQuiet_step (fun K hK => ?_)
  go_simp
  refine ⟨_, fun v hv => rfl, hK _ ?_⟩
  clear hK K
  refine wpQuiet_step (fun K hK => ?_)
  go_simp
  refine ⟨_, fun v hv => rfl, hK _ ?_⟩
  clear hK K
  refine wpQuiet_nil ?_
  intro w1 C1
  have H1 : Hid _ := cB _ C1
  clear C1
  go_wp2
  go_ret2
  exact ⟨rfl, H1.out⟩

set_option maxHeartbeats 2000000 in
theorem scale_a_no (n1 c1 d1 m1 : Nat) (a1 b1 : Option Addr) (y : ByteArray) (w : World)
    (hR1 : ∀ v, Below w.heap.size w v → Calls Tryz.prog 30 #[.agg #[.slice a1 m1 c1, .slice b1 n1 d1]] v fun e w' => e = .returned (.bool false) ∧ Below v.heap.size v w') :
    Calls Tryz.prog 27 #[.agg #[.slice a1 m1 c1, .slice b1 n1 d1], .string y] w fun e w' => e = .returned (noTensor 1) ∧ Below w.heap.size w w' := by
  have hZ : Sb w (((w.alloc (.cells #[.slice a1 m1 c1, .slice b1 n1 d1] 25)).alloc (.cells #[.string y] 9)).alloc (.cells #[.slice none 0 0, .slice none 0 0] 25)) (.slice a1 m1 c1) (.slice b1 n1 d1) (.string y) := Sb.of (Below.refl _ _)
  have k0 := hZ.a0
  have k1 := hZ.a1
  have k2 := hZ.b0
  have HZ : Hid _ := hZ
  clear hZ
  go_enter Tryz.func27, Tryz.ntmps27
  go_wp2_with fail
  refine (hR1 _ HZ.out.bl).mono ?_
  rintro e w2 ⟨rfl, hb⟩
  have hZ := HZ.out.below hb
  clear HZ k0 k1 k2
  have k0 := hZ.a0
  have k1 := hZ.a1
  have k2 := hZ.b0
  have hx0 := hZ.bx.c0
  have hx1 := hZ.bx.c1
  have hx2 := hZ.bx.f0
  have hx3 := hZ.bx.f1
  have HZ : Hid _ := hZ
  clear hb hZ hR1
  go_wp2
  refine bodyPost_ret (v := noTensor 1) (by simp [results, Tryz.results27, go_sem, (two_set HZ.out.bx.c0 HZ.out.bx.c1 _ _).1, (two_set HZ.out.bx.c0 HZ.out.bx.c1 _ _).2]) rfl ⟨rfl, ?_⟩
  exact bl_set (bl_set HZ.out.bl (by simp <;> omega) _) (by simp <;> omega) _

set_option maxHeartbeats 2000000 in
theorem scale_k_no (n1 c1 d1 m1 : Nat) (a1 b1 : Option Addr) (y : ByteArray) (w : World)
    (hR1 : ∀ v, Below w.heap.size w v → Calls Tryz.prog 30 #[.agg #[.slice a1 m1 c1, .slice b1 n1 d1]] v fun e w' => e = .returned (.bool true) ∧ Below v.heap.size v w')
    (hR2 : ∀ v, Below w.heap.size w v → Calls Tryz.prog 47 #[.string y] v fun e w' => e = .returned (.bool false) ∧ Below v.heap.size v w') :
    Calls Tryz.prog 27 #[.agg #[.slice a1 m1 c1, .slice b1 n1 d1], .string y] w fun e w' => e = .returned (noTensor 1) ∧ Below w.heap.size w w' := by
  have hZ : Sb w (((w.alloc (.cells #[.slice a1 m1 c1, .slice b1 n1 d1] 25)).alloc (.cells #[.string y] 9)).alloc (.cells #[.slice none 0 0, .slice none 0 0] 25)) (.slice a1 m1 c1) (.slice b1 n1 d1) (.string y) := Sb.of (Below.refl _ _)
  have k0 := hZ.a0
  have k1 := hZ.a1
  have k2 := hZ.b0
  have HZ : Hid _ := hZ
  clear hZ
  go_enter Tryz.func27, Tryz.ntmps27
  go_wp2_with fail
  refine (hR1 _ HZ.out.bl).mono ?_
  rintro e w2 ⟨rfl, hb⟩
  have hZ := HZ.out.below hb
  clear HZ k0 k1 k2
  have k0 := hZ.a0
  have k1 := hZ.a1
  have k2 := hZ.b0
  have HZ : Hid _ := hZ
  clear hb hZ hR1
  go_wp2_with fail
  refine (hR2 _ HZ.out.bl).mono ?_
  rintro e w3 ⟨rfl, hb⟩
  have hZ := HZ.out.below hb
  clear HZ k0 k1 k2
  have k0 := hZ.a0
  have k1 := hZ.a1
  have k2 := hZ.b0
  have hx0 := hZ.bx.c0
  have hx1 := hZ.bx.c1
  have hx2 := hZ.bx.f0
  have hx3 := hZ.bx.f1
  have HZ : Hid _ := hZ
  clear hb hZ hR2
  go_wp2
  refine bodyPost_ret (v := noTensor 1) (by simp [results, Tryz.results27, go_sem, (two_set HZ.out.bx.c0 HZ.out.bx.c1 _ _).1, (two_set HZ.out.bx.c0 HZ.out.bx.c1 _ _).2]) rfl ⟨rfl, ?_⟩
  exact bl_set (bl_set HZ.out.bl (by simp <;> omega) _) (by simp <;> omega) _

set_option maxHeartbeats 2000000 in
theorem scale_yes (n1 c1 d1 m1 : Nat) (a1 b1 : Option Addr) (y : ByteArray) (zs : List Int) (xs : List ByteArray) (w : World)
    (hR1 : ∀ v, Below w.heap.size w v → Calls Tryz.prog 30 #[.agg #[.slice a1 m1 c1, .slice b1 n1 d1]] v fun e w' => e = .returned (.bool true) ∧ Below v.heap.size v w')
    (hR2 : ∀ v, Below w.heap.size w v → Calls Tryz.prog 47 #[.string y] v fun e w' => e = .returned (.bool true) ∧ Below v.heap.size v w')
    (hM : ∀ v, Below w.heap.size w v → v.cell? ⟨w.heap.size, 1, none⟩ = some (.slice b1 n1 d1) → v.cell? ⟨w.heap.size + 1, 0, none⟩ = some (.string y) →
      Calls Tryz.prog 44 #[.slice a1 m1 c1, .func (.func 49) #[] #[.pointer (some ⟨w.heap.size, 0, none⟩), .pointer (some ⟨w.heap.size + 1, 0, none⟩)]] v fun e v' => ∃ a3 c3 b3 d3, e = .returned (.tuple #[.agg #[.slice a3 m1 c3, .slice b3 n1 d3], .int .i64 0]) ∧ Tm v' v.heap.size a3 b3 zs xs ∧ Below v.heap.size v v') :
    Calls Tryz.prog 27 #[.agg #[.slice a1 m1 c1, .slice b1 n1 d1], .string y] w fun e w' => ∃ a3 c3 b3 d3, e = .returned (.tuple #[.agg #[.slice a3 m1 c3, .slice b3 n1 d3], .int .i64 0]) ∧ Tm w' w.heap.size a3 b3 zs xs ∧ Below w.heap.size w w' := by
  have hZ : Sb w (((w.alloc (.cells #[.slice a1 m1 c1, .slice b1 n1 d1] 25)).alloc (.cells #[.string y] 9)).alloc (.cells #[.slice none 0 0, .slice none 0 0] 25)) (.slice a1 m1 c1) (.slice b1 n1 d1) (.string y) := Sb.of (Below.refl _ _)
  have k0 := hZ.a0
  have k1 := hZ.a1
  have k2 := hZ.b0
  have HZ : Hid _ := hZ
  clear hZ
  go_enter Tryz.func27, Tryz.ntmps27
  go_wp2_with fail
  refine (hR1 _ HZ.out.bl).mono ?_
  rintro e w2 ⟨rfl, hb⟩
  have hZ := HZ.out.below hb
  clear HZ k0 k1 k2
  have k0 := hZ.a0
  have k1 := hZ.a1
  have k2 := hZ.b0
  have HZ : Hid _ := hZ
  clear hb hZ hR1
  go_wp2_with fail
  refine (hR2 _ HZ.out.bl).mono ?_
  rintro e w3 ⟨rfl, hb⟩
  have hZ := HZ.out.below hb
  clear HZ k0 k1 k2
  have k0 := hZ.a0
  have k1 := hZ.a1
  have k2 := hZ.b0
  have HZ : Hid _ := hZ
  clear hb hZ hR2
  have hc := hM _ HZ.out.bl k1 k2
  clear hM
  go_wp2_with fail
  refine hc.mono ?_
  rintro e w5 ⟨a3, c3, b3, d3, rfl, hT, hb⟩
  have hZ := HZ.out.below hb
  have HT : Hid (Tm w5 (w.heap.size + 1 + 1 + 1) a3 b3 zs xs) := hT.mono (by have := HZ.out.bx.lt; omega)
  clear HZ hc k0 k1 k2 hb hT
  have k0 := hZ.a0
  have k1 := hZ.a1
  have k2 := hZ.b0
  have hx0 := hZ.bx.c0
  have hx1 := hZ.bx.c1
  have hx2 := hZ.bx.f0
  have hx3 := hZ.bx.f1
  have HZ : Hid _ := hZ
  clear hZ
  go_wp2
  refine bodyPost_ret (v := .tuple #[.agg #[.slice a3 m1 c3, .slice b3 n1 d3], .int .i64 0]) (by simp [results, Tryz.results27, go_sem, (two_set HZ.out.bx.c0 HZ.out.bx.c1 _ _).1, (two_set HZ.out.bx.c0 HZ.out.bx.c1 _ _).2]) rfl ⟨a3, c3, b3, d3, rfl, ?_, ?_⟩
  · exact ((HT.out.set (by simp) _).set (by simp) _).mono (by omega)
  · exact bl_set (bl_set HZ.out.bl (by simp <;> omega) _) (by simp <;> omega) _

theorem Scale_no (a1 b1 : Option Addr) (c1 d1 B1 : Nat) (zs : List Int) (xs : List ByteArray) (y : ByteArray) (hy : y.size ≤ 200000) (aF aZ : Addr) (w : World) (hE : Er w aF aZ)
    (h1 : Ta w B1 a1 b1 zs xs) (hbad : (tn zs xs && ra y) = false) :
    Calls Tryz.prog 27 #[.agg #[.slice a1 zs.length c1, .slice b1 xs.length d1], .string y] w fun e w' => e = .returned (noTensor 1) ∧ Below w.heap.size w w' := by
  have k1 := fun (v : World) (hv : Below w.heap.size w v) => (h1.below hv).right c1 d1 (hE.below hv)
  have k2 := fun (v : World) (hv : Below w.heap.size w v) => Right_is y (ra y) aF aZ v (hE.below hv) hy rfl
  cases e1 : tn zs xs with
  | false => rw [e1] at k1; exact scale_a_no _ c1 d1 _ a1 b1 y w k1
  | true =>
    rw [e1] at k1
    rw [e1, Bool.true_and] at hbad
    rw [hbad] at k2
    exact scale_k_no _ c1 d1 _ a1 b1 y w k1 k2

theorem Scale_R (a1 b1 : Option Addr) (c1 d1 B1 n : Nat) (zs : List Int) (qs : List Rat) (y : Rat) (aF aZ : Addr) (w : World) (hE : Er w aF aZ)
    (h1 : Tm w B1 a1 b1 zs (qs.map R)) (t1 : Tr zs qs n) (hn : n ≤ 20000) (hy : (R y).size ≤ 50000) :
    Calls Tryz.prog 27 #[.agg #[.slice a1 zs.length c1, .slice b1 (qs.map R).length d1], .string (R y)] w
      fun e w' => Ans w.heap.size zs (qs.map (· * y)) e w' ∧ Below w.heap.size w w' := by
  have h64 := t1.le
  have el : ((qs.map (· * y)).map R).length = (qs.map R).length := by simp
  have key := scale_yes (qs.map R).length c1 d1 zs.length a1 b1 (R y) zs ((qs.map (· * y)).map R) w
    (fun v hv => right_R a1 b1 c1 d1 B1 n zs qs aF aZ v (hE.below hv) (h1.below hv) t1 hn)
    (fun v hv => Right_R y v (by omega))
    (fun v hv ha hb => by
      have k := made_any a1 zs c1 49 #[.pointer (some ⟨w.heap.size, 0, none⟩), .pointer (some ⟨w.heap.size + 1, 0, none⟩)] ((qs.map (· * y)).map R) v t1.r (h1.s.below hv)
        (by rw [el, mapR_len, t1.l]) cf49 (fun i u hi hu => by
          have hi1 : i < qs.length := by rw [el, mapR_len] at hi; exact hi
          obtain ⟨p1, q1, e1, x1⟩ := row_str ((h1.r.below hv).below hu) (i := i) (by rw [mapR_len]; exact hi1)
          subst e1
          rw [mapR_at qs hi1] at x1
          rw [mapR_at _ (by simpa using hi1), map_at (· * y) hi1]
          have s1 := t1.at hi1 (m := 50000) (by omega)
          have := scale1_any i (qs.map R).length d1 p1 q1 w.heap.size (w.heap.size + 1) (R (qs.getD i 0)) (R y) (R (qs.getD i 0 * y)) 0 u
            (by rw [mapR_len]; exact hi1) (by rw [mapR_len]; omega) (cell_below hu ha) (cell_below hu hb) x1
            (fun v' hv' => Mul_R _ _ v' s1 hy)
          simpa using this)
      rw [el] at k
      exact k)
  refine key.mono ?_
  rintro e w' ⟨a3, c3, b3, d3, rfl, hT, hB⟩
  exact ⟨⟨a3, c3, b3, d3, by rw [el], hT⟩, hB⟩

section
variable {a1 b1 a2 b2 : Option Addr} {B1 B2 m n k1 k2 : Nat} {zs : List Int} {qs rs : List Rat} {aF aZ : Addr} {w : World}
theorem zscale (c1 d1 : Nat) (hE : Er w aF aZ) (h1 : Tt w B1 a1 b1 zs m n qs k1) (y : Rat) (hy : Bd y k2) (hk : k1 + k2 ≤ 20000) :
    Calls Tryz.prog 27 #[.agg #[.slice a1 m c1, .slice b1 n d1], .string (R y)] w (Got w zs m n (qs.map (· * y)) (k1 + k2)) := by
  have k := Scale_R a1 b1 c1 d1 B1 k1 zs qs y aF aZ w hE h1.tm h1.tr (by omega) (Bd.size hy (by omega))
  rw [mapR_len, h1.hm, h1.hn] at k
  exact Got.of h1.hm (by rw [List.length_map, h1.hn]) (h1.tr.map fun x hx => hx.mul hy) k
end
/-- which error -/
def zerr (b c : Bool) : Int := if (b && c) = true then 4 else 1
theorem zerr_ne (b c : Bool) : (zerr b c != 0) = true := by unfold zerr; split <;> decide
section
variable {a1 b1 a2 b2 : Option Addr} {B1 B2 m1 n1 m2 n2 : Nat} {zs us : List Int} {xs ys : List ByteArray} {aF aZ : Addr} {w : World}
theorem zfail (op : ByteArray) (hk : known op = true) (hos : op.size ≤ maxLen) (c1 d1 c2 d2 : Nat) (hE : Er w aF aZ) (h1 : Ta w B1 a1 b1 zs xs) (h2 : Ta w B2 a2 b2 us ys) (e1 : zs.length = m1) (e2 : xs.length = n1) (e3 : us.length = m2) (e4 : ys.length = n2)
    (hbad : ¬ ((tn zs xs && tn us ys) = true ∧ zs = us)) :
    Calls Tryz.prog 25 #[.string op, .agg #[.slice a1 m1 c1, .slice b1 n1 d1], .agg #[.slice a2 m2 c2, .slice b2 n2 d2]] w fun e w' => e = .returned (noTensor (zerr (tn zs xs) (tn us ys))) ∧ Below w.heap.size w w' := by
  subst e1 e2 e3 e4
  have hf : fits op zs us xs ys = (tn zs xs && tn us ys) := by unfold fits; rw [hk, Bool.true_and]
  have k := Zip_no a1 b1 a2 b2 c1 d1 c2 d2 B1 B2 zs us xs ys op hos aF aZ w hE h1 h2 (by rw [hf]; exact hbad)
  rw [hf] at k
  exact k
theorem sfail (c1 d1 : Nat) (y : ByteArray) (hE : Er w aF aZ) (h1 : Ta w B1 a1 b1 zs xs) (e1 : zs.length = m1) (e2 : xs.length = n1) (hy : y.size ≤ 200000) (hbad : (tn zs xs && ra y) = false) :
    Calls Tryz.prog 27 #[.agg #[.slice a1 m1 c1, .slice b1 n1 d1], .string y] w fun e w' => e = .returned (noTensor 1) ∧ Below w.heap.size w w' := by
  subst e1 e2
  exact Scale_no a1 b1 c1 d1 B1 zs xs y hy aF aZ w hE h1 hbad
theorem Tt.ta {a b : Option Addr} {B m n : Nat} {qs : List Rat} {k : Nat} (h : Tt w B a b zs m n qs k) (hk : k ≤ 20000) : Ta w B a b zs (qs.map R) := Ta.of h.tm h.tr hk
theorem Tt.xl {a b : Option Addr} {B m n : Nat} {qs : List Rat} {k : Nat} (h : Tt w B a b zs m n qs k) : (qs.map R).length = n := by rw [mapR_len]; exact h.hn
/-- two small tensors of one shape -/
theorem Tt.pair (h1 : Tm w 0 a1 b1 zs xs) (h2 : Tm w 0 a2 b2 zs ys) (s1 : Tn.small zs xs = true) (s2 : Tn.small zs ys = true) (t1 : tn zs xs = true) (t2 : tn zs ys = true) :
    ∃ qs rs : List Rat, xs = qs.map R ∧ ys = rs.map R ∧ ys.length = xs.length ∧ Tt w 0 a1 b1 zs zs.length xs.length qs 40 ∧ Tt w 0 a2 b2 zs zs.length xs.length rs 40 := by
  obtain ⟨qs, e1, k1⟩ := Tt.small h1 s1 t1
  obtain ⟨rs, e2, k2⟩ := Tt.small h2 s2 t2
  have e : ys.length = xs.length := by rw [← k1.hn, ← k2.hn, k1.tr.l, k2.tr.l]
  exact ⟨qs, rs, e1, e2, e, k1, ⟨k2.tm, k2.tr, k2.hm, k2.hn.trans e⟩⟩
end
theorem kA : known sAdd = true := by decide
theorem kS : known sSub = true := by decide
theorem kM : known sMul = true := by decide
theorem oA : sAdd.size ≤ maxLen := by decide
theorem oS : sSub.size ≤ maxLen := by decide
theorem oM : sMul.size ≤ maxLen := by decide
end Go.Proofs.YtjkobbpebnkimaaGreatDoor.Tn
