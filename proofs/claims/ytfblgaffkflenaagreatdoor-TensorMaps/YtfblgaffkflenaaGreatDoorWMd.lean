/-
  THE WALK OF TensorMaps: a shape that is right, numbers that are not. Conditions: what the arguments hold.
-/
import Derived.Test.YtfblgaffkflenaaGreatDoorWMaps
namespace Go.Proofs.YtfblgaffkflenaaGreatDoor.Tn
set_option maxRecDepth 100000
open Go.RowKit Nm
set_option linter.unusedVariables false
theorem cf27 : ∀ (args : Array Value) (w : World), (callFunc 27 args).run Tryz.prog w = .ok (.enter 27 args) w := fun a w => run_enter Tryz.func27 (by kernel_rfl) rfl a w
theorem zof {a1 ao : Option Addr} {w : World} {zs : List Int} {qs : List Rat} {m n bd : Nat} (c cap : Nat) (hS : Sp.Sl w a1 zs) (ht : Tr zs qs bd) (hR : Row w ao (frs qs)) (hm : zs.length = m) (hn : qs.length = n) (hb : bd ≤ 20000) :
    Calls Tryz.prog 27 #[.slice a1 m c, .slice ao n cap] w fun e w' => ∃ x, e = .returned x ∧ Nt zs m n qs bd w' x ∧ Below w.heap.size w w' := by
  have hO := of_any a1 ao zs qs c cap w hS hR (by have := ht.le; omega) (fun q hq => (ht.b q hq).mono hb)
  rw [hn, hm] at hO
  refine hO.mono ?_
  rintro e w5 ⟨c5, b5, d5, rfl, hr5, hf5, hb5⟩
  exact ⟨_, rfl, ⟨a1, c5, b5, d5, rfl, ⟨hS.below hb5, hr5, fun _ _ _ _ => Nat.zero_le _, fun _ _ _ _ => Nat.zero_le _⟩, ht, hm, hn⟩, hb5⟩
structure Gd (wr : World) (TA PT SH LL : Value) (R : World → Value → Prop) (L : Array Bool) (w : World) (s90 s91 s92 s93 s94 s95 s96 s97 s98 s99 s100 : Value) : Prop where
  sz : L.size = 11
  bl : Below wr.heap.size wr w
  kp : ∀ v u x, Below v.heap.size v u → R v x → R u x
  h0 : on L 0 → s90 = TA
  h1 : on L 1 → s91 = PT
  h2 : on L 2 → s92 = SH
  h3 : on L 3 → s93 = LL
  h4 : on L 4 → R w s94
  h5 : on L 5 → s95 = .bool true
  h6 : on L 6 → s96 = .bool false
  h7 : on L 7 → s97 = .bool false
  h8 : on L 8 → s98 = .int .i64 0
  h9 : on L 9 → s99 = .bool false
  h10 : on L 10 → s100 = .bool false
section
variable {wr : World} {TA PT SH LL : Value} {R : World → Value → Prop} {L : Array Bool} {w w' : World} {s90 s91 s92 s93 s94 s95 s96 s97 s98 s99 s100 : Value}
theorem Gd.t0 (h : Gd wr TA PT SH LL R L w s90 s91 s92 s93 s94 s95 s96 s97 s98 s99 s100) : Gd wr TA PT SH LL R (L.setIfInBounds 0 true) w (TA) s91 s92 s93 s94 s95 s96 s97 s98 s99 s100 :=
  ⟨by simp [h.sz], h.bl, h.kp, fun _ => rfl, fun g => h.h1 (on_set g (by decide)), fun g => h.h2 (on_set g (by decide)), fun g => h.h3 (on_set g (by decide)), fun g => h.h4 (on_set g (by decide)), fun g => h.h5 (on_set g (by decide)), fun g => h.h6 (on_set g (by decide)), fun g => h.h7 (on_set g (by decide)), fun g => h.h8 (on_set g (by decide)), fun g => h.h9 (on_set g (by decide)), fun g => h.h10 (on_set g (by decide))⟩
theorem Gd.t1 (h : Gd wr TA PT SH LL R L w s90 s91 s92 s93 s94 s95 s96 s97 s98 s99 s100) : Gd wr TA PT SH LL R (L.setIfInBounds 1 true) w s90 (PT) s92 s93 s94 s95 s96 s97 s98 s99 s100 :=
  ⟨by simp [h.sz], h.bl, h.kp, fun g => h.h0 (on_set g (by decide)), fun _ => rfl, fun g => h.h2 (on_set g (by decide)), fun g => h.h3 (on_set g (by decide)), fun g => h.h4 (on_set g (by decide)), fun g => h.h5 (on_set g (by decide)), fun g => h.h6 (on_set g (by decide)), fun g => h.h7 (on_set g (by decide)), fun g => h.h8 (on_set g (by decide)), fun g => h.h9 (on_set g (by decide)), fun g => h.h10 (on_set g (by decide))⟩
theorem Gd.t2 (h : Gd wr TA PT SH LL R L w s90 s91 s92 s93 s94 s95 s96 s97 s98 s99 s100) : Gd wr TA PT SH LL R (L.setIfInBounds 2 true) w s90 s91 (SH) s93 s94 s95 s96 s97 s98 s99 s100 :=
  ⟨by simp [h.sz], h.bl, h.kp, fun g => h.h0 (on_set g (by decide)), fun g => h.h1 (on_set g (by decide)), fun _ => rfl, fun g => h.h3 (on_set g (by decide)), fun g => h.h4 (on_set g (by decide)), fun g => h.h5 (on_set g (by decide)), fun g => h.h6 (on_set g (by decide)), fun g => h.h7 (on_set g (by decide)), fun g => h.h8 (on_set g (by decide)), fun g => h.h9 (on_set g (by decide)), fun g => h.h10 (on_set g (by decide))⟩
theorem Gd.t3 (h : Gd wr TA PT SH LL R L w s90 s91 s92 s93 s94 s95 s96 s97 s98 s99 s100) : Gd wr TA PT SH LL R (L.setIfInBounds 3 true) w s90 s91 s92 (LL) s94 s95 s96 s97 s98 s99 s100 :=
  ⟨by simp [h.sz], h.bl, h.kp, fun g => h.h0 (on_set g (by decide)), fun g => h.h1 (on_set g (by decide)), fun g => h.h2 (on_set g (by decide)), fun _ => rfl, fun g => h.h4 (on_set g (by decide)), fun g => h.h5 (on_set g (by decide)), fun g => h.h6 (on_set g (by decide)), fun g => h.h7 (on_set g (by decide)), fun g => h.h8 (on_set g (by decide)), fun g => h.h9 (on_set g (by decide)), fun g => h.h10 (on_set g (by decide))⟩
theorem Gd.t4 (h : Gd wr TA PT SH LL R L w s90 s91 s92 s93 s94 s95 s96 s97 s98 s99 s100) {x : Value} (hb : Below w.heap.size w w') (hx : R w' x) : Gd wr TA PT SH LL R (L.setIfInBounds 4 true) w' s90 s91 s92 s93 (x) s95 s96 s97 s98 s99 s100 :=
  ⟨by simp [h.sz], bl_trans h.bl hb, h.kp, fun g => h.h0 (on_set g (by decide)), fun g => h.h1 (on_set g (by decide)), fun g => h.h2 (on_set g (by decide)), fun g => h.h3 (on_set g (by decide)), fun _ => hx, fun g => h.h5 (on_set g (by decide)), fun g => h.h6 (on_set g (by decide)), fun g => h.h7 (on_set g (by decide)), fun g => h.h8 (on_set g (by decide)), fun g => h.h9 (on_set g (by decide)), fun g => h.h10 (on_set g (by decide))⟩
theorem Gd.t5 (h : Gd wr TA PT SH LL R L w s90 s91 s92 s93 s94 s95 s96 s97 s98 s99 s100) (hb : Below w.heap.size w w') : Gd wr TA PT SH LL R (L.setIfInBounds 5 true) w' s90 s91 s92 s93 s94 (.bool true) s96 s97 s98 s99 s100 :=
  ⟨by simp [h.sz], bl_trans h.bl hb, h.kp, fun g => h.h0 (on_set g (by decide)), fun g => h.h1 (on_set g (by decide)), fun g => h.h2 (on_set g (by decide)), fun g => h.h3 (on_set g (by decide)), fun g => h.kp _ _ _ hb (h.h4 (on_set g (by decide))), fun _ => rfl, fun g => h.h6 (on_set g (by decide)), fun g => h.h7 (on_set g (by decide)), fun g => h.h8 (on_set g (by decide)), fun g => h.h9 (on_set g (by decide)), fun g => h.h10 (on_set g (by decide))⟩
theorem Gd.t6 (h : Gd wr TA PT SH LL R L w s90 s91 s92 s93 s94 s95 s96 s97 s98 s99 s100) : Gd wr TA PT SH LL R (L.setIfInBounds 6 true) w s90 s91 s92 s93 s94 s95 (.bool false) s97 s98 s99 s100 :=
  ⟨by simp [h.sz], h.bl, h.kp, fun g => h.h0 (on_set g (by decide)), fun g => h.h1 (on_set g (by decide)), fun g => h.h2 (on_set g (by decide)), fun g => h.h3 (on_set g (by decide)), fun g => h.h4 (on_set g (by decide)), fun g => h.h5 (on_set g (by decide)), fun _ => rfl, fun g => h.h7 (on_set g (by decide)), fun g => h.h8 (on_set g (by decide)), fun g => h.h9 (on_set g (by decide)), fun g => h.h10 (on_set g (by decide))⟩
theorem Gd.t7 (h : Gd wr TA PT SH LL R L w s90 s91 s92 s93 s94 s95 s96 s97 s98 s99 s100) : Gd wr TA PT SH LL R (L.setIfInBounds 7 true) w s90 s91 s92 s93 s94 s95 s96 (.bool false) s98 s99 s100 :=
  ⟨by simp [h.sz], h.bl, h.kp, fun g => h.h0 (on_set g (by decide)), fun g => h.h1 (on_set g (by decide)), fun g => h.h2 (on_set g (by decide)), fun g => h.h3 (on_set g (by decide)), fun g => h.h4 (on_set g (by decide)), fun g => h.h5 (on_set g (by decide)), fun g => h.h6 (on_set g (by decide)), fun _ => rfl, fun g => h.h8 (on_set g (by decide)), fun g => h.h9 (on_set g (by decide)), fun g => h.h10 (on_set g (by decide))⟩
theorem Gd.t8 (h : Gd wr TA PT SH LL R L w s90 s91 s92 s93 s94 s95 s96 s97 s98 s99 s100) : Gd wr TA PT SH LL R (L.setIfInBounds 8 true) w s90 s91 s92 s93 s94 s95 s96 s97 (.int .i64 0) s99 s100 :=
  ⟨by simp [h.sz], h.bl, h.kp, fun g => h.h0 (on_set g (by decide)), fun g => h.h1 (on_set g (by decide)), fun g => h.h2 (on_set g (by decide)), fun g => h.h3 (on_set g (by decide)), fun g => h.h4 (on_set g (by decide)), fun g => h.h5 (on_set g (by decide)), fun g => h.h6 (on_set g (by decide)), fun g => h.h7 (on_set g (by decide)), fun _ => rfl, fun g => h.h9 (on_set g (by decide)), fun g => h.h10 (on_set g (by decide))⟩
theorem Gd.t9 (h : Gd wr TA PT SH LL R L w s90 s91 s92 s93 s94 s95 s96 s97 s98 s99 s100) : Gd wr TA PT SH LL R (L.setIfInBounds 9 true) w s90 s91 s92 s93 s94 s95 s96 s97 s98 (.bool false) s100 :=
  ⟨by simp [h.sz], h.bl, h.kp, fun g => h.h0 (on_set g (by decide)), fun g => h.h1 (on_set g (by decide)), fun g => h.h2 (on_set g (by decide)), fun g => h.h3 (on_set g (by decide)), fun g => h.h4 (on_set g (by decide)), fun g => h.h5 (on_set g (by decide)), fun g => h.h6 (on_set g (by decide)), fun g => h.h7 (on_set g (by decide)), fun g => h.h8 (on_set g (by decide)), fun _ => rfl, fun g => h.h10 (on_set g (by decide))⟩
theorem Gd.t10 (h : Gd wr TA PT SH LL R L w s90 s91 s92 s93 s94 s95 s96 s97 s98 s99 s100) : Gd wr TA PT SH LL R (L.setIfInBounds 10 true) w s90 s91 s92 s93 s94 s95 s96 s97 s98 s99 (.bool false) :=
  ⟨by simp [h.sz], h.bl, h.kp, fun g => h.h0 (on_set g (by decide)), fun g => h.h1 (on_set g (by decide)), fun g => h.h2 (on_set g (by decide)), fun g => h.h3 (on_set g (by decide)), fun g => h.h4 (on_set g (by decide)), fun g => h.h5 (on_set g (by decide)), fun g => h.h6 (on_set g (by decide)), fun g => h.h7 (on_set g (by decide)), fun g => h.h8 (on_set g (by decide)), fun g => h.h9 (on_set g (by decide)), fun _ => rfl⟩
end

set_option maxHeartbeats 4000000 in
theorem maps_d (a1 b1 : Option Addr) (c1 d1 m1 n1 N : Nat) (zs : List Int) (xs : List ByteArray) (y : Rat) (z : Int) (aF aZ : Addr) (w : World) (hE : Er w aF aZ)
    (hS1 : ∀ v, Below w.heap.size w v → Calls Tryz.prog 12 #[.agg #[.slice a1 m1 c1, .slice b1 n1 d1]] v fun e w' => e = .returned (.bool true) ∧ Below v.heap.size v w')
    (hC : ∀ v, Below w.heap.size w v → Calls Tryz.prog 20 #[.agg #[.slice a1 m1 c1, .slice b1 n1 d1], .string (R y)] v fun e w' => e = .returned (noTensor 1) ∧ Below v.heap.size v w')
    (hP : ∀ v, Below w.heap.size w v → Calls Tryz.prog 21 #[.agg #[.slice a1 m1 c1, .slice b1 n1 d1], .int .i64 z] v fun e w' => e = .returned (noTensor 1) ∧ Below v.heap.size v w')
    (hU : ∀ v, Below w.heap.size w v → Calls Tryz.prog 22 #[.agg #[.slice a1 m1 c1, .slice b1 n1 d1]] v fun e w' => e = .returned (.tuple #[.string ⟨#[]⟩, .int .i64 1]) ∧ Below v.heap.size v w')
    (hQ1 : ∀ v, Below w.heap.size w v → Calls Tryz.prog 16 #[.agg #[.slice a1 m1 c1, .slice b1 n1 d1]] v fun e w' => e = .returned (.bool false) ∧ Below v.heap.size v w')
    (hH : ∀ v, Below w.heap.size w v → Calls Tryz.prog 25 #[.slice a1 m1 c1] v fun e w' => e = .returned (.bool true) ∧ Below v.heap.size v w') (hys : ¬ 40 < (R y).size) (hyb : Bd y 40) (hl : Tm w 0 a1 b1 zs xs) (hr : Sp.Rgt zs) (hm : zs.length = m1) (hn : Sp.szI zs = N) (hN : N ≤ 64) :
    Calls Tryz.prog 4 #[.agg #[.slice a1 m1 c1, .slice b1 n1 d1], .string (R y), .int .i64 z] w fun e w' => e = .returned (.bool true) ∧ Below w.heap.size w w' := by
  have HE : Hid _ := hE
  clear hE
  have HB : Hid (Below w.heap.size w w) := Below.refl _ _
  obtain ⟨i0, hi, hz0, hz1, hz2⟩ := info_parts inf41
  have HR : Hid _ := hr
  clear hr
  have HTs : Hid _ := hl
  clear hl
  have hu := bl_alloc (Below.refl w.heap.size w) (.cells #[.slice a1 m1 c1, .slice b1 n1 d1] 25)
  replace HB : Hid _ := bl_trans HB.out hu
  replace HTs : Hid _ := HTs.out.below hu
  clear hu
  have K10 : (w.alloc (.cells #[.slice a1 m1 c1, .slice b1 n1 d1] 25)).cell? ⟨w.heap.size, 0, none⟩ = some (.slice a1 m1 c1) := by first | rw [World.cell?_alloc_at _ _ _ _ (by simp)]; rfl | simp
  have K11 : (w.alloc (.cells #[.slice a1 m1 c1, .slice b1 n1 d1] 25)).cell? ⟨w.heap.size, 1, none⟩ = some (.slice b1 n1 d1) := by first | rw [World.cell?_alloc_at _ _ _ _ (by simp)]; rfl | simp
  go_enter Tryz.func4, Tryz.ntmps4
  go_wp2_with fail
  refine (hS1 _ HB.out).mono ?_
  rintro e w1 ⟨rfl, hb⟩
  have hu := hb
  replace HB : Hid _ := bl_trans HB.out hu
  replace HTs : Hid _ := HTs.out.below hu
  replace K10 := cell_below hu K10
  replace K11 := cell_below hu K11
  clear hu
  clear hb
  go_wp2_with fail
  refine (hC _ HB.out).mono ?_
  rintro e w2 ⟨rfl, hb⟩
  have hu := bl_alloc hb (.cells #[.slice none 0 0, .slice none 0 0] 25)
  replace HB : Hid _ := bl_trans HB.out hu
  replace HTs : Hid _ := HTs.out.below hu
  replace K10 := cell_below hu K10
  replace K11 := cell_below hu K11
  clear hu
  have Ks0 : (w2.alloc (.cells #[.slice none 0 0, .slice none 0 0] 25)).cell? ⟨w2.heap.size, 0, none⟩ = some (.slice none 0 0) := by simp
  have Ks1 : (w2.alloc (.cells #[.slice none 0 0, .slice none 0 0] 25)).cell? ⟨w2.heap.size, 1, none⟩ = some (.slice none 0 0) := by simp
  clear hb
  go_wp2_with fail
  refine (hP _ HB.out).mono ?_
  rintro e w3 ⟨rfl, hb⟩
  have hu := bl_alloc hb (.cells #[.slice none 0 0, .slice none 0 0] 25)
  replace HB : Hid _ := bl_trans HB.out hu
  replace HTs : Hid _ := HTs.out.below hu
  replace K10 := cell_below hu K10
  replace K11 := cell_below hu K11
  replace Ks0 := cell_below hu Ks0
  replace Ks1 := cell_below hu Ks1
  clear hu
  have Kp0 : (w3.alloc (.cells #[.slice none 0 0, .slice none 0 0] 25)).cell? ⟨w3.heap.size, 0, none⟩ = some (.slice none 0 0) := by simp
  have Kp1 : (w3.alloc (.cells #[.slice none 0 0, .slice none 0 0] 25)).cell? ⟨w3.heap.size, 1, none⟩ = some (.slice none 0 0) := by simp
  clear hb
  go_wp2_with fail
  refine (hU _ HB.out).mono ?_
  rintro e w4 ⟨rfl, hb⟩
  have hu := hb
  replace HB : Hid _ := bl_trans HB.out hu
  replace HTs : Hid _ := HTs.out.below hu
  replace K10 := cell_below hu K10
  replace K11 := cell_below hu K11
  replace Ks0 := cell_below hu Ks0
  replace Ks1 := cell_below hu Ks1
  replace Kp0 := cell_below hu Kp0
  replace Kp1 := cell_below hu Kp1
  clear hu
  clear hb
  go_wp2_with fail
  refine (zfill c1 (HE.out.below HB.out) HTs.out.s HR.out hm hn y hyb (by omega)).mono ?_
  rintro e w5 ⟨a5', c5', b5', d5', rfl, hT, hb⟩
  have hu := bl_alloc hb (.cells #[.slice a5' m1 c5', .slice b5' N d5'] 25)
  replace HB : Hid _ := bl_trans HB.out hu
  replace HTs : Hid _ := HTs.out.below hu
  replace K10 := cell_below hu K10
  replace K11 := cell_below hu K11
  replace Ks0 := cell_below hu Ks0
  replace Ks1 := cell_below hu Ks1
  replace Kp0 := cell_below hu Kp0
  replace Kp1 := cell_below hu Kp1
  clear hu
  have HTx : Hid _ := hT.below (bl_alloc (Below.refl w5.heap.size w5) (.cells #[.slice a5' m1 c5', .slice b5' N d5'] 25))
  have Kx0 : (w5.alloc (.cells #[.slice a5' m1 c5', .slice b5' N d5'] 25)).cell? ⟨w5.heap.size, 0, none⟩ = some (.slice a5' m1 c5') := by simp
  have Kx1 : (w5.alloc (.cells #[.slice a5' m1 c5', .slice b5' N d5'] 25)).cell? ⟨w5.heap.size, 1, none⟩ = some (.slice b5' N d5') := by simp
  clear hb hT
  have hrd := fun (v : World) => Read_R y v (by omega)
  unfold fr at hrd
  generalize hW : W y.num = P at *
  generalize hSd : S y.den = Q at *
  go_wp2_with fail
  refine (hrd _).mono ?_
  rintro e w6 ⟨rfl, hb⟩
  have hu := bl_alloc hb (.cells #[.string P, .string Q] 41)
  replace HB : Hid _ := bl_trans HB.out hu
  replace HTs : Hid _ := HTs.out.below hu
  replace HTx : Hid _ := HTx.out.below hu
  replace K10 := cell_below hu K10
  replace K11 := cell_below hu K11
  replace Ks0 := cell_below hu Ks0
  replace Ks1 := cell_below hu Ks1
  replace Kp0 := cell_below hu Kp0
  replace Kp1 := cell_below hu Kp1
  replace Kx0 := cell_below hu Kx0
  replace Kx1 := cell_below hu Kx1
  clear hu
  have Ky0 : (w6.alloc (.cells #[.string P, .string Q] 41)).cell? ⟨w6.heap.size, 0, none⟩ = some (.string P) := by simp
  have Ky1 : (w6.alloc (.cells #[.string P, .string Q] 41)).cell? ⟨w6.heap.size, 1, none⟩ = some (.string Q) := by simp
  clear hb
  clear hrd
  go_wp2_with fail
  refine (hQ1 _ HB.out).mono ?_
  rintro e w7 ⟨rfl, hb⟩
  have hu := hb
  replace HB : Hid _ := bl_trans HB.out hu
  replace HTs : Hid _ := HTs.out.below hu
  replace HTx : Hid _ := HTx.out.below hu
  replace K10 := cell_below hu K10
  replace K11 := cell_below hu K11
  replace Ks0 := cell_below hu Ks0
  replace Ks1 := cell_below hu Ks1
  replace Kp0 := cell_below hu Kp0
  replace Kp1 := cell_below hu Kp1
  replace Kx0 := cell_below hu Kx0
  replace Kx1 := cell_below hu Kx1
  replace Ky0 := cell_below hu Ky0
  replace Ky1 := cell_below hu Ky1
  clear hu
  clear hb
  go_wp2_with fail
  refine (hH _ HB.out).mono ?_
  rintro e w8 ⟨rfl, hb⟩
  have hu := hb
  replace HB : Hid _ := bl_trans HB.out hu
  replace HTs : Hid _ := HTs.out.below hu
  replace HTx : Hid _ := HTx.out.below hu
  replace K10 := cell_below hu K10
  replace K11 := cell_below hu K11
  replace Ks0 := cell_below hu Ks0
  replace Ks1 := cell_below hu Ks1
  replace Kp0 := cell_below hu Kp0
  replace Kp1 := cell_below hu Kp1
  replace Kx0 := cell_below hu Kx0
  replace Kx1 := cell_below hu Kx1
  replace Ky0 := cell_below hu Ky0
  replace Ky1 := cell_below hu Ky1
  clear hu
  clear hb
  have hk := Sp.refSize_any a1 zs c1 _ HR.out HTs.out.s
  rw [hm, hn] at hk
  go_wp2_with fail
  refine hk.mono ?_
  rintro e w8 ⟨rfl, rfl⟩
  clear hk
  go_wp2_with fail
  go_loopw [18, 83] (fun l i wr => ∃ (k : Nat) (v : Value), k ≤ N ∧ i = .int .i64 k ∧ l = v ∧ Below w8.heap.size w8 wr ∧ wr.ownsRow w8.heap.size 41 2 v k (frs (List.replicate k y))) (fun _ i _ => N - (intOf i).toNat)
  case atStart => exact ⟨0, .slice none 0 0, by omega, rfl, rfl, Below.refl _ _, World.ownsRow_nil _ _ _ _⟩
  case round =>
    obtain ⟨k, v, hk, rfl, rfl, hbl, hown⟩ := hrel
    by_cases h : k < N
    · have y0 := cell_below hbl Ky0
      have y1 := cell_below hbl Ky1
      have hsz := hbl.size
      have HL : Hid (frs (List.replicate (k + 1) y) = frs (List.replicate k y) ++ [.string P, .string Q]) := by
        unfold Hid
        rw [List.replicate_succ', frs_app, ← hW, ← hSd]; rfl
      generalize frs (List.replicate k y) = L0 at *
      have hown2 := owns_below hown (bl_alloc (Below.refl wr.heap.size wr) (.cells #[.string P, .string Q] 41))
      have hnw : ∀ (j : Nat) (u : Value), ([Value.string P, Value.string Q] : List Value)[j]? = some u → (wr.alloc (.cells #[.string P, .string Q] 41)).cell? ((⟨wr.heap.size, 0, none⟩ : Addr).add j) = some u := by
        intro j u hj
        match j, hj with
        | 0, hj => simp at hj; subst hj; rw [row_add]; simp
        | 1, hj => simp at hj; subst hj; rw [row_add]; simp
        | j + 2, hj => simp at hj
      have HBL : Hid _ := hbl
      clear hbl
      go_wp2_with (first | (at_builtin; refine wpList_append_own _ rfl _ _ 45 rfl (w8.heap.size) 41 i0 (.agg #[.string ByteArray.empty, .string ByteArray.empty]) 2 32 Tryz.underlying45 hi hz0 hz1 hz2 rfl (by decide) _ k L0 rfl hown2 ⟨wr.heap.size, 0, none⟩ 1 1 [.string P, .string Q] rfl rfl hnw (by simp [Value.oneCell']) (by unfold maxLen; omega) (by omega) (by simp; omega) ?_))
      intro v' w4 hown4 hgrow4 _
      have HB4 : Hid (Below w8.heap.size w8 w4) := (bl_alloc HBL.out _).trans ((Below.refl (w8.heap.size) _).grown hgrow4 (by simp; omega) (fun b hb => (hown2.lt b hb).1))
      clear hgrow4 hown2 hnw
      go_wp2
      refine ⟨⟨k + 1, v', by omega, by simp, rfl, HB4.out, ?_⟩, by simp [intOf]; omega⟩
      rw [HL.out]
      exact hown4
    · have ek : k = N := by omega
      subst ek
      obtain ⟨ao, cap, ev, hrow⟩ := row_own2 hown
      subst ev
      go_wp2_with fail
      have hT0 := HTs.out.below hbl
      have hX0 := HTx.out.below hbl
      have hTR := HTx.out.tr
      have hRL := HTx.out.hn
      refine wp_region_any (by kernel_rfl) ?_
      refine wpAny_inv (fun L a v => ∃ s90 s91 s92 s93 s94 s95 s96 s97 s98 s99 s100, a = ⟨#[Value.agg #[Value.slice a1 m1 c1, Value.slice b1 n1 d1], Value.string (R y), Value.int IntKind.i64 z, Value.pointer (some { block := w.heap.size, off := 0 }), undef, undef, Value.bool false, Value.pointer (some { block := w2.heap.size, off := 0 }), Value.int IntKind.i64 1, Value.pointer (some { block := w3.heap.size, off := 0 }), Value.int IntKind.i64 1, Value.string { data := #[] }, Value.int IntKind.i64 1, Value.pointer (some { block := w5.heap.size, off := 0 }), Value.int IntKind.i64 0, Value.pointer (some { block := w6.heap.size, off := 0 }), Value.bool true, Value.bool false, Value.slice ao k cap, undef, undef, undef, undef, undef, Value.agg #[Value.slice a1 m1 c1, Value.slice b1 n1 d1], Value.bool true, Value.bool false, Value.bool false, Value.string (R y), Value.int IntKind.i64 ((R y).size : Int), Value.bool (decide ((40 : Int) < ((R y).size : Int))), Value.bool (decide ((40 : Int) < ((R y).size : Int))), undef, noTensor 1, Value.agg #[Value.slice a1 m1 c1, Value.slice b1 n1 d1], Value.string (R y), noTensor 1, Value.agg #[Value.slice none 0 0, Value.slice none 0 0], Value.int IntKind.i64 1, noTensor 1, Value.agg #[Value.slice a1 m1 c1, Value.slice b1 n1 d1], Value.int IntKind.i64 z, noTensor 1, Value.agg #[Value.slice none 0 0, Value.slice none 0 0], Value.int IntKind.i64 1, Value.tuple #[Value.string { data := #[] }, Value.int IntKind.i64 1], Value.agg #[Value.slice a1 m1 c1, Value.slice b1 n1 d1], Value.tuple #[Value.string { data := #[] }, Value.int IntKind.i64 1], Value.string { data := #[] }, Value.int IntKind.i64 1, Value.tuple #[Value.agg #[Value.slice a5' m1 c5', Value.slice b5' k d5'], Value.int IntKind.i64 0], Value.pointer (some { block := w.heap.size, off := 0 }), Value.slice a1 m1 c1, Value.string (R y), Value.tuple #[Value.agg #[Value.slice a5' m1 c5', Value.slice b5' k d5'], Value.int IntKind.i64 0], Value.agg #[Value.slice a5' m1 c5', Value.slice b5' k d5'], Value.int IntKind.i64 0, Value.tuple #[Value.agg #[Value.string P, Value.string Q], Value.bool true], Value.string (R y), Value.tuple #[Value.agg #[Value.string P, Value.string Q], Value.bool true], Value.agg #[Value.string P, Value.string Q], Value.bool true, Value.agg #[Value.slice a1 m1 c1, Value.slice b1 n1 d1], Value.bool false, Value.bool true, Value.bool false, Value.bool false, Value.pointer (some { block := w.heap.size, off := 0 }), Value.slice a1 m1 c1, Value.bool true, Value.bool false, Value.bool false, undef, undef, undef, undef, undef, undef, undef, undef, Value.pointer (some { block := w.heap.size, off := 0 }), Value.slice a1 m1 c1, Value.int IntKind.i64 (k : Int), Value.int IntKind.i64 (k : Int), Value.bool false, u85, u86, u87, u88, u89, s90, s91, s92, s93, s94, s95, s96, s97, s98, s99, s100, undef, undef, undef, undef, undef, undef, undef, undef, undef, undef, undef, undef, undef, undef, undef, undef, undef, undef, undef, undef, undef, undef, undef, undef, undef, undef, undef, undef, undef, undef, undef, undef, undef, undef, undef, undef, undef, undef, undef, undef, undef, undef, undef, undef, undef, undef, undef, undef, undef, undef, undef, undef, undef, undef, undef, undef, undef, undef, undef, undef, undef, undef, undef, undef, undef, undef, undef, undef, undef, undef, undef, undef, undef, undef, undef, undef, undef, undef, undef, undef, undef, undef, undef, undef, undef, undef, undef, undef, undef, undef, undef, undef, undef, undef, undef, undef, undef, undef, undef, undef, undef, undef, undef, undef, undef, undef, undef, undef, undef, undef, undef, undef, undef, undef, undef, undef, undef, undef, undef, undef, undef, undef, undef, undef], []⟩ ∧ Gd wr (.agg #[.slice a5' m1 c5', .slice b5' k d5']) (.pointer (some ⟨w.heap.size, 0, none⟩)) (.slice a1 m1 c1) (.slice ao k cap) (Nt zs m1 k (List.replicate k y) 40) L v s90 s91 s92 s93 s94 s95 s96 s97 s98 s99 s100) ?_ ?_ _ _ _ _ (by decide) ?_
      · intro L a v i hI hi
        obtain ⟨s90, s91, s92, s93, s94, s95, s96, s97, s98, s99, s100, rfl, hP⟩ := hI
        obtain ⟨hu, o, ho, haf⟩ := mem_ready.1 hi
        have hlt : i < 11 := (Array.getElem?_eq_some_iff.1 ho).1
        have k0 := cell_below (bl_trans hbl hP.bl) K10
        have k1 := cell_below (bl_trans hbl hP.bl) K11
        have k4 := cell_below (bl_trans hbl hP.bl) Kx0
        have k5 := cell_below (bl_trans hbl hP.bl) Kx1
        rcases (by omega : i = 0 ∨ i = 1 ∨ i = 2 ∨ i = 3 ∨ i = 4 ∨ i = 5 ∨ i = 6 ∨ i = 7 ∨ i = 8 ∨ i = 9 ∨ i = 10) with rfl | rfl | rfl | rfl | rfl | rfl | rfl | rfl | rfl | rfl | rfl
        all_goals (simp only [List.getElem?_toArray, List.getElem?_cons_zero, List.getElem?_cons_succ, Option.some.injEq] at ho; subst ho)
        · refine step_run rfl rfl ?_
          have hP2 := hP.t0
          go_simp
          exact ⟨_, _, _, _, _, _, _, _, _, _, _, ⟨rfl, rfl, rfl, rfl, rfl, rfl, rfl, rfl, rfl, rfl, rfl⟩, hP2⟩
        · refine step_run rfl rfl ?_
          have hP2 := hP.t1
          go_simp
          exact ⟨_, _, _, _, _, _, _, _, _, _, _, ⟨rfl, rfl, rfl, rfl, rfl, rfl, rfl, rfl, rfl, rfl, rfl⟩, hP2⟩
        · have g1 := hP.h1 (haf { on := 1, ground := .data } (by simp) rfl)
          subst g1
          refine step_run rfl rfl ?_
          have hP2 := hP.t2
          go_simp
          exact ⟨_, _, _, _, _, _, _, _, _, _, _, ⟨rfl, rfl, rfl, rfl, rfl, rfl, rfl, rfl, rfl, rfl, rfl⟩, hP2⟩
        · refine step_run rfl rfl ?_
          have hP2 := hP.t3
          go_simp
          exact ⟨_, _, _, _, _, _, _, _, _, _, _, ⟨rfl, rfl, rfl, rfl, rfl, rfl, rfl, rfl, rfl, rfl, rfl⟩, hP2⟩
        · have g2 := hP.h2 (haf { on := 2, ground := .data } (by simp) rfl)
          have g3 := hP.h3 (haf { on := 3, ground := .data } (by simp) rfl)
          subst g2 g3
          refine step_run rfl rfl ?_
          unfold Oper.wp
          rw [run_two cf27 (.tmp 92) (.tmp 93) 22 45 rfl _ _ rfl rfl]
          refine (zof c1 cap (hT0.below hP.bl).s hTR (hrow.below hP.bl) hm hRL (by omega)).mono ?_
          rintro e v2 ⟨x9, rfl, hN9, hb⟩
          have hP2 := hP.t4 hb hN9
          go_simp
          exact ⟨_, _, _, _, _, _, _, _, _, _, _, ⟨rfl, rfl, rfl, rfl, rfl, rfl, rfl, rfl, rfl, rfl, rfl⟩, hP2⟩
        · have g0 := hP.h0 (haf { on := 0, ground := .data } (by simp) rfl)
          have g4 := hP.h4 (haf { on := 4, ground := .data } (by simp) rfl)
          obtain ⟨a9, c9, b9, d9, g4, hT9⟩ := g4
          subst g0 g4
          refine step_run rfl rfl ?_
          unfold Oper.wp
          rw [run_two cf18 (.tmp 90) (.tmp 94) 25 25 rfl _ _ rfl rfl]
          refine (zeq c5' d5' c9 d9 (hX0.below hP.bl) hT9 rfl).mono ?_
          rintro e v2 ⟨rfl, hb⟩
          have hP2 := hP.t5 hb
          go_simp
          exact ⟨_, _, _, _, _, _, _, _, _, _, _, ⟨rfl, rfl, rfl, rfl, rfl, rfl, rfl, rfl, rfl, rfl, rfl⟩, hP2⟩
        · have g5 := hP.h5 (haf { on := 5, ground := .data } (by simp) rfl)
          subst g5
          refine step_run rfl rfl ?_
          have hP2 := hP.t6
          go_simp
          exact ⟨_, _, _, _, _, _, _, _, _, _, _, ⟨rfl, rfl, rfl, rfl, rfl, rfl, rfl, rfl, rfl, rfl, rfl⟩, hP2⟩
        · have g6 := hP.h6 (haf { on := 6, ground := .data } (by simp) rfl)
          subst g6
          refine step_run rfl rfl ?_
          have hP2 := hP.t7
          go_simp
          exact ⟨_, _, _, _, _, _, _, _, _, _, _, ⟨rfl, rfl, rfl, rfl, rfl, rfl, rfl, rfl, rfl, rfl, rfl⟩, hP2⟩
        · have g7 := hP.h7 (haf { on := 7, ground := .guard } (by simp) rfl)
          subst g7
          refine step_runw rfl (by first | rfl | go_simp) ?_
          have hP2 := hP.t8
          go_simp
          exact ⟨_, _, _, _, _, _, _, _, _, _, _, ⟨rfl, rfl, rfl, rfl, rfl, rfl, rfl, rfl, rfl, rfl, rfl⟩, hP2⟩
        · have g8 := hP.h8 (haf { on := 8, ground := .data } (by simp) rfl)
          have g7 := hP.h7 (haf { on := 7, ground := .guard } (by simp) rfl)
          subst g8 g7
          refine step_runw rfl (by first | rfl | go_simp) ?_
          have hP2 := hP.t9
          go_simp
          exact ⟨_, _, _, _, _, _, _, _, _, _, _, ⟨rfl, rfl, rfl, rfl, rfl, rfl, rfl, rfl, rfl, rfl, rfl⟩, hP2⟩
        · have g7 := hP.h7 (haf { on := 7, ground := .data } (by simp) rfl)
          have g9 := hP.h9 (haf { on := 9, ground := .data } (by simp) rfl)
          subst g7 g9
          refine step_run rfl rfl ?_
          have hP2 := hP.t10
          go_simp
          exact ⟨_, _, _, _, _, _, _, _, _, _, _, ⟨rfl, rfl, rfl, rfl, rfl, rfl, rfl, rfl, rfl, rfl, rfl⟩, hP2⟩
      · intro L a v hI hr
        obtain ⟨s90, s91, s92, s93, s94, s95, s96, s97, s98, s99, s100, rfl, hP⟩ := hI
        have hno := List.eq_nil_iff_forall_not_mem.1 hr
        have g0 : on L 0 := Decidable.byContradiction fun hc => hno 0 (mem_ready.2 ⟨off (by rw [hP.sz]; decide) hc, _, rfl, fun e he => by simp at he⟩)
        have g1 : on L 1 := Decidable.byContradiction fun hc => hno 1 (mem_ready.2 ⟨off (by rw [hP.sz]; decide) hc, _, rfl, fun e he => by simp at he⟩)
        have g2 : on L 2 := by
          refine Decidable.byContradiction fun hc => hno 2 (mem_ready.2 ⟨off (by rw [hP.sz]; decide) hc, _, rfl, ?_⟩)
          intro e he hb
          simp at he
          subst he
          all_goals first | assumption | exact absurd hb (by decide)
        have g3 : on L 3 := Decidable.byContradiction fun hc => hno 3 (mem_ready.2 ⟨off (by rw [hP.sz]; decide) hc, _, rfl, fun e he => by simp at he⟩)
        have g4 : on L 4 := by
          refine Decidable.byContradiction fun hc => hno 4 (mem_ready.2 ⟨off (by rw [hP.sz]; decide) hc, _, rfl, ?_⟩)
          intro e he hb
          simp at he
          rcases he with rfl | rfl
          all_goals first | assumption | exact absurd hb (by decide)
        have g5 : on L 5 := by
          refine Decidable.byContradiction fun hc => hno 5 (mem_ready.2 ⟨off (by rw [hP.sz]; decide) hc, _, rfl, ?_⟩)
          intro e he hb
          simp at he
          rcases he with rfl | rfl | rfl
          all_goals first | assumption | exact absurd hb (by decide)
        have g6 : on L 6 := by
          refine Decidable.byContradiction fun hc => hno 6 (mem_ready.2 ⟨off (by rw [hP.sz]; decide) hc, _, rfl, ?_⟩)
          intro e he hb
          simp at he
          subst he
          all_goals first | assumption | exact absurd hb (by decide)
        have g7 : on L 7 := by
          refine Decidable.byContradiction fun hc => hno 7 (mem_ready.2 ⟨off (by rw [hP.sz]; decide) hc, _, rfl, ?_⟩)
          intro e he hb
          simp at he
          rcases he with rfl | rfl
          all_goals first | assumption | exact absurd hb (by decide)
        have g8 : on L 8 := by
          refine Decidable.byContradiction fun hc => hno 8 (mem_ready.2 ⟨off (by rw [hP.sz]; decide) hc, _, rfl, ?_⟩)
          intro e he hb
          simp at he
          subst he
          all_goals first | assumption | exact absurd hb (by decide)
        have g9 : on L 9 := by
          refine Decidable.byContradiction fun hc => hno 9 (mem_ready.2 ⟨off (by rw [hP.sz]; decide) hc, _, rfl, ?_⟩)
          intro e he hb
          simp at he
          rcases he with rfl | rfl
          all_goals first | assumption | exact absurd hb (by decide)
        have g10 : on L 10 := by
          refine Decidable.byContradiction fun hc => hno 10 (mem_ready.2 ⟨off (by rw [hP.sz]; decide) hc, _, rfl, ?_⟩)
          intro e he hb
          simp at he
          rcases he with rfl | rfl
          all_goals first | assumption | exact absurd hb (by decide)
        have e0 := hP.h0 g0
        have e1 := hP.h1 g1
        have e2 := hP.h2 g2
        have e3 := hP.h3 g3
        obtain ⟨a9, c9, b9, d9, e4, hT9⟩ := hP.h4 g4
        have e5 := hP.h5 g5
        have e6 := hP.h6 g6
        have e7 := hP.h7 g7
        have e8 := hP.h8 g8
        have e9 := hP.h9 g9
        have e10 := hP.h10 g10
        have hBL := hP.bl
        clear hP g0 g1 g2 g3 g4 g5 g6 g7 g8 g9 g10 hr hno
        subst e0 e1 e2 e3 e4 e5 e6 e7 e8 e9 e10
        have HBL : Hid (Below w.heap.size w v) := bl_trans (bl_trans HB.out hbl) hBL
        have ks1 := cell_below (bl_trans hbl hBL) Ks1
        have kp1 := cell_below (bl_trans hbl hBL) Kp1
        clear hBL hbl hrow hT9 hT0 hX0
        go_wp2_with fail
        refine (awake_any aF aZ _ (HE.out.below HBL.out)).mono ?_
        rintro e v9 ⟨rfl, hb9⟩
        replace HBL : Hid _ := bl_trans HBL.out hb9
        clear hb9
        go_wp2
        go_ret
        exact ⟨rfl, HBL.out⟩
      · exact ⟨_, _, _, _, _, _, _, _, _, _, _, rfl, ⟨by simp, bl_drew (Below.refl _ _), fun v u x hb ⟨a9, c9, b9, d9, e, hT⟩ => ⟨a9, c9, b9, d9, e, hT.below hb⟩, fun g => absurd g (by simp [on]), fun g => absurd g (by simp [on]), fun g => absurd g (by simp [on]), fun g => absurd g (by simp [on]), fun g => absurd g (by simp [on]), fun g => absurd g (by simp [on]), fun g => absurd g (by simp [on]), fun g => absurd g (by simp [on]), fun g => absurd g (by simp [on]), fun g => absurd g (by simp [on]), fun g => absurd g (by simp [on])⟩⟩
end Go.Proofs.YtfblgaffkflenaaGreatDoor.Tn
