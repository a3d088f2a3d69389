/-
  THE CALLS OF PACKAGE kink, STEP BY STEP: what each gives, or that it is refused. Conditions: each theorem's own.
-/
import Derived.Test.YtjkobbpebnkimaaGreatDoorKc
namespace Go.Proofs.YtjkobbpebnkimaaGreatDoor.Tn
set_option maxRecDepth 100000
open Go.RowKit Nm
set_option linter.unusedVariables false

/-- each's own blocks: the operation, the tensor, and the answer's place -/
structure Eb (w v : World) (y x1 x2 : Value) : Prop where
  y0 : v.cell? ⟨w.heap.size, 0, none⟩ = some y
  a0 : v.cell? ⟨w.heap.size + 1, 0, none⟩ = some x1
  a1 : v.cell? ⟨w.heap.size + 1, 1, none⟩ = some x2
  bx : Bx v (w.heap.size + 1 + 1)
  bl : Below w.heap.size w v
theorem Eb.of {w v : World} {y x1 x2 : Value} {t : TypeId} (h : Below (((w.alloc (.cells #[y] t)).alloc (.cells #[x1, x2] 25)).alloc (.cells #[.slice none 0 0, .slice none 0 0] 25)).heap.size (((w.alloc (.cells #[y] t)).alloc (.cells #[x1, x2] 25)).alloc (.cells #[.slice none 0 0, .slice none 0 0] 25)) v) : Eb w v y x1 x2 := by
  have k := own3 h
  exact ⟨k.1 0, k.2.1 0, k.2.1 1, ⟨k.2.2.1 0, k.2.2.1 1, k.2.2.2.1 0, k.2.2.2.1 1⟩, k.2.2.2.2⟩
theorem Eb.below {w v u : World} {y x1 x2 : Value} (h : Eb w v y x1 x2) (k : Below v.heap.size v u) : Eb w u y x1 x2 :=
  ⟨cell_below k h.y0, cell_below k h.a0, cell_below k h.a1, h.bx.below k, bl_trans h.bl k⟩
/-- pairs' own blocks: both tensors, what chooses, and the answer's place -/
structure Pb (w v : World) (x1 x2 y1 y2 g : Value) : Prop where
  a0 : v.cell? ⟨w.heap.size, 0, none⟩ = some x1
  a1 : v.cell? ⟨w.heap.size, 1, none⟩ = some x2
  b0 : v.cell? ⟨w.heap.size + 1, 0, none⟩ = some y1
  b1 : v.cell? ⟨w.heap.size + 1, 1, none⟩ = some y2
  g0 : v.cell? ⟨w.heap.size + 1 + 1, 0, none⟩ = some g
  bx : Bx v (w.heap.size + 1 + 1 + 1)
  bl : Below w.heap.size w v
theorem Pb.of {w v : World} {x1 x2 y1 y2 g : Value} {t : TypeId} (h : Below ((((w.alloc (.cells #[x1, x2] 25)).alloc (.cells #[y1, y2] 25)).alloc (.cells #[g] t)).alloc (.cells #[.slice none 0 0, .slice none 0 0] 25)).heap.size ((((w.alloc (.cells #[x1, x2] 25)).alloc (.cells #[y1, y2] 25)).alloc (.cells #[g] t)).alloc (.cells #[.slice none 0 0, .slice none 0 0] 25)) v) : Pb w v x1 x2 y1 y2 g := by
  have k := own3 (w := w.alloc (.cells #[x1, x2] 25)) h
  have hs : (w.alloc (.cells #[x1, x2] 25)).heap.size = w.heap.size + 1 := by simp
  rw [hs] at k
  have q := own1 (w := w) (v := v) (a := #[x1, x2]) (r := 25) (by rw [hs]; exact k.2.2.2.2)
  exact ⟨q.1 0, q.1 1, k.1 0, k.1 1, k.2.1 0, ⟨k.2.2.1 0, k.2.2.1 1, k.2.2.2.1 0, k.2.2.2.1 1⟩, q.2.2⟩
theorem Pb.below {w v u : World} {x1 x2 y1 y2 g : Value} (h : Pb w v x1 x2 y1 y2 g) (k : Below v.heap.size v u) : Pb w u x1 x2 y1 y2 g :=
  ⟨cell_below k h.a0, cell_below k h.a1, cell_below k h.b0, cell_below k h.b1, cell_below k h.g0, h.bx.below k, bl_trans h.bl k⟩

set_option maxHeartbeats 2000000 in
theorem each_no (by1 : Int) (n1 c1 d1 m1 : Nat) (a1 b1 : Option Addr) (w : World)
    (hR1 : ∀ v, Below w.heap.size w v → Calls Tryz.prog 30 #[.agg #[.slice a1 m1 c1, .slice b1 n1 d1]] v fun e w' => e = .returned (.bool false) ∧ Below v.heap.size v w') :
    Calls Tryz.prog 29 #[.int .i64 by1, .agg #[.slice a1 m1 c1, .slice b1 n1 d1]] w fun e w' => e = .returned (noTensor 1) ∧ Below w.heap.size w w' := by
  have hZ := Eb.of (w := w) (y := .int .i64 by1) (x1 := .slice a1 m1 c1) (x2 := .slice b1 n1 d1) (t := 46) (Below.refl _ _)
  have k0 := hZ.y0
  have k1 := hZ.a0
  have k2 := hZ.a1
  have hx0 := hZ.bx.c0
  have hx1 := hZ.bx.c1
  have hx2 := hZ.bx.f0
  have hx3 := hZ.bx.f1
  have HZ : Hid _ := hZ
  clear hZ
  go_enter Tryz.func29, Tryz.ntmps29
  go_wp2_with fail
  refine (hR1 _ HZ.out.bl).mono ?_
  rintro e w1 ⟨rfl, hb⟩
  have hZ := HZ.out.below hb
  clear HZ k0 k1 k2 hx0 hx1 hx2 hx3
  have k0 := hZ.y0
  have k1 := hZ.a0
  have k2 := hZ.a1
  have hx0 := hZ.bx.c0
  have hx1 := hZ.bx.c1
  have hx2 := hZ.bx.f0
  have hx3 := hZ.bx.f1
  have HZ : Hid _ := hZ
  clear hb hZ hR1
  go_wp2
  refine bodyPost_ret (v := noTensor 1) (by simp [results, Tryz.results29, go_sem, (two_set HZ.out.bx.c0 HZ.out.bx.c1 _ _).1, (two_set HZ.out.bx.c0 HZ.out.bx.c1 _ _).2]) rfl ⟨rfl, ?_⟩
  exact bl_set (bl_set HZ.out.bl (by simp <;> omega) _) (by simp <;> omega) _

set_option maxHeartbeats 2000000 in
theorem each_yes (by1 : Int) (n1 c1 d1 m1 : Nat) (a1 b1 : Option Addr) (zs : List Int) (xs : List ByteArray) (w : World)
    (hR1 : ∀ v, Below w.heap.size w v → Calls Tryz.prog 30 #[.agg #[.slice a1 m1 c1, .slice b1 n1 d1]] v fun e w' => e = .returned (.bool true) ∧ Below v.heap.size v w')
    (hM : ∀ v, Below w.heap.size w v → v.cell? ⟨w.heap.size, 0, none⟩ = some (.int .i64 by1) → v.cell? ⟨w.heap.size + 1, 1, none⟩ = some (.slice b1 n1 d1) →
      Calls Tryz.prog 52 #[.agg #[.slice a1 m1 c1, .slice b1 n1 d1], .func (.func 53) #[] #[.pointer (some ⟨w.heap.size, 0, none⟩), .pointer (some ⟨w.heap.size + 1, 0, none⟩)]] v fun e v' => ∃ a3 c3 b3 d3, e = .returned (.agg #[.slice a3 m1 c3, .slice b3 n1 d3]) ∧ Tm v' v.heap.size a3 b3 zs xs ∧ Below v.heap.size v v') :
    Calls Tryz.prog 29 #[.int .i64 by1, .agg #[.slice a1 m1 c1, .slice b1 n1 d1]] w fun e w' => ∃ a3 c3 b3 d3, e = .returned (.tuple #[.agg #[.slice a3 m1 c3, .slice b3 n1 d3], .int .i64 0]) ∧ Tm w' w.heap.size a3 b3 zs xs ∧ Below w.heap.size w w' := by
  have hZ := Eb.of (w := w) (y := .int .i64 by1) (x1 := .slice a1 m1 c1) (x2 := .slice b1 n1 d1) (t := 46) (Below.refl _ _)
  have k0 := hZ.y0
  have k1 := hZ.a0
  have k2 := hZ.a1
  have hx0 := hZ.bx.c0
  have hx1 := hZ.bx.c1
  have hx2 := hZ.bx.f0
  have hx3 := hZ.bx.f1
  have HZ : Hid _ := hZ
  clear hZ
  go_enter Tryz.func29, Tryz.ntmps29
  go_wp2_with fail
  refine (hR1 _ HZ.out.bl).mono ?_
  rintro e w1 ⟨rfl, hb⟩
  have hZ := HZ.out.below hb
  clear HZ k0 k1 k2 hx0 hx1 hx2 hx3
  have k0 := hZ.y0
  have k1 := hZ.a0
  have k2 := hZ.a1
  have hx0 := hZ.bx.c0
  have hx1 := hZ.bx.c1
  have hx2 := hZ.bx.f0
  have hx3 := hZ.bx.f1
  have HZ : Hid _ := hZ
  clear hb hZ hR1
  have hc := hM _ HZ.out.bl k0 k2
  clear hM
  go_wp2_with fail
  refine hc.mono ?_
  rintro e w5 ⟨a3, c3, b3, d3, rfl, hT, hb⟩
  have hZ := HZ.out.below hb
  have HT : Hid (Tm w5 (w.heap.size + 1 + 1 + 1) a3 b3 zs xs) := hT.mono (by have := HZ.out.bx.lt; omega)
  clear HZ hc k0 k1 k2 hb hT hx0 hx1 hx2 hx3
  have hx0 := hZ.bx.c0
  have hx1 := hZ.bx.c1
  have hx2 := hZ.bx.f0
  have hx3 := hZ.bx.f1
  have HZ : Hid _ := hZ
  clear hZ
  go_wp2
  refine bodyPost_ret (v := .tuple #[.agg #[.slice a3 m1 c3, .slice b3 n1 d3], .int .i64 0]) (by simp [results, Tryz.results29, go_sem, (two_set HZ.out.bx.c0 HZ.out.bx.c1 _ _).1, (two_set HZ.out.bx.c0 HZ.out.bx.c1 _ _).2]) rfl ⟨a3, c3, b3, d3, rfl, ?_, ?_⟩
  · exact ((HT.out.set (by simp) _).set (by simp) _).mono (by omega)
  · exact bl_set (bl_set HZ.out.bl (by simp <;> omega) _) (by simp <;> omega) _

set_option maxHeartbeats 2000000 in
theorem pairs_a (f n1 n2 c1 d1 c2 d2 m1 m2 : Nat) (a1 b1 a2 b2 : Option Addr) (w : World)
    (hR1 : ∀ v, Below w.heap.size w v → Calls Tryz.prog 30 #[.agg #[.slice a1 m1 c1, .slice b1 n1 d1]] v fun e w' => e = .returned (.bool false) ∧ Below v.heap.size v w') :
    Calls Tryz.prog 38 #[.agg #[.slice a1 m1 c1, .slice b1 n1 d1], .agg #[.slice a2 m2 c2, .slice b2 n2 d2], .func (.func f) #[] #[]] w fun e w' => e = .returned (noTensor 1) ∧ Below w.heap.size w w' := by
  have hZ := Pb.of (w := w) (x1 := .slice a1 m1 c1) (x2 := .slice b1 n1 d1) (y1 := .slice a2 m2 c2) (y2 := .slice b2 n2 d2) (g := .func (.func f) #[] #[]) (t := 59) (Below.refl _ _)
  have k0 := hZ.a0
  have k1 := hZ.a1
  have k2 := hZ.b0
  have k3 := hZ.b1
  have k4 := hZ.g0
  have hx0 := hZ.bx.c0
  have hx1 := hZ.bx.c1
  have hx2 := hZ.bx.f0
  have hx3 := hZ.bx.f1
  have HZ : Hid _ := hZ
  clear hZ
  go_enter Tryz.func38, Tryz.ntmps38
  go_wp2_with fail
  refine (hR1 _ HZ.out.bl).mono ?_
  rintro e w1 ⟨rfl, hb⟩
  have hZ := HZ.out.below hb
  clear HZ k0 k1 k2 k3 k4 hx0 hx1 hx2 hx3
  have k0 := hZ.a0
  have k1 := hZ.a1
  have k2 := hZ.b0
  have k3 := hZ.b1
  have k4 := hZ.g0
  have hx0 := hZ.bx.c0
  have hx1 := hZ.bx.c1
  have hx2 := hZ.bx.f0
  have hx3 := hZ.bx.f1
  have HZ : Hid _ := hZ
  clear hb hZ hR1
  go_wp2
  refine bodyPost_ret (v := noTensor 1) (by simp [results, Tryz.results38, go_sem, (two_set HZ.out.bx.c0 HZ.out.bx.c1 _ _).1, (two_set HZ.out.bx.c0 HZ.out.bx.c1 _ _).2]) rfl ⟨rfl, ?_⟩
  exact bl_set (bl_set HZ.out.bl (by simp <;> omega) _) (by simp <;> omega) _

set_option maxHeartbeats 2000000 in
theorem pairs_b (f n1 n2 c1 d1 c2 d2 m1 m2 : Nat) (a1 b1 a2 b2 : Option Addr) (w : World)
    (hR1 : ∀ v, Below w.heap.size w v → Calls Tryz.prog 30 #[.agg #[.slice a1 m1 c1, .slice b1 n1 d1]] v fun e w' => e = .returned (.bool true) ∧ Below v.heap.size v w')
    (hR2 : ∀ v, Below w.heap.size w v → Calls Tryz.prog 30 #[.agg #[.slice a2 m2 c2, .slice b2 n2 d2]] v fun e w' => e = .returned (.bool false) ∧ Below v.heap.size v w') :
    Calls Tryz.prog 38 #[.agg #[.slice a1 m1 c1, .slice b1 n1 d1], .agg #[.slice a2 m2 c2, .slice b2 n2 d2], .func (.func f) #[] #[]] w fun e w' => e = .returned (noTensor 1) ∧ Below w.heap.size w w' := by
  have hZ := Pb.of (w := w) (x1 := .slice a1 m1 c1) (x2 := .slice b1 n1 d1) (y1 := .slice a2 m2 c2) (y2 := .slice b2 n2 d2) (g := .func (.func f) #[] #[]) (t := 59) (Below.refl _ _)
  have k0 := hZ.a0
  have k1 := hZ.a1
  have k2 := hZ.b0
  have k3 := hZ.b1
  have k4 := hZ.g0
  have hx0 := hZ.bx.c0
  have hx1 := hZ.bx.c1
  have hx2 := hZ.bx.f0
  have hx3 := hZ.bx.f1
  have HZ : Hid _ := hZ
  clear hZ
  go_enter Tryz.func38, Tryz.ntmps38
  go_wp2_with fail
  refine (hR1 _ HZ.out.bl).mono ?_
  rintro e w1 ⟨rfl, hb⟩
  have hZ := HZ.out.below hb
  clear HZ k0 k1 k2 k3 k4 hx0 hx1 hx2 hx3
  have k0 := hZ.a0
  have k1 := hZ.a1
  have k2 := hZ.b0
  have k3 := hZ.b1
  have k4 := hZ.g0
  have hx0 := hZ.bx.c0
  have hx1 := hZ.bx.c1
  have hx2 := hZ.bx.f0
  have hx3 := hZ.bx.f1
  have HZ : Hid _ := hZ
  clear hb hZ hR1
  go_wp2_with fail
  refine (hR2 _ HZ.out.bl).mono ?_
  rintro e w2 ⟨rfl, hb⟩
  have hZ := HZ.out.below hb
  clear HZ k0 k1 k2 k3 k4 hx0 hx1 hx2 hx3
  have k0 := hZ.a0
  have k1 := hZ.a1
  have k2 := hZ.b0
  have k3 := hZ.b1
  have k4 := hZ.g0
  have hx0 := hZ.bx.c0
  have hx1 := hZ.bx.c1
  have hx2 := hZ.bx.f0
  have hx3 := hZ.bx.f1
  have HZ : Hid _ := hZ
  clear hb hZ hR2
  go_wp2
  refine bodyPost_ret (v := noTensor 1) (by simp [results, Tryz.results38, go_sem, (two_set HZ.out.bx.c0 HZ.out.bx.c1 _ _).1, (two_set HZ.out.bx.c0 HZ.out.bx.c1 _ _).2]) rfl ⟨rfl, ?_⟩
  exact bl_set (bl_set HZ.out.bl (by simp <;> omega) _) (by simp <;> omega) _

set_option maxHeartbeats 2000000 in
theorem pairs_s (f n1 n2 c1 d1 c2 d2 m1 m2 : Nat) (a1 b1 a2 b2 : Option Addr) (w : World)
    (hR1 : ∀ v, Below w.heap.size w v → Calls Tryz.prog 30 #[.agg #[.slice a1 m1 c1, .slice b1 n1 d1]] v fun e w' => e = .returned (.bool true) ∧ Below v.heap.size v w')
    (hR2 : ∀ v, Below w.heap.size w v → Calls Tryz.prog 30 #[.agg #[.slice a2 m2 c2, .slice b2 n2 d2]] v fun e w' => e = .returned (.bool true) ∧ Below v.heap.size v w')
    (hS : ∀ v, Below w.heap.size w v → Calls Tryz.prog 43 #[.slice a1 m1 c1, .slice a2 m2 c2] v fun e w' => e = .returned (.bool false) ∧ Sp.Sm v w') :
    Calls Tryz.prog 38 #[.agg #[.slice a1 m1 c1, .slice b1 n1 d1], .agg #[.slice a2 m2 c2, .slice b2 n2 d2], .func (.func f) #[] #[]] w fun e w' => e = .returned (noTensor 4) ∧ Below w.heap.size w w' := by
  have hZ := Pb.of (w := w) (x1 := .slice a1 m1 c1) (x2 := .slice b1 n1 d1) (y1 := .slice a2 m2 c2) (y2 := .slice b2 n2 d2) (g := .func (.func f) #[] #[]) (t := 59) (Below.refl _ _)
  have k0 := hZ.a0
  have k1 := hZ.a1
  have k2 := hZ.b0
  have k3 := hZ.b1
  have k4 := hZ.g0
  have hx0 := hZ.bx.c0
  have hx1 := hZ.bx.c1
  have hx2 := hZ.bx.f0
  have hx3 := hZ.bx.f1
  have HZ : Hid _ := hZ
  clear hZ
  go_enter Tryz.func38, Tryz.ntmps38
  go_wp2_with fail
  refine (hR1 _ HZ.out.bl).mono ?_
  rintro e w1 ⟨rfl, hb⟩
  have hZ := HZ.out.below hb
  clear HZ k0 k1 k2 k3 k4 hx0 hx1 hx2 hx3
  have k0 := hZ.a0
  have k1 := hZ.a1
  have k2 := hZ.b0
  have k3 := hZ.b1
  have k4 := hZ.g0
  have hx0 := hZ.bx.c0
  have hx1 := hZ.bx.c1
  have hx2 := hZ.bx.f0
  have hx3 := hZ.bx.f1
  have HZ : Hid _ := hZ
  clear hb hZ hR1
  go_wp2_with fail
  refine (hR2 _ HZ.out.bl).mono ?_
  rintro e w2 ⟨rfl, hb⟩
  have hZ := HZ.out.below hb
  clear HZ k0 k1 k2 k3 k4 hx0 hx1 hx2 hx3
  have k0 := hZ.a0
  have k1 := hZ.a1
  have k2 := hZ.b0
  have k3 := hZ.b1
  have k4 := hZ.g0
  have hx0 := hZ.bx.c0
  have hx1 := hZ.bx.c1
  have hx2 := hZ.bx.f0
  have hx3 := hZ.bx.f1
  have HZ : Hid _ := hZ
  clear hb hZ hR2
  go_wp2_with fail
  refine (hS _ HZ.out.bl).mono ?_
  rintro e w3 ⟨rfl, hs⟩
  have hb := hs.below w2.heap.size
  have hZ := HZ.out.below hb
  clear HZ k0 k1 k2 k3 k4 hx0 hx1 hx2 hx3
  have k0 := hZ.a0
  have k1 := hZ.a1
  have k2 := hZ.b0
  have k3 := hZ.b1
  have k4 := hZ.g0
  have hx0 := hZ.bx.c0
  have hx1 := hZ.bx.c1
  have hx2 := hZ.bx.f0
  have hx3 := hZ.bx.f1
  have HZ : Hid _ := hZ
  clear hb hs hZ hS
  go_wp2
  refine bodyPost_ret (v := noTensor 4) (by simp [results, Tryz.results38, go_sem, (two_set HZ.out.bx.c0 HZ.out.bx.c1 _ _).1, (two_set HZ.out.bx.c0 HZ.out.bx.c1 _ _).2]) rfl ⟨rfl, ?_⟩
  exact bl_set (bl_set HZ.out.bl (by simp <;> omega) _) (by simp <;> omega) _

set_option maxHeartbeats 2000000 in
theorem pairs_yes (f n1 n2 c1 d1 c2 d2 m1 m2 : Nat) (a1 b1 a2 b2 : Option Addr) (zs : List Int) (xs : List ByteArray) (w : World)
    (hR1 : ∀ v, Below w.heap.size w v → Calls Tryz.prog 30 #[.agg #[.slice a1 m1 c1, .slice b1 n1 d1]] v fun e w' => e = .returned (.bool true) ∧ Below v.heap.size v w')
    (hR2 : ∀ v, Below w.heap.size w v → Calls Tryz.prog 30 #[.agg #[.slice a2 m2 c2, .slice b2 n2 d2]] v fun e w' => e = .returned (.bool true) ∧ Below v.heap.size v w')
    (hS : ∀ v, Below w.heap.size w v → Calls Tryz.prog 43 #[.slice a1 m1 c1, .slice a2 m2 c2] v fun e w' => e = .returned (.bool true) ∧ Sp.Sm v w')
    (hM : ∀ v, Below w.heap.size w v → v.cell? ⟨w.heap.size + 1 + 1, 0, none⟩ = some (.func (.func f) #[] #[]) → v.cell? ⟨w.heap.size, 1, none⟩ = some (.slice b1 n1 d1) → v.cell? ⟨w.heap.size + 1, 1, none⟩ = some (.slice b2 n2 d2) →
      Calls Tryz.prog 52 #[.agg #[.slice a1 m1 c1, .slice b1 n1 d1], .func (.func 64) #[] #[.pointer (some ⟨w.heap.size, 0, none⟩), .pointer (some ⟨w.heap.size + 1, 0, none⟩), .pointer (some ⟨w.heap.size + 1 + 1, 0, none⟩)]] v fun e v' => ∃ a3 c3 b3 d3, e = .returned (.agg #[.slice a3 m1 c3, .slice b3 n1 d3]) ∧ Tm v' v.heap.size a3 b3 zs xs ∧ Below v.heap.size v v') :
    Calls Tryz.prog 38 #[.agg #[.slice a1 m1 c1, .slice b1 n1 d1], .agg #[.slice a2 m2 c2, .slice b2 n2 d2], .func (.func f) #[] #[]] w fun e w' => ∃ a3 c3 b3 d3, e = .returned (.tuple #[.agg #[.slice a3 m1 c3, .slice b3 n1 d3], .int .i64 0]) ∧ Tm w' w.heap.size a3 b3 zs xs ∧ Below w.heap.size w w' := by
  have hZ := Pb.of (w := w) (x1 := .slice a1 m1 c1) (x2 := .slice b1 n1 d1) (y1 := .slice a2 m2 c2) (y2 := .slice b2 n2 d2) (g := .func (.func f) #[] #[]) (t := 59) (Below.refl _ _)
  have k0 := hZ.a0
  have k1 := hZ.a1
  have k2 := hZ.b0
  have k3 := hZ.b1
  have k4 := hZ.g0
  have hx0 := hZ.bx.c0
  have hx1 := hZ.bx.c1
  have hx2 := hZ.bx.f0
  have hx3 := hZ.bx.f1
  have HZ : Hid _ := hZ
  clear hZ
  go_enter Tryz.func38, Tryz.ntmps38
  go_wp2_with fail
  refine (hR1 _ HZ.out.bl).mono ?_
  rintro e w1 ⟨rfl, hb⟩
  have hZ := HZ.out.below hb
  clear HZ k0 k1 k2 k3 k4 hx0 hx1 hx2 hx3
  have k0 := hZ.a0
  have k1 := hZ.a1
  have k2 := hZ.b0
  have k3 := hZ.b1
  have k4 := hZ.g0
  have hx0 := hZ.bx.c0
  have hx1 := hZ.bx.c1
  have hx2 := hZ.bx.f0
  have hx3 := hZ.bx.f1
  have HZ : Hid _ := hZ
  clear hb hZ hR1
  go_wp2_with fail
  refine (hR2 _ HZ.out.bl).mono ?_
  rintro e w2 ⟨rfl, hb⟩
  have hZ := HZ.out.below hb
  clear HZ k0 k1 k2 k3 k4 hx0 hx1 hx2 hx3
  have k0 := hZ.a0
  have k1 := hZ.a1
  have k2 := hZ.b0
  have k3 := hZ.b1
  have k4 := hZ.g0
  have hx0 := hZ.bx.c0
  have hx1 := hZ.bx.c1
  have hx2 := hZ.bx.f0
  have hx3 := hZ.bx.f1
  have HZ : Hid _ := hZ
  clear hb hZ hR2
  go_wp2_with fail
  refine (hS _ HZ.out.bl).mono ?_
  rintro e w3 ⟨rfl, hs⟩
  have hb := hs.below w2.heap.size
  have hZ := HZ.out.below hb
  clear HZ k0 k1 k2 k3 k4 hx0 hx1 hx2 hx3
  have k0 := hZ.a0
  have k1 := hZ.a1
  have k2 := hZ.b0
  have k3 := hZ.b1
  have k4 := hZ.g0
  have hx0 := hZ.bx.c0
  have hx1 := hZ.bx.c1
  have hx2 := hZ.bx.f0
  have hx3 := hZ.bx.f1
  have HZ : Hid _ := hZ
  clear hb hs hZ hS
  have hc := hM _ HZ.out.bl k4 k1 k3
  clear hM
  go_wp2_with fail
  refine hc.mono ?_
  rintro e w5 ⟨a3, c3, b3, d3, rfl, hT, hb⟩
  have hZ := HZ.out.below hb
  have HT : Hid (Tm w5 (w.heap.size + 1 + 1 + 1 + 1) a3 b3 zs xs) := hT.mono (by have := HZ.out.bx.lt; omega)
  clear HZ hc k0 k1 k2 k3 k4 hb hT hx0 hx1 hx2 hx3
  have hx0 := hZ.bx.c0
  have hx1 := hZ.bx.c1
  have hx2 := hZ.bx.f0
  have hx3 := hZ.bx.f1
  have HZ : Hid _ := hZ
  clear hZ
  go_wp2
  refine bodyPost_ret (v := .tuple #[.agg #[.slice a3 m1 c3, .slice b3 n1 d3], .int .i64 0]) (by simp [results, Tryz.results38, go_sem, (two_set HZ.out.bx.c0 HZ.out.bx.c1 _ _).1, (two_set HZ.out.bx.c0 HZ.out.bx.c1 _ _).2]) rfl ⟨a3, c3, b3, d3, rfl, ?_, ?_⟩
  · exact ((HT.out.set (by simp) _).set (by simp) _).mono (by omega)
  · exact bl_set (bl_set HZ.out.bl (by simp <;> omega) _) (by simp <;> omega) _

set_option maxHeartbeats 2000000 in
theorem krelu_no (n1 c1 d1 m1 : Nat) (a1 b1 : Option Addr) (er : Int) (w : World)
    (hC : ∀ v, Below w.heap.size w v → Calls Tryz.prog 29 #[.int .i64 0, .agg #[.slice a1 m1 c1, .slice b1 n1 d1]] v fun e w' => e = .returned (noTensor er) ∧ Below v.heap.size v w') :
    Calls Tryz.prog 13 #[.agg #[.slice a1 m1 c1, .slice b1 n1 d1]] w fun e w' => e = .returned (noTensor er) ∧ Below w.heap.size w w' := by
  have hZ := Kd.of (w := w) (x1 := .slice a1 m1 c1) (x2 := .slice b1 n1 d1) (Below.refl _ _)
  have k0 := hZ.a0
  have k1 := hZ.a1
  have hx0 := hZ.bx.c0
  have hx1 := hZ.bx.c1
  have hx2 := hZ.bx.f0
  have hx3 := hZ.bx.f1
  have HZ : Hid _ := hZ
  clear hZ
  go_enter Tryz.func13, Tryz.ntmps13
  go_wp2_with fail
  refine (hC _ HZ.out.bl).mono ?_
  rintro e w1 ⟨rfl, hb⟩
  have hZ := HZ.out.below hb
  clear HZ k0 k1 hx0 hx1 hx2 hx3
  have k0 := hZ.a0
  have k1 := hZ.a1
  have hx0 := hZ.bx.c0
  have hx1 := hZ.bx.c1
  have hx2 := hZ.bx.f0
  have hx3 := hZ.bx.f1
  have HZ : Hid _ := hZ
  clear hb hZ hC
  go_wp2
  refine bodyPost_ret (v := noTensor er) (by simp [results, Tryz.results13, go_sem, (two_set HZ.out.bx.c0 HZ.out.bx.c1 _ _).1, (two_set HZ.out.bx.c0 HZ.out.bx.c1 _ _).2]) rfl ⟨rfl, ?_⟩
  exact bl_set (bl_set HZ.out.bl (by simp <;> omega) _) (by simp <;> omega) _

set_option maxHeartbeats 2000000 in
theorem krelu_yes (n1 c1 d1 m1 : Nat) (a1 b1 : Option Addr) (zs : List Int) (xs : List ByteArray) (w : World)
    (hC : ∀ v, Below w.heap.size w v → Calls Tryz.prog 29 #[.int .i64 0, .agg #[.slice a1 m1 c1, .slice b1 n1 d1]] v fun e v' => ∃ a3 c3 b3 d3, e = .returned (.tuple #[.agg #[.slice a3 m1 c3, .slice b3 n1 d3], .int .i64 0]) ∧ Tm v' v.heap.size a3 b3 zs xs ∧ Below v.heap.size v v') :
    Calls Tryz.prog 13 #[.agg #[.slice a1 m1 c1, .slice b1 n1 d1]] w fun e w' => ∃ a3 c3 b3 d3, e = .returned (.tuple #[.agg #[.slice a3 m1 c3, .slice b3 n1 d3], .int .i64 0]) ∧ Tm w' w.heap.size a3 b3 zs xs ∧ Below w.heap.size w w' := by
  have hZ := Kd.of (w := w) (x1 := .slice a1 m1 c1) (x2 := .slice b1 n1 d1) (Below.refl _ _)
  have k0 := hZ.a0
  have k1 := hZ.a1
  have hx0 := hZ.bx.c0
  have hx1 := hZ.bx.c1
  have hx2 := hZ.bx.f0
  have hx3 := hZ.bx.f1
  have HZ : Hid _ := hZ
  clear hZ
  go_enter Tryz.func13, Tryz.ntmps13
  go_wp2_with fail
  refine (hC _ HZ.out.bl).mono ?_
  rintro e w5 ⟨a3, c3, b3, d3, rfl, hT, hb⟩
  have hZ := HZ.out.below hb
  have HT : Hid (Tm w5 (w.heap.size + 1 + 1) a3 b3 zs xs) := hT.mono (by have := HZ.out.bx.lt; omega)
  clear HZ hC k0 k1 hb hT hx0 hx1 hx2 hx3
  have hx0 := hZ.bx.c0
  have hx1 := hZ.bx.c1
  have hx2 := hZ.bx.f0
  have hx3 := hZ.bx.f1
  have HZ : Hid _ := hZ
  clear hZ
  go_wp2
  refine bodyPost_ret (v := .tuple #[.agg #[.slice a3 m1 c3, .slice b3 n1 d3], .int .i64 0]) (by simp [results, Tryz.results13, go_sem, (two_set HZ.out.bx.c0 HZ.out.bx.c1 _ _).1, (two_set HZ.out.bx.c0 HZ.out.bx.c1 _ _).2]) rfl ⟨a3, c3, b3, d3, rfl, ?_, ?_⟩
  · exact ((HT.out.set (by simp) _).set (by simp) _).mono (by omega)
  · exact bl_set (bl_set HZ.out.bl (by simp <;> omega) _) (by simp <;> omega) _

set_option maxHeartbeats 2000000 in
theorem kabs_no (n1 c1 d1 m1 : Nat) (a1 b1 : Option Addr) (er : Int) (w : World)
    (hC : ∀ v, Below w.heap.size w v → Calls Tryz.prog 29 #[.int .i64 1, .agg #[.slice a1 m1 c1, .slice b1 n1 d1]] v fun e w' => e = .returned (noTensor er) ∧ Below v.heap.size v w') :
    Calls Tryz.prog 14 #[.agg #[.slice a1 m1 c1, .slice b1 n1 d1]] w fun e w' => e = .returned (noTensor er) ∧ Below w.heap.size w w' := by
  have hZ := Kd.of (w := w) (x1 := .slice a1 m1 c1) (x2 := .slice b1 n1 d1) (Below.refl _ _)
  have k0 := hZ.a0
  have k1 := hZ.a1
  have hx0 := hZ.bx.c0
  have hx1 := hZ.bx.c1
  have hx2 := hZ.bx.f0
  have hx3 := hZ.bx.f1
  have HZ : Hid _ := hZ
  clear hZ
  go_enter Tryz.func14, Tryz.ntmps14
  go_wp2_with fail
  refine (hC _ HZ.out.bl).mono ?_
  rintro e w1 ⟨rfl, hb⟩
  have hZ := HZ.out.below hb
  clear HZ k0 k1 hx0 hx1 hx2 hx3
  have k0 := hZ.a0
  have k1 := hZ.a1
  have hx0 := hZ.bx.c0
  have hx1 := hZ.bx.c1
  have hx2 := hZ.bx.f0
  have hx3 := hZ.bx.f1
  have HZ : Hid _ := hZ
  clear hb hZ hC
  go_wp2
  refine bodyPost_ret (v := noTensor er) (by simp [results, Tryz.results14, go_sem, (two_set HZ.out.bx.c0 HZ.out.bx.c1 _ _).1, (two_set HZ.out.bx.c0 HZ.out.bx.c1 _ _).2]) rfl ⟨rfl, ?_⟩
  exact bl_set (bl_set HZ.out.bl (by simp <;> omega) _) (by simp <;> omega) _

set_option maxHeartbeats 2000000 in
theorem kabs_yes (n1 c1 d1 m1 : Nat) (a1 b1 : Option Addr) (zs : List Int) (xs : List ByteArray) (w : World)
    (hC : ∀ v, Below w.heap.size w v → Calls Tryz.prog 29 #[.int .i64 1, .agg #[.slice a1 m1 c1, .slice b1 n1 d1]] v fun e v' => ∃ a3 c3 b3 d3, e = .returned (.tuple #[.agg #[.slice a3 m1 c3, .slice b3 n1 d3], .int .i64 0]) ∧ Tm v' v.heap.size a3 b3 zs xs ∧ Below v.heap.size v v') :
    Calls Tryz.prog 14 #[.agg #[.slice a1 m1 c1, .slice b1 n1 d1]] w fun e w' => ∃ a3 c3 b3 d3, e = .returned (.tuple #[.agg #[.slice a3 m1 c3, .slice b3 n1 d3], .int .i64 0]) ∧ Tm w' w.heap.size a3 b3 zs xs ∧ Below w.heap.size w w' := by
  have hZ := Kd.of (w := w) (x1 := .slice a1 m1 c1) (x2 := .slice b1 n1 d1) (Below.refl _ _)
  have k0 := hZ.a0
  have k1 := hZ.a1
  have hx0 := hZ.bx.c0
  have hx1 := hZ.bx.c1
  have hx2 := hZ.bx.f0
  have hx3 := hZ.bx.f1
  have HZ : Hid _ := hZ
  clear hZ
  go_enter Tryz.func14, Tryz.ntmps14
  go_wp2_with fail
  refine (hC _ HZ.out.bl).mono ?_
  rintro e w5 ⟨a3, c3, b3, d3, rfl, hT, hb⟩
  have hZ := HZ.out.below hb
  have HT : Hid (Tm w5 (w.heap.size + 1 + 1) a3 b3 zs xs) := hT.mono (by have := HZ.out.bx.lt; omega)
  clear HZ hC k0 k1 hb hT hx0 hx1 hx2 hx3
  have hx0 := hZ.bx.c0
  have hx1 := hZ.bx.c1
  have hx2 := hZ.bx.f0
  have hx3 := hZ.bx.f1
  have HZ : Hid _ := hZ
  clear hZ
  go_wp2
  refine bodyPost_ret (v := .tuple #[.agg #[.slice a3 m1 c3, .slice b3 n1 d3], .int .i64 0]) (by simp [results, Tryz.results14, go_sem, (two_set HZ.out.bx.c0 HZ.out.bx.c1 _ _).1, (two_set HZ.out.bx.c0 HZ.out.bx.c1 _ _).2]) rfl ⟨a3, c3, b3, d3, rfl, ?_, ?_⟩
  · exact ((HT.out.set (by simp) _).set (by simp) _).mono (by omega)
  · exact bl_set (bl_set HZ.out.bl (by simp <;> omega) _) (by simp <;> omega) _

set_option maxHeartbeats 2000000 in
theorem kstep_no (n1 c1 d1 m1 : Nat) (a1 b1 : Option Addr) (er : Int) (w : World)
    (hC : ∀ v, Below w.heap.size w v → Calls Tryz.prog 29 #[.int .i64 2, .agg #[.slice a1 m1 c1, .slice b1 n1 d1]] v fun e w' => e = .returned (noTensor er) ∧ Below v.heap.size v w') :
    Calls Tryz.prog 15 #[.agg #[.slice a1 m1 c1, .slice b1 n1 d1]] w fun e w' => e = .returned (noTensor er) ∧ Below w.heap.size w w' := by
  have hZ := Kd.of (w := w) (x1 := .slice a1 m1 c1) (x2 := .slice b1 n1 d1) (Below.refl _ _)
  have k0 := hZ.a0
  have k1 := hZ.a1
  have hx0 := hZ.bx.c0
  have hx1 := hZ.bx.c1
  have hx2 := hZ.bx.f0
  have hx3 := hZ.bx.f1
  have HZ : Hid _ := hZ
  clear hZ
  go_enter Tryz.func15, Tryz.ntmps15
  go_wp2_with fail
  refine (hC _ HZ.out.bl).mono ?_
  rintro e w1 ⟨rfl, hb⟩
  have hZ := HZ.out.below hb
  clear HZ k0 k1 hx0 hx1 hx2 hx3
  have k0 := hZ.a0
  have k1 := hZ.a1
  have hx0 := hZ.bx.c0
  have hx1 := hZ.bx.c1
  have hx2 := hZ.bx.f0
  have hx3 := hZ.bx.f1
  have HZ : Hid _ := hZ
  clear hb hZ hC
  go_wp2
  refine bodyPost_ret (v := noTensor er) (by simp [results, Tryz.results15, go_sem, (two_set HZ.out.bx.c0 HZ.out.bx.c1 _ _).1, (two_set HZ.out.bx.c0 HZ.out.bx.c1 _ _).2]) rfl ⟨rfl, ?_⟩
  exact bl_set (bl_set HZ.out.bl (by simp <;> omega) _) (by simp <;> omega) _

set_option maxHeartbeats 2000000 in
theorem kstep_yes (n1 c1 d1 m1 : Nat) (a1 b1 : Option Addr) (zs : List Int) (xs : List ByteArray) (w : World)
    (hC : ∀ v, Below w.heap.size w v → Calls Tryz.prog 29 #[.int .i64 2, .agg #[.slice a1 m1 c1, .slice b1 n1 d1]] v fun e v' => ∃ a3 c3 b3 d3, e = .returned (.tuple #[.agg #[.slice a3 m1 c3, .slice b3 n1 d3], .int .i64 0]) ∧ Tm v' v.heap.size a3 b3 zs xs ∧ Below v.heap.size v v') :
    Calls Tryz.prog 15 #[.agg #[.slice a1 m1 c1, .slice b1 n1 d1]] w fun e w' => ∃ a3 c3 b3 d3, e = .returned (.tuple #[.agg #[.slice a3 m1 c3, .slice b3 n1 d3], .int .i64 0]) ∧ Tm w' w.heap.size a3 b3 zs xs ∧ Below w.heap.size w w' := by
  have hZ := Kd.of (w := w) (x1 := .slice a1 m1 c1) (x2 := .slice b1 n1 d1) (Below.refl _ _)
  have k0 := hZ.a0
  have k1 := hZ.a1
  have hx0 := hZ.bx.c0
  have hx1 := hZ.bx.c1
  have hx2 := hZ.bx.f0
  have hx3 := hZ.bx.f1
  have HZ : Hid _ := hZ
  clear hZ
  go_enter Tryz.func15, Tryz.ntmps15
  go_wp2_with fail
  refine (hC _ HZ.out.bl).mono ?_
  rintro e w5 ⟨a3, c3, b3, d3, rfl, hT, hb⟩
  have hZ := HZ.out.below hb
  have HT : Hid (Tm w5 (w.heap.size + 1 + 1) a3 b3 zs xs) := hT.mono (by have := HZ.out.bx.lt; omega)
  clear HZ hC k0 k1 hb hT hx0 hx1 hx2 hx3
  have hx0 := hZ.bx.c0
  have hx1 := hZ.bx.c1
  have hx2 := hZ.bx.f0
  have hx3 := hZ.bx.f1
  have HZ : Hid _ := hZ
  clear hZ
  go_wp2
  refine bodyPost_ret (v := .tuple #[.agg #[.slice a3 m1 c3, .slice b3 n1 d3], .int .i64 0]) (by simp [results, Tryz.results15, go_sem, (two_set HZ.out.bx.c0 HZ.out.bx.c1 _ _).1, (two_set HZ.out.bx.c0 HZ.out.bx.c1 _ _).2]) rfl ⟨a3, c3, b3, d3, rfl, ?_, ?_⟩
  · exact ((HT.out.set (by simp) _).set (by simp) _).mono (by omega)
  · exact bl_set (bl_set HZ.out.bl (by simp <;> omega) _) (by simp <;> omega) _

set_option maxHeartbeats 2000000 in
theorem ksign_no (n1 c1 d1 m1 : Nat) (a1 b1 : Option Addr) (er : Int) (w : World)
    (hC : ∀ v, Below w.heap.size w v → Calls Tryz.prog 29 #[.int .i64 3, .agg #[.slice a1 m1 c1, .slice b1 n1 d1]] v fun e w' => e = .returned (noTensor er) ∧ Below v.heap.size v w') :
    Calls Tryz.prog 16 #[.agg #[.slice a1 m1 c1, .slice b1 n1 d1]] w fun e w' => e = .returned (noTensor er) ∧ Below w.heap.size w w' := by
  have hZ := Kd.of (w := w) (x1 := .slice a1 m1 c1) (x2 := .slice b1 n1 d1) (Below.refl _ _)
  have k0 := hZ.a0
  have k1 := hZ.a1
  have hx0 := hZ.bx.c0
  have hx1 := hZ.bx.c1
  have hx2 := hZ.bx.f0
  have hx3 := hZ.bx.f1
  have HZ : Hid _ := hZ
  clear hZ
  go_enter Tryz.func16, Tryz.ntmps16
  go_wp2_with fail
  refine (hC _ HZ.out.bl).mono ?_
  rintro e w1 ⟨rfl, hb⟩
  have hZ := HZ.out.below hb
  clear HZ k0 k1 hx0 hx1 hx2 hx3
  have k0 := hZ.a0
  have k1 := hZ.a1
  have hx0 := hZ.bx.c0
  have hx1 := hZ.bx.c1
  have hx2 := hZ.bx.f0
  have hx3 := hZ.bx.f1
  have HZ : Hid _ := hZ
  clear hb hZ hC
  go_wp2
  refine bodyPost_ret (v := noTensor er) (by simp [results, Tryz.results16, go_sem, (two_set HZ.out.bx.c0 HZ.out.bx.c1 _ _).1, (two_set HZ.out.bx.c0 HZ.out.bx.c1 _ _).2]) rfl ⟨rfl, ?_⟩
  exact bl_set (bl_set HZ.out.bl (by simp <;> omega) _) (by simp <;> omega) _

set_option maxHeartbeats 2000000 in
theorem ksign_yes (n1 c1 d1 m1 : Nat) (a1 b1 : Option Addr) (zs : List Int) (xs : List ByteArray) (w : World)
    (hC : ∀ v, Below w.heap.size w v → Calls Tryz.prog 29 #[.int .i64 3, .agg #[.slice a1 m1 c1, .slice b1 n1 d1]] v fun e v' => ∃ a3 c3 b3 d3, e = .returned (.tuple #[.agg #[.slice a3 m1 c3, .slice b3 n1 d3], .int .i64 0]) ∧ Tm v' v.heap.size a3 b3 zs xs ∧ Below v.heap.size v v') :
    Calls Tryz.prog 16 #[.agg #[.slice a1 m1 c1, .slice b1 n1 d1]] w fun e w' => ∃ a3 c3 b3 d3, e = .returned (.tuple #[.agg #[.slice a3 m1 c3, .slice b3 n1 d3], .int .i64 0]) ∧ Tm w' w.heap.size a3 b3 zs xs ∧ Below w.heap.size w w' := by
  have hZ := Kd.of (w := w) (x1 := .slice a1 m1 c1) (x2 := .slice b1 n1 d1) (Below.refl _ _)
  have k0 := hZ.a0
  have k1 := hZ.a1
  have hx0 := hZ.bx.c0
  have hx1 := hZ.bx.c1
  have hx2 := hZ.bx.f0
  have hx3 := hZ.bx.f1
  have HZ : Hid _ := hZ
  clear hZ
  go_enter Tryz.func16, Tryz.ntmps16
  go_wp2_with fail
  refine (hC _ HZ.out.bl).mono ?_
  rintro e w5 ⟨a3, c3, b3, d3, rfl, hT, hb⟩
  have hZ := HZ.out.below hb
  have HT : Hid (Tm w5 (w.heap.size + 1 + 1) a3 b3 zs xs) := hT.mono (by have := HZ.out.bx.lt; omega)
  clear HZ hC k0 k1 hb hT hx0 hx1 hx2 hx3
  have hx0 := hZ.bx.c0
  have hx1 := hZ.bx.c1
  have hx2 := hZ.bx.f0
  have hx3 := hZ.bx.f1
  have HZ : Hid _ := hZ
  clear hZ
  go_wp2
  refine bodyPost_ret (v := .tuple #[.agg #[.slice a3 m1 c3, .slice b3 n1 d3], .int .i64 0]) (by simp [results, Tryz.results16, go_sem, (two_set HZ.out.bx.c0 HZ.out.bx.c1 _ _).1, (two_set HZ.out.bx.c0 HZ.out.bx.c1 _ _).2]) rfl ⟨a3, c3, b3, d3, rfl, ?_, ?_⟩
  · exact ((HT.out.set (by simp) _).set (by simp) _).mono (by omega)
  · exact bl_set (bl_set HZ.out.bl (by simp <;> omega) _) (by simp <;> omega) _

set_option maxHeartbeats 2000000 in
theorem kmax_no (n1 n2 c1 d1 c2 d2 m1 m2 : Nat) (a1 b1 a2 b2 : Option Addr) (er : Int) (w : World)
    (hC : ∀ v, Below w.heap.size w v → Calls Tryz.prog 38 #[.agg #[.slice a1 m1 c1, .slice b1 n1 d1], .agg #[.slice a2 m2 c2, .slice b2 n2 d2], .func (.func 39) #[] #[]] v fun e w' => e = .returned (noTensor er) ∧ Below v.heap.size v w') :
    Calls Tryz.prog 21 #[.agg #[.slice a1 m1 c1, .slice b1 n1 d1], .agg #[.slice a2 m2 c2, .slice b2 n2 d2]] w fun e w' => e = .returned (noTensor er) ∧ Below w.heap.size w w' := by
  have hZ := Zb.of (w := w) (x1 := .slice a1 m1 c1) (x2 := .slice b1 n1 d1) (y1 := .slice a2 m2 c2) (y2 := .slice b2 n2 d2) (Below.refl _ _)
  have k0 := hZ.a0
  have k1 := hZ.a1
  have k2 := hZ.b0
  have k3 := hZ.b1
  have hx0 := hZ.bx.c0
  have hx1 := hZ.bx.c1
  have hx2 := hZ.bx.f0
  have hx3 := hZ.bx.f1
  have HZ : Hid _ := hZ
  clear hZ
  go_enter Tryz.func21, Tryz.ntmps21
  go_wp2_with fail
  refine (hC _ HZ.out.bl).mono ?_
  rintro e w1 ⟨rfl, hb⟩
  have hZ := HZ.out.below hb
  clear HZ k0 k1 k2 k3 hx0 hx1 hx2 hx3
  have k0 := hZ.a0
  have k1 := hZ.a1
  have k2 := hZ.b0
  have k3 := hZ.b1
  have hx0 := hZ.bx.c0
  have hx1 := hZ.bx.c1
  have hx2 := hZ.bx.f0
  have hx3 := hZ.bx.f1
  have HZ : Hid _ := hZ
  clear hb hZ hC
  go_wp2
  refine bodyPost_ret (v := noTensor er) (by simp [results, Tryz.results21, go_sem, (two_set HZ.out.bx.c0 HZ.out.bx.c1 _ _).1, (two_set HZ.out.bx.c0 HZ.out.bx.c1 _ _).2]) rfl ⟨rfl, ?_⟩
  exact bl_set (bl_set HZ.out.bl (by simp <;> omega) _) (by simp <;> omega) _

set_option maxHeartbeats 2000000 in
theorem kmax_yes (n1 n2 c1 d1 c2 d2 m1 m2 : Nat) (a1 b1 a2 b2 : Option Addr) (zs : List Int) (xs : List ByteArray) (w : World)
    (hC : ∀ v, Below w.heap.size w v → Calls Tryz.prog 38 #[.agg #[.slice a1 m1 c1, .slice b1 n1 d1], .agg #[.slice a2 m2 c2, .slice b2 n2 d2], .func (.func 39) #[] #[]] v fun e v' => ∃ a3 c3 b3 d3, e = .returned (.tuple #[.agg #[.slice a3 m1 c3, .slice b3 n1 d3], .int .i64 0]) ∧ Tm v' v.heap.size a3 b3 zs xs ∧ Below v.heap.size v v') :
    Calls Tryz.prog 21 #[.agg #[.slice a1 m1 c1, .slice b1 n1 d1], .agg #[.slice a2 m2 c2, .slice b2 n2 d2]] w fun e w' => ∃ a3 c3 b3 d3, e = .returned (.tuple #[.agg #[.slice a3 m1 c3, .slice b3 n1 d3], .int .i64 0]) ∧ Tm w' w.heap.size a3 b3 zs xs ∧ Below w.heap.size w w' := by
  have hZ := Zb.of (w := w) (x1 := .slice a1 m1 c1) (x2 := .slice b1 n1 d1) (y1 := .slice a2 m2 c2) (y2 := .slice b2 n2 d2) (Below.refl _ _)
  have k0 := hZ.a0
  have k1 := hZ.a1
  have k2 := hZ.b0
  have k3 := hZ.b1
  have hx0 := hZ.bx.c0
  have hx1 := hZ.bx.c1
  have hx2 := hZ.bx.f0
  have hx3 := hZ.bx.f1
  have HZ : Hid _ := hZ
  clear hZ
  go_enter Tryz.func21, Tryz.ntmps21
  go_wp2_with fail
  refine (hC _ HZ.out.bl).mono ?_
  rintro e w5 ⟨a3, c3, b3, d3, rfl, hT, hb⟩
  have hZ := HZ.out.below hb
  have HT : Hid (Tm w5 (w.heap.size + 1 + 1 + 1) a3 b3 zs xs) := hT.mono (by have := HZ.out.bx.lt; omega)
  clear HZ hC k0 k1 k2 k3 hb hT hx0 hx1 hx2 hx3
  have hx0 := hZ.bx.c0
  have hx1 := hZ.bx.c1
  have hx2 := hZ.bx.f0
  have hx3 := hZ.bx.f1
  have HZ : Hid _ := hZ
  clear hZ
  go_wp2
  refine bodyPost_ret (v := .tuple #[.agg #[.slice a3 m1 c3, .slice b3 n1 d3], .int .i64 0]) (by simp [results, Tryz.results21, go_sem, (two_set HZ.out.bx.c0 HZ.out.bx.c1 _ _).1, (two_set HZ.out.bx.c0 HZ.out.bx.c1 _ _).2]) rfl ⟨a3, c3, b3, d3, rfl, ?_, ?_⟩
  · exact ((HT.out.set (by simp) _).set (by simp) _).mono (by omega)
  · exact bl_set (bl_set HZ.out.bl (by simp <;> omega) _) (by simp <;> omega) _

set_option maxHeartbeats 2000000 in
theorem kabove_no (n1 n2 c1 d1 c2 d2 m1 m2 : Nat) (a1 b1 a2 b2 : Option Addr) (er : Int) (w : World)
    (hC : ∀ v, Below w.heap.size w v → Calls Tryz.prog 38 #[.agg #[.slice a1 m1 c1, .slice b1 n1 d1], .agg #[.slice a2 m2 c2, .slice b2 n2 d2], .func (.func 40) #[] #[]] v fun e w' => e = .returned (noTensor er) ∧ Below v.heap.size v w') :
    Calls Tryz.prog 22 #[.agg #[.slice a1 m1 c1, .slice b1 n1 d1], .agg #[.slice a2 m2 c2, .slice b2 n2 d2]] w fun e w' => e = .returned (noTensor er) ∧ Below w.heap.size w w' := by
  have hZ := Zb.of (w := w) (x1 := .slice a1 m1 c1) (x2 := .slice b1 n1 d1) (y1 := .slice a2 m2 c2) (y2 := .slice b2 n2 d2) (Below.refl _ _)
  have k0 := hZ.a0
  have k1 := hZ.a1
  have k2 := hZ.b0
  have k3 := hZ.b1
  have hx0 := hZ.bx.c0
  have hx1 := hZ.bx.c1
  have hx2 := hZ.bx.f0
  have hx3 := hZ.bx.f1
  have HZ : Hid _ := hZ
  clear hZ
  go_enter Tryz.func22, Tryz.ntmps22
  go_wp2_with fail
  refine (hC _ HZ.out.bl).mono ?_
  rintro e w1 ⟨rfl, hb⟩
  have hZ := HZ.out.below hb
  clear HZ k0 k1 k2 k3 hx0 hx1 hx2 hx3
  have k0 := hZ.a0
  have k1 := hZ.a1
  have k2 := hZ.b0
  have k3 := hZ.b1
  have hx0 := hZ.bx.c0
  have hx1 := hZ.bx.c1
  have hx2 := hZ.bx.f0
  have hx3 := hZ.bx.f1
  have HZ : Hid _ := hZ
  clear hb hZ hC
  go_wp2
  refine bodyPost_ret (v := noTensor er) (by simp [results, Tryz.results22, go_sem, (two_set HZ.out.bx.c0 HZ.out.bx.c1 _ _).1, (two_set HZ.out.bx.c0 HZ.out.bx.c1 _ _).2]) rfl ⟨rfl, ?_⟩
  exact bl_set (bl_set HZ.out.bl (by simp <;> omega) _) (by simp <;> omega) _

set_option maxHeartbeats 2000000 in
theorem kabove_yes (n1 n2 c1 d1 c2 d2 m1 m2 : Nat) (a1 b1 a2 b2 : Option Addr) (zs : List Int) (xs : List ByteArray) (w : World)
    (hC : ∀ v, Below w.heap.size w v → Calls Tryz.prog 38 #[.agg #[.slice a1 m1 c1, .slice b1 n1 d1], .agg #[.slice a2 m2 c2, .slice b2 n2 d2], .func (.func 40) #[] #[]] v fun e v' => ∃ a3 c3 b3 d3, e = .returned (.tuple #[.agg #[.slice a3 m1 c3, .slice b3 n1 d3], .int .i64 0]) ∧ Tm v' v.heap.size a3 b3 zs xs ∧ Below v.heap.size v v') :
    Calls Tryz.prog 22 #[.agg #[.slice a1 m1 c1, .slice b1 n1 d1], .agg #[.slice a2 m2 c2, .slice b2 n2 d2]] w fun e w' => ∃ a3 c3 b3 d3, e = .returned (.tuple #[.agg #[.slice a3 m1 c3, .slice b3 n1 d3], .int .i64 0]) ∧ Tm w' w.heap.size a3 b3 zs xs ∧ Below w.heap.size w w' := by
  have hZ := Zb.of (w := w) (x1 := .slice a1 m1 c1) (x2 := .slice b1 n1 d1) (y1 := .slice a2 m2 c2) (y2 := .slice b2 n2 d2) (Below.refl _ _)
  have k0 := hZ.a0
  have k1 := hZ.a1
  have k2 := hZ.b0
  have k3 := hZ.b1
  have hx0 := hZ.bx.c0
  have hx1 := hZ.bx.c1
  have hx2 := hZ.bx.f0
  have hx3 := hZ.bx.f1
  have HZ : Hid _ := hZ
  clear hZ
  go_enter Tryz.func22, Tryz.ntmps22
  go_wp2_with fail
  refine (hC _ HZ.out.bl).mono ?_
  rintro e w5 ⟨a3, c3, b3, d3, rfl, hT, hb⟩
  have hZ := HZ.out.below hb
  have HT : Hid (Tm w5 (w.heap.size + 1 + 1 + 1) a3 b3 zs xs) := hT.mono (by have := HZ.out.bx.lt; omega)
  clear HZ hC k0 k1 k2 k3 hb hT hx0 hx1 hx2 hx3
  have hx0 := hZ.bx.c0
  have hx1 := hZ.bx.c1
  have hx2 := hZ.bx.f0
  have hx3 := hZ.bx.f1
  have HZ : Hid _ := hZ
  clear hZ
  go_wp2
  refine bodyPost_ret (v := .tuple #[.agg #[.slice a3 m1 c3, .slice b3 n1 d3], .int .i64 0]) (by simp [results, Tryz.results22, go_sem, (two_set HZ.out.bx.c0 HZ.out.bx.c1 _ _).1, (two_set HZ.out.bx.c0 HZ.out.bx.c1 _ _).2]) rfl ⟨a3, c3, b3, d3, rfl, ?_, ?_⟩
  · exact ((HT.out.set (by simp) _).set (by simp) _).mono (by omega)
  · exact bl_set (bl_set HZ.out.bl (by simp <;> omega) _) (by simp <;> omega) _
end Go.Proofs.YtjkobbpebnkimaaGreatDoor.Tn
