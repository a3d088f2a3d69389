/-
  SCALED TENSORS, POWERS, WHAT IS FILLED, SUMS: what calls of tensor.Scale, Power, Fill and Sum give, step by step. Conditions: each theorem's own.
-/
import Derived.Test.YtjkobbpebnkimaaGreatDoorZp
namespace Go.Proofs.YtjkobbpebnkimaaGreatDoor.Tn
set_option maxRecDepth 100000
open Go.RowKit Nm
set_option linter.unusedVariables false

/-- own blocks: a tensor, one cell more, and the answer's place -/
structure Sb (w v : World) (x1 x2 y : Value) : Prop where
  a0 : v.cell? ⟨w.heap.size, 0, none⟩ = some x1
  a1 : v.cell? ⟨w.heap.size, 1, none⟩ = some x2
  b0 : v.cell? ⟨w.heap.size + 1, 0, none⟩ = some y
  bx : Bx v (w.heap.size + 1 + 1)
  bl : Below w.heap.size w v
theorem Sb.of {w v : World} {x1 x2 y : Value} {t : TypeId} (h : Below (((w.alloc (.cells #[x1, x2] 25)).alloc (.cells #[y] t)).alloc (.cells #[.slice none 0 0, .slice none 0 0] 25)).heap.size (((w.alloc (.cells #[x1, x2] 25)).alloc (.cells #[y] t)).alloc (.cells #[.slice none 0 0, .slice none 0 0] 25)) v) : Sb w v x1 x2 y := by
  have k := own3 h
  exact ⟨k.1 0, k.1 1, k.2.1 0, ⟨k.2.2.1 0, k.2.2.1 1, k.2.2.2.1 0, k.2.2.2.1 1⟩, k.2.2.2.2⟩
theorem Sb.below {w v u : World} {x1 x2 y : Value} (h : Sb w v x1 x2 y) (k : Below v.heap.size v u) : Sb w u x1 x2 y :=
  ⟨cell_below k h.a0, cell_below k h.a1, cell_below k h.b0, h.bx.below k, bl_trans h.bl k⟩
/-- own blocks: one cell, and the answer's place -/
structure Fb (w v : World) (y : Value) : Prop where
  b0 : v.cell? ⟨w.heap.size, 0, none⟩ = some y
  bx : Bx v (w.heap.size + 1)
  bl : Below w.heap.size w v
theorem Fb.of {w v : World} {y : Value} {t : TypeId} (h : Below ((w.alloc (.cells #[y] t)).alloc (.cells #[.slice none 0 0, .slice none 0 0] 25)).heap.size ((w.alloc (.cells #[y] t)).alloc (.cells #[.slice none 0 0, .slice none 0 0] 25)) v) : Fb w v y := by
  have k := own2 h
  exact ⟨k.1 0, ⟨k.2.1 0, k.2.1 1, k.2.2.2.1 0, k.2.2.2.1 1⟩, k.2.2.2.2⟩
theorem Fb.below {w v u : World} {y : Value} (h : Fb w v y) (k : Below v.heap.size v u) : Fb w u y :=
  ⟨cell_below k h.b0, h.bx.below k, bl_trans h.bl k⟩

set_option maxHeartbeats 2000000 in
theorem fill_s_no (n1 c1 d1 m1 : Nat) (a1 b1 : Option Addr) (y : ByteArray) (w : World)
    (hR1 : ∀ v, Below w.heap.size w v → Calls Tryz.prog 46 #[.slice a1 m1 c1] v fun e w' => e = .returned (.bool false) ∧ w' = v) :
    Calls Tryz.prog 26 #[.slice a1 m1 c1, .string y] w fun e w' => e = .returned (noTensor 1) ∧ Below w.heap.size w w' := by
  have hZ : Fb w ((w.alloc (.cells #[.string y] 9)).alloc (.cells #[.slice none 0 0, .slice none 0 0] 25)) (.string y) := Fb.of (Below.refl _ _)
  have k0 := hZ.b0
  have HZ : Hid _ := hZ
  clear hZ
  go_enter Tryz.func26, Tryz.ntmps26
  go_wp2_with fail
  refine (hR1 _ HZ.out.bl).mono ?_
  rintro e w2 ⟨rfl, rfl⟩
  clear hR1
  go_wp2
  refine bodyPost_ret (v := noTensor 1) (by simp [results, Tryz.results26, go_sem]) rfl ⟨rfl, ?_⟩
  exact HZ.out.bl

set_option maxHeartbeats 2000000 in
theorem fill_k_no (n1 c1 d1 m1 : Nat) (a1 b1 : Option Addr) (y : ByteArray) (w : World)
    (hR1 : ∀ v, Below w.heap.size w v → Calls Tryz.prog 46 #[.slice a1 m1 c1] v fun e w' => e = .returned (.bool true) ∧ w' = v)
    (hR2 : ∀ v, Below w.heap.size w v → Calls Tryz.prog 47 #[.string y] v fun e w' => e = .returned (.bool false) ∧ Below v.heap.size v w') :
    Calls Tryz.prog 26 #[.slice a1 m1 c1, .string y] w fun e w' => e = .returned (noTensor 1) ∧ Below w.heap.size w w' := by
  have hZ : Fb w ((w.alloc (.cells #[.string y] 9)).alloc (.cells #[.slice none 0 0, .slice none 0 0] 25)) (.string y) := Fb.of (Below.refl _ _)
  have k0 := hZ.b0
  have HZ : Hid _ := hZ
  clear hZ
  go_enter Tryz.func26, Tryz.ntmps26
  go_wp2_with fail
  refine (hR1 _ HZ.out.bl).mono ?_
  rintro e w2 ⟨rfl, rfl⟩
  clear hR1
  go_wp2_with fail
  refine (hR2 _ HZ.out.bl).mono ?_
  rintro e w3 ⟨rfl, hb⟩
  have hZ := HZ.out.below hb
  clear HZ k0
  have k0 := hZ.b0
  have hx0 := hZ.bx.c0
  have hx1 := hZ.bx.c1
  have hx2 := hZ.bx.f0
  have hx3 := hZ.bx.f1
  have HZ : Hid _ := hZ
  clear hb hZ hR2
  go_wp2
  refine bodyPost_ret (v := noTensor 1) (by simp [results, Tryz.results26, go_sem, (two_set HZ.out.bx.c0 HZ.out.bx.c1 _ _).1, (two_set HZ.out.bx.c0 HZ.out.bx.c1 _ _).2]) rfl ⟨rfl, ?_⟩
  exact bl_set (bl_set HZ.out.bl (by simp <;> omega) _) (by simp <;> omega) _

set_option maxHeartbeats 2000000 in
theorem fill_yes (n1 c1 d1 m1 : Nat) (a1 b1 : Option Addr) (y : ByteArray) (zs : List Int) (xs : List ByteArray) (w : World)
    (hR1 : ∀ v, Below w.heap.size w v → Calls Tryz.prog 46 #[.slice a1 m1 c1] v fun e w' => e = .returned (.bool true) ∧ w' = v)
    (hR2 : ∀ v, Below w.heap.size w v → Calls Tryz.prog 47 #[.string y] v fun e w' => e = .returned (.bool true) ∧ Below v.heap.size v w')
    (hM : ∀ v, Below w.heap.size w v → v.cell? ⟨w.heap.size, 0, none⟩ = some (.string y) →
      Calls Tryz.prog 44 #[.slice a1 m1 c1, .func (.func 48) #[] #[.pointer (some ⟨w.heap.size, 0, none⟩)]] v fun e v' => ∃ a3 c3 b3 d3, e = .returned (.tuple #[.agg #[.slice a3 m1 c3, .slice b3 n1 d3], .int .i64 0]) ∧ Tm v' v.heap.size a3 b3 zs xs ∧ Below v.heap.size v v') :
    Calls Tryz.prog 26 #[.slice a1 m1 c1, .string y] w fun e w' => ∃ a3 c3 b3 d3, e = .returned (.tuple #[.agg #[.slice a3 m1 c3, .slice b3 n1 d3], .int .i64 0]) ∧ Tm w' w.heap.size a3 b3 zs xs ∧ Below w.heap.size w w' := by
  have hZ : Fb w ((w.alloc (.cells #[.string y] 9)).alloc (.cells #[.slice none 0 0, .slice none 0 0] 25)) (.string y) := Fb.of (Below.refl _ _)
  have k0 := hZ.b0
  have HZ : Hid _ := hZ
  clear hZ
  go_enter Tryz.func26, Tryz.ntmps26
  go_wp2_with fail
  refine (hR1 _ HZ.out.bl).mono ?_
  rintro e w2 ⟨rfl, rfl⟩
  clear hR1
  go_wp2_with fail
  refine (hR2 _ HZ.out.bl).mono ?_
  rintro e w3 ⟨rfl, hb⟩
  have hZ := HZ.out.below hb
  clear HZ k0
  have k0 := hZ.b0
  have HZ : Hid _ := hZ
  clear hb hZ hR2
  have hc := hM _ HZ.out.bl k0
  clear hM
  go_wp2_with fail
  refine hc.mono ?_
  rintro e w5 ⟨a3, c3, b3, d3, rfl, hT, hb⟩
  have hZ := HZ.out.below hb
  have HT : Hid (Tm w5 (w.heap.size + 1 + 1) a3 b3 zs xs) := hT.mono (by have := HZ.out.bx.lt; omega)
  clear HZ hc k0 hb hT
  have k0 := hZ.b0
  have hx0 := hZ.bx.c0
  have hx1 := hZ.bx.c1
  have hx2 := hZ.bx.f0
  have hx3 := hZ.bx.f1
  have HZ : Hid _ := hZ
  clear hZ
  go_wp2
  refine bodyPost_ret (v := .tuple #[.agg #[.slice a3 m1 c3, .slice b3 n1 d3], .int .i64 0]) (by simp [results, Tryz.results26, go_sem, (two_set HZ.out.bx.c0 HZ.out.bx.c1 _ _).1, (two_set HZ.out.bx.c0 HZ.out.bx.c1 _ _).2]) rfl ⟨a3, c3, b3, d3, rfl, ?_, ?_⟩
  · exact ((HT.out.set (by simp) _).set (by simp) _).mono (by omega)
  · exact bl_set (bl_set HZ.out.bl (by simp <;> omega) _) (by simp <;> omega) _
end Go.Proofs.YtjkobbpebnkimaaGreatDoor.Tn
