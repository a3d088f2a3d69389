/-
  ZIPS: what a call of tensor.Zip gives, step by step. Conditions: each theorem's own.
-/
import Derived.Test.YtjkobbpebnkimaaGreatDoorCl
namespace Go.Proofs.YtjkobbpebnkimaaGreatDoor.Tn
set_option maxRecDepth 100000
open Go.RowKit Nm
set_option linter.unusedVariables false

theorem run_store_func (f : Nat) (w : World) : (store ⟨w.heap.size, 0, none⟩ (.func (.func f) #[] #[])).run Tryz.prog (w.alloc (.cells #[.nilFunc] 62)) = .ok () ((w.alloc (.cells #[.nilFunc] 62)).setCell ⟨w.heap.size, 0, none⟩ (.func (.func f) #[] #[])) := by
  rw [run_store Tryz.prog _ _ _ _ (by rfl)]
  simp
theorem run_store_nil (w : World) : (store ⟨w.heap.size, 0, none⟩ .nilFunc).run Tryz.prog (w.alloc (.cells #[.nilFunc] 62)) = .ok () ((w.alloc (.cells #[.nilFunc] 62)).setCell ⟨w.heap.size, 0, none⟩ .nilFunc) := by
  rw [run_store Tryz.prog _ _ _ _ (by rfl)]
  simp
theorem zero58 (w : World) : (zeroValue 62).run Tryz.prog w = .ok .nilFunc w := by kernel_rfl
theorem operations_at (w : World) (B : Nat) (hB : w.heap.size = B) : Calls Tryz.prog 42 #[] w fun e w' => e = .returned (.map (some B)) ∧ w'.heap[B]? = some (.map opsMap 3) ∧ Below w.heap.size w w' := by
  subst hB; exact operations_any w

/-- Zip's own blocks: both arguments, and the answer's place -/
structure Zb (w v : World) (x1 x2 y1 y2 : Value) : Prop where
  a0 : v.cell? ⟨w.heap.size, 0, none⟩ = some x1
  a1 : v.cell? ⟨w.heap.size, 1, none⟩ = some x2
  b0 : v.cell? ⟨w.heap.size + 1, 0, none⟩ = some y1
  b1 : v.cell? ⟨w.heap.size + 1, 1, none⟩ = some y2
  bx : Bx v (w.heap.size + 1 + 1)
  bl : Below w.heap.size w v
theorem Zb.of {w v : World} {x1 x2 y1 y2 : Value} (h : Below (((w.alloc (.cells #[x1, x2] 25)).alloc (.cells #[y1, y2] 25)).alloc (.cells #[.slice none 0 0, .slice none 0 0] 25)).heap.size (((w.alloc (.cells #[x1, x2] 25)).alloc (.cells #[y1, y2] 25)).alloc (.cells #[.slice none 0 0, .slice none 0 0] 25)) v) : Zb w v x1 x2 y1 y2 := by
  have k := own3 h
  exact ⟨k.1 0, k.1 1, k.2.1 0, k.2.1 1, ⟨k.2.2.1 0, k.2.2.1 1, k.2.2.2.1 0, k.2.2.2.1 1⟩, k.2.2.2.2⟩
theorem Zb.below {w v u : World} {x1 x2 y1 y2 : Value} (h : Zb w v x1 x2 y1 y2) (k : Below v.heap.size v u) : Zb w u x1 x2 y1 y2 :=
  ⟨cell_below k h.a0, cell_below k h.a1, cell_below k h.b0, cell_below k h.b1, h.bx.below k, bl_trans h.bl k⟩

/-- a tensor with an error -/
abbrev noTensor (er : Int) : Value := .tuple #[.agg #[.slice none 0 0, .slice none 0 0], .int .i64 er]

set_option maxHeartbeats 2000000 in
theorem zip_op_no (n1 n2 c1 d1 c2 d2 m1 m2 : Nat) (a1 b1 a2 b2 : Option Addr) (op : ByteArray) (w : World)
    (hop : ∀ v b, v.heap[b]? = some (.map opsMap 3) → (Instr.lookup 64 (.map (some b)) (.string op) true).run Tryz.prog v = .ok (.tuple #[.nilFunc, .bool false]) v) :
    Calls Tryz.prog 25 #[.string op, .agg #[.slice a1 m1 c1, .slice b1 n1 d1], .agg #[.slice a2 m2 c2, .slice b2 n2 d2]] w fun e w' => e = .returned (noTensor 1) ∧ Below w.heap.size w w' := by
  go_enter Tryz.func25, Tryz.ntmps25
  go_wp2_with fail
  refine (operations_at _ (w.heap.size + 1 + 1 + 1) (by simp)).mono ?_
  rintro e w1 ⟨rfl, hm, hb⟩
  have hlk := hop w1 _ hm
  have hst := run_store_nil w1
  have hZ := Zb.of (hb.alloc hb.size (.cells #[.nilFunc] 62))
  have hx0 := hZ.bx.c0
  have hx1 := hZ.bx.c1
  have hx2 := hZ.bx.f0
  have hx3 := hZ.bx.f1
  have HZ : Hid _ := hZ
  clear hb hm hop hZ
  go_wp2
  refine bodyPost_ret (v := noTensor 1) (by simp [results, Tryz.results25, go_sem, (two_set HZ.out.bx.c0 HZ.out.bx.c1 _ _).1, (two_set HZ.out.bx.c0 HZ.out.bx.c1 _ _).2]) rfl ⟨rfl, ?_⟩
  exact bl_set (bl_set HZ.out.bl (by simp; omega) _) (by simp; omega) _

set_option maxHeartbeats 2000000 in
theorem zip_a_no (f n1 n2 c1 d1 c2 d2 m1 m2 : Nat) (a1 b1 a2 b2 : Option Addr) (op : ByteArray) (w : World)
    (hop : ∀ v b, v.heap[b]? = some (.map opsMap 3) → (Instr.lookup 64 (.map (some b)) (.string op) true).run Tryz.prog v = .ok (.tuple #[.func (.func f) #[] #[], .bool true]) v)
    (hR1 : ∀ v, Below w.heap.size w v → Calls Tryz.prog 30 #[.agg #[.slice a1 m1 c1, .slice b1 n1 d1]] v fun e w' => e = .returned (.bool false) ∧ Below v.heap.size v w') :
    Calls Tryz.prog 25 #[.string op, .agg #[.slice a1 m1 c1, .slice b1 n1 d1], .agg #[.slice a2 m2 c2, .slice b2 n2 d2]] w fun e w' => e = .returned (noTensor 1) ∧ Below w.heap.size w w' := by
  go_enter Tryz.func25, Tryz.ntmps25
  go_wp2_with fail
  refine (operations_at _ (w.heap.size + 1 + 1 + 1) (by simp)).mono ?_
  rintro e w1 ⟨rfl, hm, hb⟩
  have hlk := hop w1 _ hm
  have hst := run_store_func f w1
  have hZ := Zb.of (hb.alloc hb.size (.cells #[.func (.func f) #[] #[]] 62))
  have HJ : Hid ((w1.alloc (.cells #[.func (.func f) #[] #[]] 62)).cell? ⟨w1.heap.size, 0, none⟩ = some (.func (.func f) #[] #[])) := by unfold Hid; simp
  have k0 := hZ.a0
  have k1 := hZ.a1
  have k2 := hZ.b0
  have k3 := hZ.b1
  have HZ : Hid _ := hZ
  clear hb hm hop hZ
  go_wp2_with fail
  refine (hR1 _ HZ.out.bl).mono ?_
  rintro e w2 ⟨rfl, hb⟩
  have hZ := HZ.out.below hb
  replace HJ : Hid _ := cell_below hb HJ.out
  clear HZ k0 k1 k2 k3
  have k0 := hZ.a0
  have k1 := hZ.a1
  have k2 := hZ.b0
  have k3 := hZ.b1
  have hx0 := hZ.bx.c0
  have hx1 := hZ.bx.c1
  have hx2 := hZ.bx.f0
  have hx3 := hZ.bx.f1
  have HZ : Hid _ := hZ
  clear hb hZ hR1
  go_wp2
  refine bodyPost_ret (v := noTensor 1) (by simp [results, Tryz.results25, go_sem, (two_set HZ.out.bx.c0 HZ.out.bx.c1 _ _).1, (two_set HZ.out.bx.c0 HZ.out.bx.c1 _ _).2]) rfl ⟨rfl, ?_⟩
  exact bl_set (bl_set HZ.out.bl (by simp; omega) _) (by simp; omega) _

set_option maxHeartbeats 2000000 in
theorem zip_b_no (f n1 n2 c1 d1 c2 d2 m1 m2 : Nat) (a1 b1 a2 b2 : Option Addr) (op : ByteArray) (w : World)
    (hop : ∀ v b, v.heap[b]? = some (.map opsMap 3) → (Instr.lookup 64 (.map (some b)) (.string op) true).run Tryz.prog v = .ok (.tuple #[.func (.func f) #[] #[], .bool true]) v)
    (hR1 : ∀ v, Below w.heap.size w v → Calls Tryz.prog 30 #[.agg #[.slice a1 m1 c1, .slice b1 n1 d1]] v fun e w' => e = .returned (.bool true) ∧ Below v.heap.size v w')
    (hR2 : ∀ v, Below w.heap.size w v → Calls Tryz.prog 30 #[.agg #[.slice a2 m2 c2, .slice b2 n2 d2]] v fun e w' => e = .returned (.bool false) ∧ Below v.heap.size v w') :
    Calls Tryz.prog 25 #[.string op, .agg #[.slice a1 m1 c1, .slice b1 n1 d1], .agg #[.slice a2 m2 c2, .slice b2 n2 d2]] w fun e w' => e = .returned (noTensor 1) ∧ Below w.heap.size w w' := by
  go_enter Tryz.func25, Tryz.ntmps25
  go_wp2_with fail
  refine (operations_at _ (w.heap.size + 1 + 1 + 1) (by simp)).mono ?_
  rintro e w1 ⟨rfl, hm, hb⟩
  have hlk := hop w1 _ hm
  have hst := run_store_func f w1
  have hZ := Zb.of (hb.alloc hb.size (.cells #[.func (.func f) #[] #[]] 62))
  have HJ : Hid ((w1.alloc (.cells #[.func (.func f) #[] #[]] 62)).cell? ⟨w1.heap.size, 0, none⟩ = some (.func (.func f) #[] #[])) := by unfold Hid; simp
  have k0 := hZ.a0
  have k1 := hZ.a1
  have k2 := hZ.b0
  have k3 := hZ.b1
  have HZ : Hid _ := hZ
  clear hb hm hop hZ
  go_wp2_with fail
  refine (hR1 _ HZ.out.bl).mono ?_
  rintro e w2 ⟨rfl, hb⟩
  have hZ := HZ.out.below hb
  replace HJ : Hid _ := cell_below hb HJ.out
  clear HZ k0 k1 k2 k3
  have k0 := hZ.a0
  have k1 := hZ.a1
  have k2 := hZ.b0
  have k3 := hZ.b1
  have HZ : Hid _ := hZ
  clear hb hZ hR1
  go_wp2_with fail
  refine (hR2 _ HZ.out.bl).mono ?_
  rintro e w3 ⟨rfl, hb⟩
  have hZ := HZ.out.below hb
  replace HJ : Hid _ := cell_below hb HJ.out
  clear HZ k0 k1 k2 k3
  have k0 := hZ.a0
  have k1 := hZ.a1
  have k2 := hZ.b0
  have k3 := hZ.b1
  have hx0 := hZ.bx.c0
  have hx1 := hZ.bx.c1
  have hx2 := hZ.bx.f0
  have hx3 := hZ.bx.f1
  have HZ : Hid _ := hZ
  clear hb hZ hR2
  go_wp2
  refine bodyPost_ret (v := noTensor 1) (by simp [results, Tryz.results25, go_sem, (two_set HZ.out.bx.c0 HZ.out.bx.c1 _ _).1, (two_set HZ.out.bx.c0 HZ.out.bx.c1 _ _).2]) rfl ⟨rfl, ?_⟩
  exact bl_set (bl_set HZ.out.bl (by simp; omega) _) (by simp; omega) _

set_option maxHeartbeats 2000000 in
theorem zip_s_no (f n1 n2 c1 d1 c2 d2 m1 m2 : Nat) (a1 b1 a2 b2 : Option Addr) (op : ByteArray) (w : World)
    (hop : ∀ v b, v.heap[b]? = some (.map opsMap 3) → (Instr.lookup 64 (.map (some b)) (.string op) true).run Tryz.prog v = .ok (.tuple #[.func (.func f) #[] #[], .bool true]) v)
    (hR1 : ∀ v, Below w.heap.size w v → Calls Tryz.prog 30 #[.agg #[.slice a1 m1 c1, .slice b1 n1 d1]] v fun e w' => e = .returned (.bool true) ∧ Below v.heap.size v w')
    (hR2 : ∀ v, Below w.heap.size w v → Calls Tryz.prog 30 #[.agg #[.slice a2 m2 c2, .slice b2 n2 d2]] v fun e w' => e = .returned (.bool true) ∧ Below v.heap.size v w')
    (hS : ∀ v, Below w.heap.size w v → Calls Tryz.prog 43 #[.slice a1 m1 c1, .slice a2 m2 c2] v fun e w' => e = .returned (.bool false) ∧ Sp.Sm v w') :
    Calls Tryz.prog 25 #[.string op, .agg #[.slice a1 m1 c1, .slice b1 n1 d1], .agg #[.slice a2 m2 c2, .slice b2 n2 d2]] w fun e w' => e = .returned (noTensor 4) ∧ Below w.heap.size w w' := by
  go_enter Tryz.func25, Tryz.ntmps25
  go_wp2_with fail
  refine (operations_at _ (w.heap.size + 1 + 1 + 1) (by simp)).mono ?_
  rintro e w1 ⟨rfl, hm, hb⟩
  have hlk := hop w1 _ hm
  have hst := run_store_func f w1
  have hZ := Zb.of (hb.alloc hb.size (.cells #[.func (.func f) #[] #[]] 62))
  have HJ : Hid ((w1.alloc (.cells #[.func (.func f) #[] #[]] 62)).cell? ⟨w1.heap.size, 0, none⟩ = some (.func (.func f) #[] #[])) := by unfold Hid; simp
  have k0 := hZ.a0
  have k1 := hZ.a1
  have k2 := hZ.b0
  have k3 := hZ.b1
  have HZ : Hid _ := hZ
  clear hb hm hop hZ
  go_wp2_with fail
  refine (hR1 _ HZ.out.bl).mono ?_
  rintro e w2 ⟨rfl, hb⟩
  have hZ := HZ.out.below hb
  replace HJ : Hid _ := cell_below hb HJ.out
  clear HZ k0 k1 k2 k3
  have k0 := hZ.a0
  have k1 := hZ.a1
  have k2 := hZ.b0
  have k3 := hZ.b1
  have HZ : Hid _ := hZ
  clear hb hZ hR1
  go_wp2_with fail
  refine (hR2 _ HZ.out.bl).mono ?_
  rintro e w3 ⟨rfl, hb⟩
  have hZ := HZ.out.below hb
  replace HJ : Hid _ := cell_below hb HJ.out
  clear HZ k0 k1 k2 k3
  have k0 := hZ.a0
  have k1 := hZ.a1
  have k2 := hZ.b0
  have k3 := hZ.b1
  have HZ : Hid _ := hZ
  clear hb hZ hR2
  go_wp2_with fail
  refine (hS _ HZ.out.bl).mono ?_
  rintro e w4 ⟨rfl, hs⟩
  have hb := hs.below w3.heap.size
  have hZ := HZ.out.below hb
  replace HJ : Hid _ := cell_below hb HJ.out
  clear HZ k0 k1 k2 k3
  have k0 := hZ.a0
  have k1 := hZ.a1
  have k2 := hZ.b0
  have k3 := hZ.b1
  have hx0 := hZ.bx.c0
  have hx1 := hZ.bx.c1
  have hx2 := hZ.bx.f0
  have hx3 := hZ.bx.f1
  have HZ : Hid _ := hZ
  clear hb hZ hS hs
  go_wp2
  refine bodyPost_ret (v := noTensor 4) (by simp [results, Tryz.results25, go_sem, (two_set HZ.out.bx.c0 HZ.out.bx.c1 _ _).1, (two_set HZ.out.bx.c0 HZ.out.bx.c1 _ _).2]) rfl ⟨rfl, ?_⟩
  exact bl_set (bl_set HZ.out.bl (by simp; omega) _) (by simp; omega) _

set_option maxHeartbeats 2000000 in
theorem zip_yes (f n1 n2 c1 d1 c2 d2 m1 m2 : Nat) (a1 b1 a2 b2 : Option Addr) (zs : List Int) (xs : List ByteArray) (op : ByteArray) (w : World)
    (hop : ∀ v b, v.heap[b]? = some (.map opsMap 3) → (Instr.lookup 64 (.map (some b)) (.string op) true).run Tryz.prog v = .ok (.tuple #[.func (.func f) #[] #[], .bool true]) v)
    (hR1 : ∀ v, Below w.heap.size w v → Calls Tryz.prog 30 #[.agg #[.slice a1 m1 c1, .slice b1 n1 d1]] v fun e w' => e = .returned (.bool true) ∧ Below v.heap.size v w')
    (hR2 : ∀ v, Below w.heap.size w v → Calls Tryz.prog 30 #[.agg #[.slice a2 m2 c2, .slice b2 n2 d2]] v fun e w' => e = .returned (.bool true) ∧ Below v.heap.size v w')
    (hS : ∀ v, Below w.heap.size w v → Calls Tryz.prog 43 #[.slice a1 m1 c1, .slice a2 m2 c2] v fun e w' => e = .returned (.bool true) ∧ Sp.Sm v w')
    (hM : ∀ v J, Below w.heap.size w v → v.cell? ⟨J, 0, none⟩ = some (.func (.func f) #[] #[]) → v.cell? ⟨w.heap.size, 1, none⟩ = some (.slice b1 n1 d1) → v.cell? ⟨w.heap.size + 1, 1, none⟩ = some (.slice b2 n2 d2) →
      Calls Tryz.prog 44 #[.slice a1 m1 c1, .func (.func 45) #[] #[.pointer (some ⟨J, 0, none⟩), .pointer (some ⟨w.heap.size, 0, none⟩), .pointer (some ⟨w.heap.size + 1, 0, none⟩)]] v
        fun e v' => ∃ a3 c3 b3 d3, e = .returned (.tuple #[.agg #[.slice a3 m1 c3, .slice b3 n1 d3], .int .i64 0]) ∧ Tm v' v.heap.size a3 b3 zs xs ∧ Below v.heap.size v v') :
    Calls Tryz.prog 25 #[.string op, .agg #[.slice a1 m1 c1, .slice b1 n1 d1], .agg #[.slice a2 m2 c2, .slice b2 n2 d2]] w fun e w' => ∃ a3 c3 b3 d3, e = .returned (.tuple #[.agg #[.slice a3 m1 c3, .slice b3 n1 d3], .int .i64 0]) ∧ Tm w' w.heap.size a3 b3 zs xs ∧ Below w.heap.size w w' := by
  go_enter Tryz.func25, Tryz.ntmps25
  go_wp2_with fail
  refine (operations_at _ (w.heap.size + 1 + 1 + 1) (by simp)).mono ?_
  rintro e w1 ⟨rfl, hm, hb⟩
  have hlk := hop w1 _ hm
  have hst := run_store_func f w1
  have hZ := Zb.of (hb.alloc hb.size (.cells #[.func (.func f) #[] #[]] 62))
  have HJ : Hid ((w1.alloc (.cells #[.func (.func f) #[] #[]] 62)).cell? ⟨w1.heap.size, 0, none⟩ = some (.func (.func f) #[] #[])) := by unfold Hid; simp
  have k0 := hZ.a0
  have k1 := hZ.a1
  have k2 := hZ.b0
  have k3 := hZ.b1
  have HZ : Hid _ := hZ
  clear hb hm hop hZ
  go_wp2_with fail
  refine (hR1 _ HZ.out.bl).mono ?_
  rintro e w2 ⟨rfl, hb⟩
  have hZ := HZ.out.below hb
  replace HJ : Hid _ := cell_below hb HJ.out
  clear HZ k0 k1 k2 k3
  have k0 := hZ.a0
  have k1 := hZ.a1
  have k2 := hZ.b0
  have k3 := hZ.b1
  have HZ : Hid _ := hZ
  clear hb hZ hR1
  go_wp2_with fail
  refine (hR2 _ HZ.out.bl).mono ?_
  rintro e w3 ⟨rfl, hb⟩
  have hZ := HZ.out.below hb
  replace HJ : Hid _ := cell_below hb HJ.out
  clear HZ k0 k1 k2 k3
  have k0 := hZ.a0
  have k1 := hZ.a1
  have k2 := hZ.b0
  have k3 := hZ.b1
  have HZ : Hid _ := hZ
  clear hb hZ hR2
  go_wp2_with fail
  refine (hS _ HZ.out.bl).mono ?_
  rintro e w4 ⟨rfl, hs⟩
  have hb := hs.below w3.heap.size
  have hZ := HZ.out.below hb
  replace HJ : Hid _ := cell_below hb HJ.out
  clear HZ k0 k1 k2 k3
  have k0 := hZ.a0
  have k1 := hZ.a1
  have k2 := hZ.b0
  have k3 := hZ.b1
  have HZ : Hid _ := hZ
  clear hb hZ hS hs
  have hc := hM w4 w1.heap.size HZ.out.bl HJ.out k1 k3
  clear hM
  go_wp2_with fail
  refine hc.mono ?_
  rintro e w5 ⟨a3, c3, b3, d3, rfl, hT, hb⟩
  have hZ := HZ.out.below hb
  have HT : Hid (Tm w5 (w.heap.size + 1 + 1 + 1) a3 b3 zs xs) := hT.mono (by have := HZ.out.bx.lt; omega)
  clear HZ HJ hc k0 k1 k2 k3 hb hT
  have hx0 := hZ.bx.c0
  have hx1 := hZ.bx.c1
  have hx2 := hZ.bx.f0
  have hx3 := hZ.bx.f1
  have HZ : Hid _ := hZ
  clear hZ
  go_wp2
  refine bodyPost_ret (v := .tuple #[.agg #[.slice a3 m1 c3, .slice b3 n1 d3], .int .i64 0]) (by simp [results, Tryz.results25, go_sem, (two_set HZ.out.bx.c0 HZ.out.bx.c1 _ _).1, (two_set HZ.out.bx.c0 HZ.out.bx.c1 _ _).2]) rfl ⟨a3, c3, b3, d3, rfl, ?_, ?_⟩
  · exact ((HT.out.set (by simp) _).set (by simp) _).mono (by omega)
  · exact bl_set (bl_set HZ.out.bl (by simp; omega) _) (by simp; omega) _
end Go.Proofs.YtjkobbpebnkimaaGreatDoor.Tn
