/-
  THE WALK OF GraphRight: the call gives true. Conditions: each theorem's own.
-/
import Derived.Test.YtadgnafafdfioaaGreatDoorGaw
import Derived.Test.YtadgnafafdfioaaGreatDoorGr2
namespace Go.Proofs.YtadgnafafdfioaaGreatDoor.Gr
open Go.Proofs.YtadgnafafdfioaaGreatDoor.Rd
set_option maxRecDepth 100000
open Go.RowKit
set_option linter.unusedVariables false
set_option linter.unusedSimpArgs false

theorem nl_one {w : World} {b : Nat} {op name K : ByteArray} {A B n : Int} {zs : List Int} {data : List ByteArray} {sc dc : Nat} {sa da : Option Addr} {t : TypeId} (hb : w.heap[b]? = some (.cells #[.string op, .int .i64 A, .int .i64 B, .string name, .slice sa zs.length sc, .string K, .int .i64 n, .slice da data.length dc] t (0, 0))) (hS : Sp.Sl w sa zs) (hD : Row w da (txts data)) : Nl w (some ⟨b, 0, none⟩) [⟨op, A, B, name, zs, K, n, data⟩] := by
  intro i hi
  have h' : i < 1 := hi
  have : i = 0 := by omega
  subst this
  refine ⟨b, 0, ncl ⟨op, A, B, name, zs, K, n, data⟩ sa sc da dc, rfl, ⟨sa, sc, da, dc, rfl, hS, hD⟩, fun j hj => ?_⟩
  simp only [World.cell?, hb, Nat.zero_mul, Nat.zero_add, Option.bind_some]
  have : j = 0 ∨ j = 1 ∨ j = 2 ∨ j = 3 ∨ j = 4 ∨ j = 5 ∨ j = 6 ∨ j = 7 := by omega
  rcases this with rfl | rfl | rfl | rfl | rfl | rfl | rfl | rfl <;> rfl
theorem sml_one {n : Nd} : sml [n] = sma n := by unfold sml; simp
set_option maxHeartbeats 16000000 in
theorem graphRight_ok (l : List Nd) (op name K : ByteArray) (A B n : Int) (zs : List Int) (data : List ByteArray) (c sc dc : Nat) (loss : Int) (ao sa da : Option Addr) (aF aZ : Addr) (w : World) (hE : Er w aF aZ) (hl : Nl w ao l) (hc : l.length ≤ c) (hcm : c ≤ maxLen) (hS : Sp.Sl w sa zs) (hD : Row w da (txts data)) :
    Calls Tryz.prog 3 #[.agg #[.slice ao l.length c, .int .i64 loss], .agg #[.string op, .int .i64 A, .int .i64 B, .string name, .slice sa zs.length sc, .string K, .int .i64 n, .slice da data.length dc]] w fun e w' => e = .returned (.bool true) ∧ Below w.heap.size w w' := by
  obtain ⟨G, hG⟩ : ∃ G, w.heap.size = G := ⟨_, rfl⟩
  have HA : Hid (∀ v, Below w.heap.size w v → Calls Tryz.prog 7 #[] v fun e w' => e = .returned (.bool true) ∧ Below v.heap.size v w') := fun v hv => awake_any aF aZ v (hE.below hv)
  have HS1 : Hid (∀ v, Below w.heap.size w v → Calls Tryz.prog 6 #[.agg #[.slice ao l.length c, .int .i64 loss]] v fun e w' => e = .returned (.bool (sml l)) ∧ Below v.heap.size v w') := fun v hv => Small_any l ao c loss v (hl.below hv)
  have HS2 : Hid (∀ v b t, Below w.heap.size w v → v.heap[b]? = some (.cells #[.string op, .int .i64 A, .int .i64 B, .string name, .slice sa zs.length sc, .string K, .int .i64 n, .slice da data.length dc] t (0, 0)) → Calls Tryz.prog 6 #[.agg #[.slice (some ⟨b, 0, none⟩) 1 1, .int .i64 0]] v fun e w' => e = .returned (.bool (sma ⟨op, A, B, name, zs, K, n, data⟩)) ∧ Below v.heap.size v w') := fun v b t hv hb => by
    have := Small_any [⟨op, A, B, name, zs, K, n, data⟩] (some ⟨b, 0, none⟩) 1 0 v (nl_one hb (sl_below hS hv) (Row.below hD hv))
    rw [sml_one] at this
    exact this
  have HR1 : Hid (sml l = true → ∀ v, Below w.heap.size w v → Calls Tryz.prog 8 #[.agg #[.slice ao l.length c, .int .i64 loss]] v fun e w' => e = .returned (.bool (grt l loss)) ∧ Below v.heap.size v w') := fun hs v hv => refRight_any l ao c loss v (hl.below hv) hc hcm (fun i hi => sma_nb (sml_at hs hi))
  have HR2 : Hid (sml l = true → ∀ v, Below w.heap.size w v → Calls Tryz.prog 9 #[.agg #[.slice ao l.length c, .int .i64 loss]] v fun e w' => e = .returned (.bool (grt l loss)) ∧ Below v.heap.size v w') := fun hs v hv => Right_any l ao c loss aF aZ v (hE.below hv) (hl.below hv) hc hcm (fun i hi => sma_nb (sml_at hs hi))
  have HI : Hid (grt l loss = true → sma ⟨op, A, B, name, zs, K, n, data⟩ = true → ∀ v, Below w.heap.size w v → Calls Tryz.prog 10 #[.slice ao l.length c, .agg #[.string op, .int .i64 A, .int .i64 B, .string name, .slice sa zs.length sc, .string K, .int .i64 n, .slice da data.length dc]] v fun e w' => Shi w' v.heap.size (shp l ⟨op, A, B, name, zs, K, n, data⟩) e ∧ Below v.heap.size v w') := fun hg hs v hv => Infer_any l ⟨op, A, B, name, zs, K, n, data⟩ sc dc c sa da ao aF aZ v (hE.below hv) (hl.below hv) (sl_below hS hv) (Row.below hD hv) (sma_nb hs) (fun i hi => rgt_at (grt_iff.1 hg).2.2.2.2 hi)
  have HSh : Hid (grt l loss = true → sma ⟨op, A, B, name, zs, K, n, data⟩ = true → ∀ v, Below w.heap.size w v → Calls Tryz.prog 11 #[.slice ao l.length c, .agg #[.string op, .int .i64 A, .int .i64 B, .string name, .slice sa zs.length sc, .string K, .int .i64 n, .slice da data.length dc]] v fun e w' => Shp w' (shp l ⟨op, A, B, name, zs, K, n, data⟩) e ∧ Below v.heap.size v w') := fun hg hs v hv => refShape_any l ⟨op, A, B, name, zs, K, n, data⟩ sc dc c sa da ao v (hl.below hv) (sl_below hS hv) (Row.below hD hv) (sma_nb hs) (fun i hi => by have := (rgt_at (grt_iff.1 hg).2.2.2.2 hi).1; omega)
  have HRg : Hid (∀ s, shp l ⟨op, A, B, name, zs, K, n, data⟩ = some s → s.length ≤ 4) := fun s h => (shp_rgt h).1
  clear hE hl hS hD hcm
  obtain ⟨sm, hsm⟩ : ∃ b, sml l = b := ⟨_, rfl⟩
  obtain ⟨sn, hsn⟩ : ∃ b, sma ⟨op, A, B, name, zs, K, n, data⟩ = b := ⟨_, rfl⟩
  obtain ⟨gr, hgr⟩ : ∃ b, grt l loss = b := ⟨_, rfl⟩
  obtain ⟨so, hso⟩ : ∃ b, shp l ⟨op, A, B, name, zs, K, n, data⟩ = b := ⟨_, rfl⟩
  simp only [hsm, hsn, hgr, hso] at HS1 HS2 HR1 HR2 HI HSh HRg
  clear hsm hsn hgr hso
  obtain ⟨ll, hll⟩ : ∃ m, l.length = m := ⟨_, rfl⟩
  obtain ⟨zl, hzl⟩ : ∃ m, zs.length = m := ⟨_, rfl⟩
  obtain ⟨dl, hdl⟩ : ∃ m, data.length = m := ⟨_, rfl⟩
  simp only [hll, hzl, hdl] at HS1 HS2 HR1 HR2 HI HSh hc ⊢
  clear hll hzl hdl
  have HW : Hid (∀ o1 o2, Below w.heap.size w ((w.alloc o1).alloc o2)) := fun o1 o2 => bl_alloc (bl_alloc (Below.refl _ _) o1) o2
  have hC : ∀ v, Below (G + 2) ((w.alloc (.cells #[.slice ao ll c, .int .i64 loss] 24)).alloc (.cells #[.string op, .int .i64 A, .int .i64 B, .string name, .slice sa zl sc, .string K, .int .i64 n, .slice da dl dc] 28)) v → v.cell? ⟨G, 0, none⟩ = some (.slice ao ll c) ∧ v.cell? ⟨G, 1, none⟩ = some (.int .i64 loss) ∧ v.heap[G + 1]? = some (.cells #[.string op, .int .i64 A, .int .i64 B, .string name, .slice sa zl sc, .string K, .int .i64 n, .slice da dl dc] 28 (0, 0)) := fun v hv => by
    have e1 : (w.alloc (.cells #[.slice ao ll c, .int .i64 loss] 24)).heap.size = G + 1 := by rw [← hG]; simp
    have b0 := heap_alloc_new w (.cells #[.slice ao ll c, .int .i64 loss] 24)
    rw [hG] at b0
    have b1 := heap_alloc_new (w.alloc (.cells #[.slice ao ll c, .int .i64 loss] 24)) (.cells #[.string op, .int .i64 A, .int .i64 B, .string name, .slice sa zl sc, .string K, .int .i64 n, .slice da dl dc] 28)
    rw [e1] at b1
    have b0' : ((w.alloc (.cells #[.slice ao ll c, .int .i64 loss] 24)).alloc (.cells #[.string op, .int .i64 A, .int .i64 B, .string name, .slice sa zl sc, .string K, .int .i64 n, .slice da dl dc] 28)).heap[G]? = some (.cells #[.slice ao ll c, .int .i64 loss] 24 (0, 0)) := by
      rw [(bl_alloc (Below.refl (w.alloc (.cells #[.slice ao ll c, .int .i64 loss] 24)).heap.size _) (.cells #[.string op, .int .i64 A, .int .i64 B, .string name, .slice sa zl sc, .string K, .int .i64 n, .slice da dl dc] 28)).block G (by omega)]
      exact b0
    have f0 : v.heap[G]? = some (.cells #[.slice ao ll c, .int .i64 loss] 24 (0, 0)) := by rw [hv.block G (by omega)]; exact b0'
    exact ⟨by simp [World.cell?, f0], by simp [World.cell?, f0], by rw [hv.block (G + 1) (by omega)]; exact b1⟩
  have HC : Hid _ := hC
  have hg2 : ((w.alloc (.cells #[.slice ao ll c, .int .i64 loss] 24)).alloc (.cells #[.string op, .int .i64 A, .int .i64 B, .string name, .slice sa zl sc, .string K, .int .i64 n, .slice da dl dc] 28)).heap.size = G + 2 := by rw [← hG]; simp
  have HG2 : Hid _ := hg2
  clear hg2
  have HGG : Hid _ := hG
  clear hC
  go_enter Tryz.func3, Tryz.ntmps3
  go_wp2_with fail
  have hr1 : Below (G + 2) ((w.alloc (.cells #[.slice ao ll c, .int .i64 loss] 24)).alloc (.cells #[.string op, .int .i64 A, .int .i64 B, .string name, .slice sa zl sc, .string K, .int .i64 n, .slice da dl dc] 28)) ((w.alloc (.cells #[.slice ao ll c, .int .i64 loss] 24)).alloc (.cells #[.string op, .int .i64 A, .int .i64 B, .string name, .slice sa zl sc, .string K, .int .i64 n, .slice da dl dc] 28)) := Below.refl _ _
  have H1 : Hid _ := hr1
  clear hr1
  refine (HS1.out _ (HW.out _ _)).mono ?_
  rintro e w2 ⟨rfl, hx2⟩
  have hh2 : Below (G + 2) ((w.alloc (.cells #[.slice ao ll c, .int .i64 loss] 24)).alloc (.cells #[.string op, .int .i64 A, .int .i64 B, .string name, .slice sa zl sc, .string K, .int .i64 n, .slice da dl dc] 28)) w2 := hx2.mono (by rw [HG2.out]; exact Nat.le_refl _)
  have HW2 : Hid _ := hh2
  have HB2 : Hid (Below w.heap.size w w2) := (HW.out _ _).trans (hh2.mono (by rw [HGG.out]; omega))
  have HX2 : Hid _ := hx2
  clear hh2 hx2
  cases sm with
  | false =>
    go_wp2_with fail
    refine (HA.out _ HB2.out).mono ?_
    rintro e w3 ⟨rfl, hx3⟩
    have HB3 : Hid _ := HB2.out.trans (hx3.mono HB2.out.size)
    clear hx3
    go_wp2
    go_ret
    exact ⟨rfl, HB3.out⟩
  | true =>
    obtain ⟨g0, g1, hP⟩ := HC.out w2 HW2.out
    have p0 : w2.cell? ⟨G + 1, 0, none⟩ = some (.string op) := by simp [World.cell?, hP]
    have p1 : w2.cell? ⟨G + 1, 1, none⟩ = some (.int .i64 A) := by simp [World.cell?, hP]
    have p2 : w2.cell? ⟨G + 1, 2, none⟩ = some (.int .i64 B) := by simp [World.cell?, hP]
    have p3 : w2.cell? ⟨G + 1, 3, none⟩ = some (.string name) := by simp [World.cell?, hP]
    have p4 : w2.cell? ⟨G + 1, 4, none⟩ = some (.slice sa zl sc) := by simp [World.cell?, hP]
    have p5 : w2.cell? ⟨G + 1, 5, none⟩ = some (.string K) := by simp [World.cell?, hP]
    have p6 : w2.cell? ⟨G + 1, 6, none⟩ = some (.int .i64 n) := by simp [World.cell?, hP]
    have p7 : w2.cell? ⟨G + 1, 7, none⟩ = some (.slice da dl dc) := by simp [World.cell?, hP]
    have hlt2 : G + 2 ≤ w2.heap.size := by have := HW2.out.size; rw [HG2.out] at this; exact this
    have hn2 := heap_alloc_new w2 (.cells #[.string op, .int .i64 A, .int .i64 B, .string name, .slice sa zl sc, .string K, .int .i64 n, .slice da dl dc] 28)
    have hs2 := HS2.out (w2.alloc (.cells #[.string op, .int .i64 A, .int .i64 B, .string name, .slice sa zl sc, .string K, .int .i64 n, .slice da dl dc] 28)) w2.heap.size 28 (HB2.out.alloc HB2.out.size _) hn2
    go_wp2_with fail
    refine hs2.mono ?_
    rintro e w3 ⟨rfl, hx3⟩
    have hh3 : Below (G + 2) ((w.alloc (.cells #[.slice ao ll c, .int .i64 loss] 24)).alloc (.cells #[.string op, .int .i64 A, .int .i64 B, .string name, .slice sa zl sc, .string K, .int .i64 n, .slice da dl dc] 28)) w3 := (HW2.out.alloc hlt2 _).trans (hx3.mono (by simp; omega))
    have HW3 : Hid _ := hh3
    have HB3 : Hid (Below w.heap.size w w3) := (HW.out _ _).trans (hh3.mono (by rw [HGG.out]; omega))
    have HX3 : Hid _ := hx3
    clear hh3 hx3
    clear g0 g1 hP p0 p1 p2 p3 p4 p5 p6 p7
    clear hlt2 hn2 hs2
    cases sn with
    | false =>
      go_wp2_with fail
      refine (HA.out _ HB3.out).mono ?_
      rintro e w4 ⟨rfl, hx4⟩
      have HB4 : Hid _ := HB3.out.trans (hx4.mono HB3.out.size)
      clear hx4
      go_wp2
      go_ret
      exact ⟨rfl, HB4.out⟩
    | true =>
      obtain ⟨g0, g1, hP⟩ := HC.out w3 HW3.out
      have p0 : w3.cell? ⟨G + 1, 0, none⟩ = some (.string op) := by simp [World.cell?, hP]
      have p1 : w3.cell? ⟨G + 1, 1, none⟩ = some (.int .i64 A) := by simp [World.cell?, hP]
      have p2 : w3.cell? ⟨G + 1, 2, none⟩ = some (.int .i64 B) := by simp [World.cell?, hP]
      have p3 : w3.cell? ⟨G + 1, 3, none⟩ = some (.string name) := by simp [World.cell?, hP]
      have p4 : w3.cell? ⟨G + 1, 4, none⟩ = some (.slice sa zl sc) := by simp [World.cell?, hP]
      have p5 : w3.cell? ⟨G + 1, 5, none⟩ = some (.string K) := by simp [World.cell?, hP]
      have p6 : w3.cell? ⟨G + 1, 6, none⟩ = some (.int .i64 n) := by simp [World.cell?, hP]
      have p7 : w3.cell? ⟨G + 1, 7, none⟩ = some (.slice da dl dc) := by simp [World.cell?, hP]
      have hlt3 : G + 2 ≤ w3.heap.size := by have := HW3.out.size; rw [HG2.out] at this; exact this
      go_wp2_with fail
      refine (HR1.out (by first | exact rfl | trivial) _ HB3.out).mono ?_
      rintro e w4 ⟨rfl, hx4⟩
      have hh4 : Below (G + 2) ((w.alloc (.cells #[.slice ao ll c, .int .i64 loss] 24)).alloc (.cells #[.string op, .int .i64 A, .int .i64 B, .string name, .slice sa zl sc, .string K, .int .i64 n, .slice da dl dc] 28)) w4 := HW3.out.trans (hx4.mono hlt3)
      have HW4 : Hid _ := hh4
      have HB4 : Hid (Below w.heap.size w w4) := (HW.out _ _).trans (hh4.mono (by rw [HGG.out]; omega))
      have HX4 : Hid _ := hx4
      clear hh4 hx4
      clear g0 g1 hP p0 p1 p2 p3 p4 p5 p6 p7
      clear hlt3
      obtain ⟨g0, g1, hP⟩ := HC.out w4 HW4.out
      have p0 : w4.cell? ⟨G + 1, 0, none⟩ = some (.string op) := by simp [World.cell?, hP]
      have p1 : w4.cell? ⟨G + 1, 1, none⟩ = some (.int .i64 A) := by simp [World.cell?, hP]
      have p2 : w4.cell? ⟨G + 1, 2, none⟩ = some (.int .i64 B) := by simp [World.cell?, hP]
      have p3 : w4.cell? ⟨G + 1, 3, none⟩ = some (.string name) := by simp [World.cell?, hP]
      have p4 : w4.cell? ⟨G + 1, 4, none⟩ = some (.slice sa zl sc) := by simp [World.cell?, hP]
      have p5 : w4.cell? ⟨G + 1, 5, none⟩ = some (.string K) := by simp [World.cell?, hP]
      have p6 : w4.cell? ⟨G + 1, 6, none⟩ = some (.int .i64 n) := by simp [World.cell?, hP]
      have p7 : w4.cell? ⟨G + 1, 7, none⟩ = some (.slice da dl dc) := by simp [World.cell?, hP]
      have hlt4 : G + 2 ≤ w4.heap.size := by have := HW4.out.size; rw [HG2.out] at this; exact this
      go_wp2_with fail
      refine (HR2.out (by first | exact rfl | trivial) _ HB4.out).mono ?_
      rintro e w5 ⟨rfl, hx5⟩
      have hh5 : Below (G + 2) ((w.alloc (.cells #[.slice ao ll c, .int .i64 loss] 24)).alloc (.cells #[.string op, .int .i64 A, .int .i64 B, .string name, .slice sa zl sc, .string K, .int .i64 n, .slice da dl dc] 28)) w5 := HW4.out.trans (hx5.mono hlt4)
      have HW5 : Hid _ := hh5
      have HB5 : Hid (Below w.heap.size w w5) := (HW.out _ _).trans (hh5.mono (by rw [HGG.out]; omega))
      have HX5 : Hid _ := hx5
      clear hh5 hx5
      clear g0 g1 hP p0 p1 p2 p3 p4 p5 p6 p7
      clear hlt4
      cases gr with
      | false =>
        go_wp2_with fail
        refine (HA.out _ HB5.out).mono ?_
        rintro e w6 ⟨rfl, hx6⟩
        have HB6 : Hid _ := HB5.out.trans (hx6.mono HB5.out.size)
        clear hx6
        go_wp2
        go_ret
        exact ⟨rfl, HB6.out⟩
      | true =>
        have HI5 := HI.out (by first | exact rfl | trivial) (by first | exact rfl | trivial)
        have HS5 := HSh.out (by first | exact rfl | trivial) (by first | exact rfl | trivial)
        have HI6 : Hid _ := HI5
        have HS6 : Hid _ := HS5
        clear HI5 HS5 HI HSh
        cases so with
        | none =>
          obtain ⟨g0, g1, hP⟩ := HC.out w5 HW5.out
          have p0 : w5.cell? ⟨G + 1, 0, none⟩ = some (.string op) := by simp [World.cell?, hP]
          have p1 : w5.cell? ⟨G + 1, 1, none⟩ = some (.int .i64 A) := by simp [World.cell?, hP]
          have p2 : w5.cell? ⟨G + 1, 2, none⟩ = some (.int .i64 B) := by simp [World.cell?, hP]
          have p3 : w5.cell? ⟨G + 1, 3, none⟩ = some (.string name) := by simp [World.cell?, hP]
          have p4 : w5.cell? ⟨G + 1, 4, none⟩ = some (.slice sa zl sc) := by simp [World.cell?, hP]
          have p5 : w5.cell? ⟨G + 1, 5, none⟩ = some (.string K) := by simp [World.cell?, hP]
          have p6 : w5.cell? ⟨G + 1, 6, none⟩ = some (.int .i64 n) := by simp [World.cell?, hP]
          have p7 : w5.cell? ⟨G + 1, 7, none⟩ = some (.slice da dl dc) := by simp [World.cell?, hP]
          have hlt5 : G + 2 ≤ w5.heap.size := by have := HW5.out.size; rw [HG2.out] at this; exact this
          go_wp2_with fail
          refine (HI6.out _ HB5.out).mono ?_
          rintro e w6 ⟨rfl, hx6⟩
          have hh6 : Below (G + 2) ((w.alloc (.cells #[.slice ao ll c, .int .i64 loss] 24)).alloc (.cells #[.string op, .int .i64 A, .int .i64 B, .string name, .slice sa zl sc, .string K, .int .i64 n, .slice da dl dc] 28)) w6 := HW5.out.trans (hx6.mono hlt5)
          have HW6 : Hid _ := hh6
          have HB6 : Hid (Below w.heap.size w w6) := (HW.out _ _).trans (hh6.mono (by rw [HGG.out]; omega))
          have HX6 : Hid _ := hx6
          clear hh6 hx6
          clear g0 g1 hP p0 p1 p2 p3 p4 p5 p6 p7
          clear hlt5
          obtain ⟨g0, g1, hP⟩ := HC.out w6 HW6.out
          have p0 : w6.cell? ⟨G + 1, 0, none⟩ = some (.string op) := by simp [World.cell?, hP]
          have p1 : w6.cell? ⟨G + 1, 1, none⟩ = some (.int .i64 A) := by simp [World.cell?, hP]
          have p2 : w6.cell? ⟨G + 1, 2, none⟩ = some (.int .i64 B) := by simp [World.cell?, hP]
          have p3 : w6.cell? ⟨G + 1, 3, none⟩ = some (.string name) := by simp [World.cell?, hP]
          have p4 : w6.cell? ⟨G + 1, 4, none⟩ = some (.slice sa zl sc) := by simp [World.cell?, hP]
          have p5 : w6.cell? ⟨G + 1, 5, none⟩ = some (.string K) := by simp [World.cell?, hP]
          have p6 : w6.cell? ⟨G + 1, 6, none⟩ = some (.int .i64 n) := by simp [World.cell?, hP]
          have p7 : w6.cell? ⟨G + 1, 7, none⟩ = some (.slice da dl dc) := by simp [World.cell?, hP]
          have hlt6 : G + 2 ≤ w6.heap.size := by have := HW6.out.size; rw [HG2.out] at this; exact this
          go_wp2_with fail
          refine (HS6.out _ HB6.out).mono ?_
          rintro e w7 ⟨⟨a7, n7, c7, rfl⟩, hx7⟩
          have hh7 : Below (G + 2) ((w.alloc (.cells #[.slice ao ll c, .int .i64 loss] 24)).alloc (.cells #[.string op, .int .i64 A, .int .i64 B, .string name, .slice sa zl sc, .string K, .int .i64 n, .slice da dl dc] 28)) w7 := HW6.out.trans (hx7.mono hlt6)
          have HW7 : Hid _ := hh7
          have HB7 : Hid (Below w.heap.size w w7) := (HW.out _ _).trans (hh7.mono (by rw [HGG.out]; omega))
          have HX7 : Hid _ := hx7
          clear hh7 hx7
          clear g0 g1 hP p0 p1 p2 p3 p4 p5 p6 p7
          clear hlt6
          go_wp2_with fail
          refine (HA.out _ HB7.out).mono ?_
          rintro e w8 ⟨rfl, hx8⟩
          have HB8 : Hid _ := HB7.out.trans (hx8.mono HB7.out.size)
          clear hx8
          go_wp2
          go_ret
          exact ⟨rfl, HB8.out⟩
        | some s =>
          have hs4 := HRg.out s rfl
          obtain ⟨g0, g1, hP⟩ := HC.out w5 HW5.out
          have p0 : w5.cell? ⟨G + 1, 0, none⟩ = some (.string op) := by simp [World.cell?, hP]
          have p1 : w5.cell? ⟨G + 1, 1, none⟩ = some (.int .i64 A) := by simp [World.cell?, hP]
          have p2 : w5.cell? ⟨G + 1, 2, none⟩ = some (.int .i64 B) := by simp [World.cell?, hP]
          have p3 : w5.cell? ⟨G + 1, 3, none⟩ = some (.string name) := by simp [World.cell?, hP]
          have p4 : w5.cell? ⟨G + 1, 4, none⟩ = some (.slice sa zl sc) := by simp [World.cell?, hP]
          have p5 : w5.cell? ⟨G + 1, 5, none⟩ = some (.string K) := by simp [World.cell?, hP]
          have p6 : w5.cell? ⟨G + 1, 6, none⟩ = some (.int .i64 n) := by simp [World.cell?, hP]
          have p7 : w5.cell? ⟨G + 1, 7, none⟩ = some (.slice da dl dc) := by simp [World.cell?, hP]
          have hlt5 : G + 2 ≤ w5.heap.size := by have := HW5.out.size; rw [HG2.out] at this; exact this
          go_wp2_with fail
          refine (HI6.out _ HB5.out).mono ?_
          rintro e w6 ⟨⟨a6, c6, rfl, hs6, -⟩, hx6⟩
          have hh6 : Below (G + 2) ((w.alloc (.cells #[.slice ao ll c, .int .i64 loss] 24)).alloc (.cells #[.string op, .int .i64 A, .int .i64 B, .string name, .slice sa zl sc, .string K, .int .i64 n, .slice da dl dc] 28)) w6 := HW5.out.trans (hx6.mono hlt5)
          have HW6 : Hid _ := hh6
          have HB6 : Hid (Below w.heap.size w w6) := (HW.out _ _).trans (hh6.mono (by rw [HGG.out]; omega))
          have HX6 : Hid _ := hx6
          clear hh6 hx6
          clear g0 g1 hP p0 p1 p2 p3 p4 p5 p6 p7
          clear hlt5
          have HS6s : Hid _ := hs6
          clear hs6
          obtain ⟨g0, g1, hP⟩ := HC.out w6 HW6.out
          have p0 : w6.cell? ⟨G + 1, 0, none⟩ = some (.string op) := by simp [World.cell?, hP]
          have p1 : w6.cell? ⟨G + 1, 1, none⟩ = some (.int .i64 A) := by simp [World.cell?, hP]
          have p2 : w6.cell? ⟨G + 1, 2, none⟩ = some (.int .i64 B) := by simp [World.cell?, hP]
          have p3 : w6.cell? ⟨G + 1, 3, none⟩ = some (.string name) := by simp [World.cell?, hP]
          have p4 : w6.cell? ⟨G + 1, 4, none⟩ = some (.slice sa zl sc) := by simp [World.cell?, hP]
          have p5 : w6.cell? ⟨G + 1, 5, none⟩ = some (.string K) := by simp [World.cell?, hP]
          have p6 : w6.cell? ⟨G + 1, 6, none⟩ = some (.int .i64 n) := by simp [World.cell?, hP]
          have p7 : w6.cell? ⟨G + 1, 7, none⟩ = some (.slice da dl dc) := by simp [World.cell?, hP]
          have hlt6 : G + 2 ≤ w6.heap.size := by have := HW6.out.size; rw [HG2.out] at this; exact this
          go_wp2_with fail
          refine (HS6.out _ HB6.out).mono ?_
          rintro e w7 ⟨⟨a7, c7, rfl, hs7⟩, hx7⟩
          have hh7 : Below (G + 2) ((w.alloc (.cells #[.slice ao ll c, .int .i64 loss] 24)).alloc (.cells #[.string op, .int .i64 A, .int .i64 B, .string name, .slice sa zl sc, .string K, .int .i64 n, .slice da dl dc] 28)) w7 := HW6.out.trans (hx7.mono hlt6)
          have HW7 : Hid _ := hh7
          have HB7 : Hid (Below w.heap.size w w7) := (HW.out _ _).trans (hh7.mono (by rw [HGG.out]; omega))
          have HX7 : Hid _ := hx7
          clear hh7 hx7
          clear g0 g1 hP p0 p1 p2 p3 p4 p5 p6 p7
          clear hlt6
          have hsm := Sp.refSame_any a6 a7 s s c6 c7 w7 (by omega) (by omega) (sl_below HS6s.out HX7.out) hs7
          rw [decide_eq_true rfl] at hsm
          clear hs7
          generalize s.length = sl at hsm hs4 ⊢
          go_wp2_with fail
          refine hsm.mono ?_
          rintro e w8 ⟨rfl, hs8⟩
          have HB8 : Hid (Below w.heap.size w w8) := HB7.out.trans (hs8.below _)
          clear hs8 hsm
          go_wp2_with fail
          refine (HA.out _ HB8.out).mono ?_
          rintro e w9 ⟨rfl, hx9⟩
          have HB9 : Hid _ := HB8.out.trans (hx9.mono HB8.out.size)
          clear hx9
          go_wp2
          go_ret
          exact ⟨rfl, HB9.out⟩
end Go.Proofs.YtadgnafafdfioaaGreatDoor.Gr
