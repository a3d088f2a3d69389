/-
  THE WALK OF GraphShapes: the call gives true. Conditions: each theorem's own.
-/
import Derived.Test.YtadgnafafdfioaaDoorGaw
namespace Go.Proofs.YtadgnafafdfioaaDoor.Gr
open Go.Proofs.YtadgnafafdfioaaDoor.Rd
set_option maxRecDepth 100000
open Go.RowKit
set_option linter.unusedVariables false
set_option linter.unusedSimpArgs false

set_option maxHeartbeats 16000000 in
theorem graphShapes_ok (l : List Nd) (ao : Option Addr) (c : Nat) (loss : Int) (aF aZ : Addr) (w : World) (hE : Er w aF aZ) (hl : Nl w ao l) (hc : l.length ≤ c) (hcm : c ≤ maxLen) :
    Calls Tryd.prog 3 #[.agg #[.slice ao l.length c, .int .i64 loss]] w fun e w' => e = .returned (.bool true) ∧ Below w.heap.size w w' := by
  obtain ⟨G, hG⟩ : ∃ G, w.heap.size = G := ⟨_, rfl⟩
  have HA : Hid (∀ v, Below w.heap.size w v → Calls Tryd.prog 8 #[] v fun e w' => e = .returned (.bool true) ∧ Below v.heap.size v w') := fun v hv => awake_any aF aZ v (hE.below hv)
  have HS1 : Hid (∀ v, Below w.heap.size w v → Calls Tryd.prog 6 #[.agg #[.slice ao l.length c, .int .i64 loss]] v fun e w' => e = .returned (.bool (sml l)) ∧ Below v.heap.size v w') := fun v hv => Small_any l ao c loss v (hl.below hv)
  have HR2 : Hid (sml l = true → ∀ v, Below w.heap.size w v → Calls Tryd.prog 7 #[.agg #[.slice ao l.length c, .int .i64 loss]] v fun e w' => e = .returned (.bool (grt l loss)) ∧ Below v.heap.size v w') := fun hs v hv => Right_any l ao c loss aF aZ v (hE.below hv) (hl.below hv) hc hcm (fun i hi => sma_nb (sml_at hs hi))
  have HL : Hid (∀ v, Below w.heap.size w v → ∀ i, i < l.length → ∃ b off sa sc da dc, ao = some ⟨b, off, none⟩ ∧ Sp.Sl v sa (l.getD i zn).shape ∧ Row v da (txts (l.getD i zn).data) ∧
      v.cell? ⟨b, off + i * 8, none⟩ = some (.string (l.getD i zn).op) ∧ v.cell? ⟨b, off + i * 8 + 1, none⟩ = some (.int .i64 (l.getD i zn).a) ∧ v.cell? ⟨b, off + i * 8 + 2, none⟩ = some (.int .i64 (l.getD i zn).b) ∧ v.cell? ⟨b, off + i * 8 + 3, none⟩ = some (.string (l.getD i zn).name) ∧
      v.cell? ⟨b, off + i * 8 + 4, none⟩ = some (.slice sa (l.getD i zn).shape.length sc) ∧ v.cell? ⟨b, off + i * 8 + 5, none⟩ = some (.string (l.getD i zn).k) ∧ v.cell? ⟨b, off + i * 8 + 6, none⟩ = some (.int .i64 (l.getD i zn).n) ∧ v.cell? ⟨b, off + i * 8 + 7, none⟩ = some (.slice da (l.getD i zn).data.length dc)) := fun v hv i hi => (hl.below hv).at hi
  have HI : Hid (sml l = true → grt l loss = true → ∀ i, i < l.length → ∀ v sa sc da dc, Below w.heap.size w v → Sp.Sl v sa (l.getD i zn).shape → Row v da (txts (l.getD i zn).data) →
      (Calls Tryd.prog 9 #[.slice ao i c, nv (l.getD i zn) sa sc da dc] v fun e w' => Shi w' v.heap.size (some (l.getD i zn).shape) e ∧ Below v.heap.size v w') ∧ (Calls Tryd.prog 9 #[.slice ao l.length c, nv (l.getD i zn) sa sc da dc] v fun e w' => Shi w' v.heap.size (some (l.getD i zn).shape) e ∧ Below v.heap.size v w')) := fun hs hg i hi v sa sc da dc hv h1 h2 => by
    have hn := (grt_iff.1 hg).2.2.2.2
    have hk := shp_at hn hi
    have c1 := Infer_any (l.take i) (l.getD i zn) sc dc c sa da ao aF aZ v (hE.below hv) ((hl.below hv).take i) h1 h2 (sma_nb (sml_at hs hi)) (take_shapes (by omega) (fun j hj => nri_at hn (by omega)))
    have c2 := Infer_any l (l.getD i zn) sc dc c sa da ao aF aZ v (hE.below hv) (hl.below hv) h1 h2 (sma_nb (sml_at hs hi)) (fun j hj => rgt_at hn hj)
    rw [hk.1, show (l.take i).length = i from by rw [List.length_take]; omega] at c1
    rw [hk.2] at c2
    exact ⟨c1, c2⟩
  have HRg : Hid (grt l loss = true → ∀ i, i < l.length → Sp.Rgt (l.getD i zn).shape) := fun hg i hi => rgt_at (grt_iff.1 hg).2.2.2.2 hi
  have HSm : Hid (sml l = true → l.length ≤ 40) := fun h => sml_len h
  clear hE hl
  obtain ⟨sm, hsm⟩ : ∃ b, sml l = b := ⟨_, rfl⟩
  obtain ⟨gr, hgr⟩ : ∃ b, grt l loss = b := ⟨_, rfl⟩
  simp only [hsm, hgr] at HS1 HR2 HI HRg HSm
  clear hsm hgr
  obtain ⟨ll, hll⟩ : ∃ m, l.length = m := ⟨_, rfl⟩
  simp only [hll] at HS1 HR2 HL HI HRg HSm hc ⊢
  clear hll
  have HW : Hid (∀ o1, Below w.heap.size w (w.alloc o1)) := fun o1 => bl_alloc (Below.refl _ _) o1
  have hC : ∀ v, Below (G + 1) (w.alloc (.cells #[.slice ao ll c, .int .i64 loss] 24)) v → v.cell? ⟨G, 0, none⟩ = some (.slice ao ll c) ∧ v.cell? ⟨G, 1, none⟩ = some (.int .i64 loss) := fun v hv => by
    have b0 := heap_alloc_new w (.cells #[.slice ao ll c, .int .i64 loss] 24)
    rw [hG] at b0
    have f0 : v.heap[G]? = some (.cells #[.slice ao ll c, .int .i64 loss] 24 (0, 0)) := by rw [hv.block G (by omega)]; exact b0
    exact ⟨by simp [World.cell?, f0], by simp [World.cell?, f0]⟩
  have HC : Hid _ := hC
  have hg1 : (w.alloc (.cells #[.slice ao ll c, .int .i64 loss] 24)).heap.size = G + 1 := by rw [← hG]; simp
  have HG1 : Hid _ := hg1
  have HGG : Hid _ := hG
  clear hC hg1
  go_enter Tryd.func3, Tryd.ntmps3
  go_wp2_with fail
  refine (HS1.out _ (HW.out _)).mono ?_
  rintro e w2 ⟨rfl, hx2⟩
  have HW2 : Hid (Below (G + 1) (w.alloc (.cells #[.slice ao ll c, .int .i64 loss] 24)) w2) := hx2.mono (by rw [HG1.out]; exact Nat.le_refl _)
  have HB2 : Hid (Below w.heap.size w w2) := (HW.out _).trans (HW2.out.mono (by rw [HGG.out]; omega))
  clear hx2
  cases sm with
  | false =>
    go_wp2_with fail
    refine (HA.out _ HB2.out).mono ?_
    rintro e w3 ⟨rfl, hx3⟩
    have HB3 : Hid _ := HB2.out.trans (hx3.mono HB2.out.size)
    clear hx3
    go_wp2
    go_ret
    exact ⟨rfl, HB3.out⟩
  | true =>
    obtain ⟨g0, g1⟩ := HC.out w2 HW2.out
    have hlt2 : G + 1 ≤ w2.heap.size := by have := HW2.out.size; rw [HG1.out] at this; exact this
    go_wp2_with fail
    refine (HR2.out (by first | exact rfl | trivial) _ HB2.out).mono ?_
    rintro e w3 ⟨rfl, hx3⟩
    have HW3 : Hid (Below (G + 1) (w.alloc (.cells #[.slice ao ll c, .int .i64 loss] 24)) w3) := HW2.out.trans (hx3.mono hlt2)
    have HB3 : Hid (Below w.heap.size w w3) := (HW.out _).trans (HW3.out.mono (by rw [HGG.out]; omega))
    clear hx3 g0 g1 hlt2
    cases gr with
    | false =>
      go_wp2_with fail
      refine (HA.out _ HB3.out).mono ?_
      rintro e w4 ⟨rfl, hx4⟩
      have HB4 : Hid _ := HB3.out.trans (hx4.mono HB3.out.size)
      clear hx4
      go_wp2
      go_ret
      exact ⟨rfl, HB4.out⟩
    | true =>
      have hl40 := HSm.out (by first | exact rfl | trivial)
      have hI := HI.out (by first | exact rfl | trivial) (by first | exact rfl | trivial)
      have HI' : Hid _ := hI
      have hRg := HRg.out (by first | exact rfl | trivial)
      have HRg' : Hid _ := hRg
      clear hI hRg HI HRg HSm HR2 HS1
      obtain ⟨g0, g1⟩ := HC.out w3 HW3.out
      have HZ : Hid _ := And.intro g0 g1
      go_wp2_with fail
      clear hG g0 g1
      go_loopw [21] (fun i wr => ∃ k : Nat, k ≤ ll ∧ i = .int .i64 (k : Int) ∧ Below w.heap.size w wr ∧ wr.cell? ⟨G, 0, none⟩ = some (.slice ao ll c) ∧ wr.cell? ⟨G, 1, none⟩ = some (.int .i64 loss)) (fun i _ => ll - (intOf i).toNat)
      case atStart => exact ⟨0, by omega, rfl, HB3.out, HZ.out.1, HZ.out.2⟩
      case round =>
        obtain ⟨k, hk, rfl, hb, g0, g1⟩ := hrel
        have HBk : Hid (Below w.heap.size w wr) := hb
        have HBr2 : Hid (∀ o, Below wr.heap.size wr (wr.alloc o)) := fun o => bl_alloc (Below.refl _ _) o
        have gA0 : ∀ o, (wr.alloc o).cell? ⟨G, 0, none⟩ = some (.slice ao ll c) := fun o => cell_below (bl_alloc (Below.refl _ _) o) g0
        have gA1 : ∀ o, (wr.alloc o).cell? ⟨G, 1, none⟩ = some (.int .i64 loss) := fun o => cell_below (bl_alloc (Below.refl _ _) o) g1
        clear HZ
        by_cases h : k < ll
        · obtain ⟨b, off, sa, sc, da, dc, rfl, hS, hD, c0, c1, c2', c3', c4, c5, c6, c7⟩ := HL.out wr hb k h
          have hHI := HI'.out k h
          have hrg := HRg'.out k h
          have hSd : ∀ v, Below wr.heap.size wr v → Sp.Sl v sa (l.getD k zn).shape := fun v hv => sl_below hS hv
          have hDd : ∀ v, Below wr.heap.size wr v → Row v da (txts (l.getD k zn).data) := fun v hv => Row.below hD hv
          clear hb hS hD g0 g1
          obtain ⟨nd, hnd⟩ : ∃ z, l.getD k zn = z := ⟨_, rfl⟩
          rw [hnd] at c0 c1 c2' c3' c4 c5 c6 c7 hHI hrg hSd hDd
          clear hnd
          obtain ⟨op, A, B, name, zs, K, n, data⟩ := nd
          simp only at c0 c1 c2' c3' c4 c5 c6 c7 hSd hDd hrg hHI
          unfold nv ncl at hHI
          simp only at hHI
          have HI1 : Hid (∀ v, Below wr.heap.size wr v → Calls Tryd.prog 9 #[.slice (some ⟨b, off, none⟩) k c, .agg #[.string op, .int .i64 A, .int .i64 B, .string name, .slice sa zs.length sc, .string K, .int .i64 n, .slice da data.length dc]] v fun e w' => (∃ a c, e = .returned (.tuple #[.slice a zs.length c, .bool true]) ∧ Sp.Sl w' a zs ∧ True) ∧ Below v.heap.size v w') := fun v hv => by
            refine (hHI v sa sc da dc (HBk.out.trans (hv.mono HBk.out.size)) (hSd v hv) (hDd v hv)).1.mono ?_
            rintro e w' ⟨⟨a, c', e1, e2, _⟩, e3⟩
            exact ⟨⟨a, c', e1, e2, trivial⟩, e3⟩
          have HI2 : Hid (∀ v, Below wr.heap.size wr v → Calls Tryd.prog 9 #[.slice (some ⟨b, off, none⟩) ll c, .agg #[.string op, .int .i64 A, .int .i64 B, .string name, .slice sa zs.length sc, .string K, .int .i64 n, .slice da data.length dc]] v fun e w' => (∃ a c, e = .returned (.tuple #[.slice a zs.length c, .bool true]) ∧ Sp.Sl w' a zs ∧ True) ∧ Below v.heap.size v w') := fun v hv => by
            refine (hHI v sa sc da dc (HBk.out.trans (hv.mono HBk.out.size)) (hSd v hv) (hDd v hv)).2.mono ?_
            rintro e w' ⟨⟨a, c', e1, e2, _⟩, e3⟩
            exact ⟨⟨a, c', e1, e2, trivial⟩, e3⟩
          have hz4 := hrg.1
          have HSm1 : Hid (∀ v a c', Sp.Sl v a zs → Below wr.heap.size wr v → Calls Tryd.prog 10 #[.slice a zs.length c', .slice sa zs.length sc] v fun e w' => e = .returned (.bool true) ∧ Sp.Sm v w') := fun v a c' hs hv => by
            have := Sp.refSame_any a sa zs zs c' sc v (by omega) (by omega) hs (hSd v hv)
            rw [decide_eq_true rfl] at this
            exact this
          obtain ⟨sz, hsz⟩ : ∃ z, Sp.szI zs = z := ⟨_, rfl⟩
          have hsz64 : sz ≤ 64 := hsz ▸ Sp.szI_le zs
          have HSz : Hid (∀ v a c', Sp.Sl v a zs → Calls Tryd.prog 11 #[.slice a zs.length c'] v fun e w' => e = .returned (.int .i64 (sz : Nat)) ∧ w' = v) := fun v a c' hs => hsz ▸ Sp.refSize_any a zs c' v hrg hs
          clear hHI hrg hSd hDd hsz hz4
          obtain ⟨zl, hzl⟩ : ∃ m, zs.length = m := ⟨_, rfl⟩
          rw [hzl] at c4 HI1 HI2 HSm1 HSz
          generalize data.length = dl at c7 HI1 HI2
          clear hzl
          go_upto_region 6 with fail
          refine region_bar 5 (fun v => ∃ nq, v = (wr.alloc (.cells #[.string op, .int .i64 A, .int .i64 B, .string name, .slice sa zl sc, .string K, .int .i64 n, .slice da dl dc] 30)).drewN nq) (by kernel_rfl) (by kernel_rfl) (by kernel_rfl) ⟨1, rfl⟩ ?_
          simp only [List.take_succ_cons, List.take_zero]
          repeat (go_big_quiet_step (fail))
          refine wpQuiet_nil ?_
          rintro _ ⟨nq, rfl⟩
          have H0 : Hid _ := bl_n (HBr2.out (.cells #[.string op, .int .i64 A, .int .i64 B, .string name, .slice sa zl sc, .string K, .int .i64 n, .slice da dl dc] 30)) nq
          have hP := heap_alloc_new wr (.cells #[.string op, .int .i64 A, .int .i64 B, .string name, .slice sa zl sc, .string K, .int .i64 n, .slice da dl dc] 30)
          have hP0 : ((wr.alloc (.cells #[.string op, .int .i64 A, .int .i64 B, .string name, .slice sa zl sc, .string K, .int .i64 n, .slice da dl dc] 30)).drewN nq).heap[wr.heap.size]? = some (.cells #[.string op, .int .i64 A, .int .i64 B, .string name, .slice sa zl sc, .string K, .int .i64 n, .slice da dl dc] 30 (0, 0)) := hP
          have b0 : ((wr.alloc (.cells #[.string op, .int .i64 A, .int .i64 B, .string name, .slice sa zl sc, .string K, .int .i64 n, .slice da dl dc] 30)).drewN nq).cell? ⟨G, 0, none⟩ = _ := gA0 (.cells #[.string op, .int .i64 A, .int .i64 B, .string name, .slice sa zl sc, .string K, .int .i64 n, .slice da dl dc] 30)
          have b1 : ((wr.alloc (.cells #[.string op, .int .i64 A, .int .i64 B, .string name, .slice sa zl sc, .string K, .int .i64 n, .slice da dl dc] 30)).drewN nq).cell? ⟨G, 1, none⟩ = _ := gA1 (.cells #[.string op, .int .i64 A, .int .i64 B, .string name, .slice sa zl sc, .string K, .int .i64 n, .slice da dl dc] 30)
          clear hP
          generalize (wr.alloc (.cells #[.string op, .int .i64 A, .int .i64 B, .string name, .slice sa zl sc, .string K, .int .i64 n, .slice da dl dc] 30)).drewN nq = w0 at H0 hP0 b0 b1 ⊢
          obtain ⟨p, hp⟩ : ∃ p, wr.heap.size = p := ⟨_, rfl⟩
          have HPp : Hid _ := hp
          simp only [hp] at hP0 ⊢
          clear hp
          refine any_one 5 _ (by kernel_rfl) rfl (fun K1 hK1 => ?_)
          go_simp
          refine (HI1.out _ H0.out).mono ?_
          rintro e w2 ⟨⟨a2, c2, rfl, hs2, -⟩, h2⟩
          have H2 : Hid _ := H0.out.trans (h2.mono H0.out.size)
          have hP2 : w2.heap[p]? = some (.cells #[.string op, .int .i64 A, .int .i64 B, .string name, .slice sa zl sc, .string K, .int .i64 n, .slice da dl dc] 30 (0, 0)) := by rw [h2.block _ ((Array.getElem?_eq_some_iff.1 hP0).1)]; exact hP0
          have d0 := cell_below h2 b0
          have d1 := cell_below h2 b1
          clear b0 b1 h2 hP0 gA0 gA1
          go_simp
          refine hK1 _ _ ?_
          clear hK1 K1
          refine any_one 6 _ (by kernel_rfl) rfl (fun K1 hK1 => ?_)
          go_simp
          refine hK1 _ _ ?_
          clear hK1 K1
          refine any_fork' 8 7 9 _ (by kernel_rfl) (by kernel_rfl) (by kernel_rfl) (by kernel_rfl) (by kernel_rfl) (by kernel_rfl) rfl rfl rfl (fun K1 hK1 => ?_)
          apply one_end (K := K1) (w := w2)
          · intro fin
            refine ⟨?_, ?_⟩
            · refine op_step 8 _ rfl (fun K2 hK2 => ?_)
              go_simp
              refine hK2 _ _ ?_
              clear hK2 K2
              refine op_step 7 _ rfl (fun K2 hK2 => ?_)
              go_simp
              refine hK2 _ _ ?_
              clear hK2 K2
              refine op_step 9 _ rfl (fun K2 hK2 => ?_)
              go_simp
              refine hK2 _ _ ?_
              clear hK2 K2
              exact fin
            · refine op_step 7 _ rfl (fun K2 hK2 => ?_)
              go_simp
              refine hK2 _ _ ⟨?_, ?_⟩
              · clear hK2 K2
                refine op_step 8 _ rfl (fun K2 hK2 => ?_)
                go_simp
                refine hK2 _ _ ?_
                clear hK2 K2
                refine op_step 9 _ rfl (fun K2 hK2 => ?_)
                go_simp
                refine hK2 _ _ ?_
                clear hK2 K2
                exact fin
              · clear hK2 K2
                refine op_step 9 _ rfl (fun K2 hK2 => ?_)
                go_simp
                refine hK2 _ _ ?_
                clear hK2 K2
                refine op_step 8 _ rfl (fun K2 hK2 => ?_)
                go_simp
                refine hK2 _ _ ?_
                clear hK2 K2
                exact fin
          refine hK1 _ _ ?_
          clear hK1 K1
          refine any_one 10 _ (by kernel_rfl) rfl (fun K1 hK1 => ?_)
          go_simp
          refine hK1 _ _ ?_
          clear hK1 K1
          refine any_end (by kernel_rfl) ?_
          have p0 : w2.cell? ⟨p, 0, none⟩ = some (.string op) := by simp [World.cell?, hP2]
          have p1 : w2.cell? ⟨p, 1, none⟩ = some (.int .i64 A) := by simp [World.cell?, hP2]
          have p2 : w2.cell? ⟨p, 2, none⟩ = some (.int .i64 B) := by simp [World.cell?, hP2]
          have p3 : w2.cell? ⟨p, 3, none⟩ = some (.string name) := by simp [World.cell?, hP2]
          have p4 : w2.cell? ⟨p, 4, none⟩ = some (.slice sa zl sc) := by simp [World.cell?, hP2]
          have p5 : w2.cell? ⟨p, 5, none⟩ = some (.string K) := by simp [World.cell?, hP2]
          have p6 : w2.cell? ⟨p, 6, none⟩ = some (.int .i64 n) := by simp [World.cell?, hP2]
          have p7 : w2.cell? ⟨p, 7, none⟩ = some (.slice da dl dc) := by simp [World.cell?, hP2]
          have HS2 : Hid _ := hs2
          clear hs2
          go_wp2_with fail
          refine (HI2.out _ H2.out).mono ?_
          rintro e w3 ⟨⟨a3, c3, rfl, hs3, -⟩, h3⟩
          have H3 : Hid _ := H2.out.trans (h3.mono H2.out.size)
          have HS2b : Hid _ := sl_below HS2.out h3
          have HS3 : Hid _ := hs3
          have hP3 : w3.heap[p]? = some (.cells #[.string op, .int .i64 A, .int .i64 B, .string name, .slice sa zl sc, .string K, .int .i64 n, .slice da dl dc] 30 (0, 0)) := by rw [h3.block _ ((Array.getElem?_eq_some_iff.1 hP2).1)]; exact hP2
          have e0 := cell_below h3 d0
          have e1 := cell_below h3 d1
          have q4 : w3.cell? ⟨p, 4, none⟩ = some (.slice sa zl sc) := by simp [World.cell?, hP3]
          clear p0 p1 p2 p3 p4 p5 p6 p7 d0 d1 h3 hs3 hP2 hP3
          have hsa := HSm1.out w3 a2 c2 HS2b.out H3.out
          go_wp2_with fail
          refine hsa.mono ?_
          rintro e w4 ⟨rfl, hs4⟩
          have H4 : Hid (Below wr.heap.size wr w4) := H3.out.trans (hs4.below _)
          have HS2c : Hid _ := sl_below HS2b.out (hs4.below _)
          have HS3c : Hid _ := sl_below HS3.out (hs4.below _)
          have e0' : w4.cell? ⟨G, 0, none⟩ = _ := (hs4.cell _).trans e0
          have e1' : w4.cell? ⟨G, 1, none⟩ = _ := (hs4.cell _).trans e1
          have q4' : w4.cell? ⟨p, 4, none⟩ = _ := (hs4.cell _).trans q4
          clear e0 e1 q4 hs4 hsa
          have hsb := HSm1.out w4 a3 c3 HS3c.out H4.out
          go_wp2_with fail
          refine hsb.mono ?_
          rintro e w5 ⟨rfl, hs5⟩
          have H5 : Hid (Below wr.heap.size wr w5) := H4.out.trans (hs5.below _)
          have e0 : w5.cell? ⟨G, 0, none⟩ = _ := (hs5.cell _).trans e0'
          have e1 : w5.cell? ⟨G, 1, none⟩ = _ := (hs5.cell _).trans e1'
          have hsz := HSz.out w5 a2 c2 (sl_below HS2c.out (hs5.below _))
          clear hs5 hsb q4' e0' e1'
          go_wp2_with fail
          refine hsz.mono ?_
          rintro e w6 ⟨rfl, rfl⟩
          clear hsz
          go_wp2
          go_roundw
          case rel => exact ⟨k + 1, by omega, by go_num, HBk.out.trans (H5.out.mono HBk.out.size), e0, e1⟩
          case measure => simp [intOf]; omega

        · clear hb gA0 gA1
          go_wp2_with fail
          refine (HA.out _ HBk.out).mono ?_
          rintro e w4 ⟨rfl, hx4⟩
          have HB4 : Hid _ := HBk.out.trans (hx4.mono HBk.out.size)
          clear hx4
          go_wp2
          go_ret
          exact ⟨rfl, HB4.out⟩
end Go.Proofs.YtadgnafafdfioaaDoor.Gr
