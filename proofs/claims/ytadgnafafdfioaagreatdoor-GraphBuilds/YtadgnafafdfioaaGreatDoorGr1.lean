/-
  Right OF THE PROGRAM. Conditions: each theorem's own.
-/
import Derived.Test.YtadgnafafdfioaaGreatDoorGe
import Derived.Test.YtadgnafafdfioaaGreatDoorGR
import Derived.Test.YtadgnafafdfioaaGreatDoorSb
namespace Go.Proofs.YtadgnafafdfioaaGreatDoor.Gr
open Go.Proofs.YtadgnafafdfioaaGreatDoor.Rd
set_option maxRecDepth 100000
open Go.RowKit
set_option linter.unusedVariables false
set_option linter.unusedSimpArgs false

theorem run_zero3 (w : World) : (zeroValue 3).run Tryz.prog w = .ok (.int .i64 0) w := by kernel_rfl
theorem mz_drewN {w : World} {b : Nat} {l : List (ByteArray × Int)} (h : Mz w b l) (n : Nat) : Mz (w.drewN n) b l := h
set_option maxHeartbeats 16000000 in
theorem Right_any (l : List Nd) (ao : Option Addr) (c : Nat) (loss : Int) (aF aZ : Addr) (w : World) (hE : Er w aF aZ) (hl : Nl w ao l) (hc : l.length ≤ c) (hcm : c ≤ maxLen) (hnb : ∀ i, i < l.length → Nb (l.getD i zn)) :
    Calls Tryz.prog 9 #[.agg #[.slice ao l.length c, .int .i64 loss]] w fun e w' => e = .returned (.bool (grt l loss)) ∧ Below w.heap.size w w' := by
  have HB : Hid (∀ o, Below w.heap.size w (w.alloc o)) := fun o => bl_alloc (Below.refl _ _) o
  by_cases h200 : 200 < l.length
  · have e : grt l loss = false := grt_long h200
    rw [e]
    clear e hl hE hnb
    generalize l.length = ll at h200 hc ⊢
    go_enter Tryz.func9, Tryz.ntmps9
    go_wp2
    go_ret
    exact ⟨rfl, HB.out _⟩
  have HG : Hid ((∀ j, j < l.length → nri l j = true) → grt l loss = (inl l.length loss && decide ((sha l loss).length = 0))) := fun h => grt_end (by omega) (nrs_all h)
  have HNo : Hid (∀ k, k < l.length → nri l k = false → grt l loss = false) := fun k hk h => grt_nri hk h
  have HL : Hid (∀ v, Below w.heap.size w v → ∀ i, i < l.length → ∃ b off sa sc da dc, ao = some ⟨b, off, none⟩ ∧ Sp.Sl v sa (l.getD i zn).shape ∧ Row v da (txts (l.getD i zn).data) ∧
      v.cell? ⟨b, off + i * 8, none⟩ = some (.string (l.getD i zn).op) ∧ v.cell? ⟨b, off + i * 8 + 1, none⟩ = some (.int .i64 (l.getD i zn).a) ∧ v.cell? ⟨b, off + i * 8 + 2, none⟩ = some (.int .i64 (l.getD i zn).b) ∧ v.cell? ⟨b, off + i * 8 + 3, none⟩ = some (.string (l.getD i zn).name) ∧
      v.cell? ⟨b, off + i * 8 + 4, none⟩ = some (.slice sa (l.getD i zn).shape.length sc) ∧ v.cell? ⟨b, off + i * 8 + 5, none⟩ = some (.string (l.getD i zn).k) ∧ v.cell? ⟨b, off + i * 8 + 6, none⟩ = some (.int .i64 (l.getD i zn).n) ∧ v.cell? ⟨b, off + i * 8 + 7, none⟩ = some (.slice da (l.getD i zn).data.length dc)) := fun v hv i hi => (hl.below hv).at hi
  have HInf : Hid (∀ k, k < l.length → (∀ j, j < k → nri l j = true) → ∀ v, Below w.heap.size w v → ∀ sa sc da dc, Sp.Sl v sa (l.getD k zn).shape → Row v da (txts (l.getD k zn).data) → Calls Tryz.prog 10 #[.slice ao k c, nv (l.getD k zn) sa sc da dc] v fun e w' => Shi w' v.heap.size (shp (l.take k) (l.getD k zn)) e ∧ Below v.heap.size v w') := fun k hk hj v hv sa sc da dc h1 h2 => by
    have := Infer_any (l.take k) (l.getD k zn) sc dc c sa da ao aF aZ v (hE.below hv) ((hl.below hv).take k) h1 h2 (hnb k hk) (take_shapes (by omega) hj)
    rw [show (l.take k).length = k from by rw [List.length_take]; omega] at this
    exact this
  have HNb : Hid _ := hnb
  have HSh : Hid (∀ i, i < l.length → sha l (i : Int) = (l.getD i zn).shape) := fun i hi => rfl
  generalize grt l loss = gr at HG HNo ⊢
  obtain ⟨N, hN⟩ : ∃ N, l.length = N := ⟨_, rfl⟩
  rw [hN] at HG HNo HL HInf HNb HSh h200 hc ⊢
  clear hN hl hE hnb
  obtain ⟨G, hGz⟩ : ∃ G, w.heap.size = G := ⟨_, rfl⟩
  have HGz : Hid _ := hGz
  have m0 : Mz ((w.alloc (.cells #[.slice ao N c, .int .i64 loss] 24)).alloc (.map #[] 0)) (G + 1) (nps l 0) := by
    have := Mz.nil (w.alloc (.cells #[.slice ao N c, .int .i64 loss] 24))
    rw [show (w.alloc (.cells #[.slice ao N c, .int .i64 loss] 24)).heap.size = G + 1 from by rw [← hGz]; simp] at this
    exact this
  have HM0 : Hid _ := m0
  have HBB : Hid (∀ o o', Below w.heap.size w ((w.alloc o).alloc o')) := fun o o' => bl_alloc (HB.out o) o'
  have z0 : ((w.alloc (.cells #[.slice ao N c, .int .i64 loss] 24)).alloc (.map #[] 0)).cell? ⟨G, 0, none⟩ = some (.slice ao N c) := by
    rw [← hGz]
    exact cell_below (bl_alloc (Below.refl _ _) _) (World.cell?_alloc_new w _ _ 0)
  have z1 : ((w.alloc (.cells #[.slice ao N c, .int .i64 loss] 24)).alloc (.map #[] 0)).cell? ⟨G, 1, none⟩ = some (.int .i64 loss) := by
    rw [← hGz]
    exact cell_below (bl_alloc (Below.refl _ _) _) (World.cell?_alloc_new w _ _ 1)
  have HZ : Hid _ := And.intro z0 z1
  clear z0 z1 m0
  have hmm := @run_makeMap Tryz.prog
  go_enter Tryz.func9, Tryz.ntmps9
  go_wp2_with fail
  clear hGz hmm
  go_loopw [18] (fun i wr => ∃ k : Nat, k ≤ N ∧ i = .int .i64 (k : Int) ∧ (∀ j, j < k → nri l j = true) ∧ Below w.heap.size w wr ∧ wr.cell? ⟨G, 0, none⟩ = some (.slice ao N c) ∧ wr.cell? ⟨G, 1, none⟩ = some (.int .i64 loss) ∧ Mz wr (G + 1) (nps l k)) (fun i _ => N - (intOf i).toNat)
  case atStart => exact ⟨0, by omega, rfl, fun j hj => by omega, HBB.out _ _, HZ.out.1, HZ.out.2, HM0.out⟩
  case round =>
    obtain ⟨k, hk, rfl, hj, hb, g0, g1, hm⟩ := hrel
    have HJ : Hid (∀ j, j < k → nri l j = true) := hj
    have HBk : Hid (Below w.heap.size w wr) := hb
    have HBr : Hid (∀ o, Below w.heap.size w (wr.alloc o)) := fun o => hb.alloc hb.size o
    have HMr : Hid (∀ o n, Mz ((wr.alloc o).drewN n) (G + 1) (nps l k)) := fun o n => mz_drewN (hm.below (bl_alloc (Below.refl _ _) o) hm.lt) n
    have HMk : Hid (Mz wr (G + 1) (nps l k)) := hm
    have gA0 : ∀ o, (wr.alloc o).cell? ⟨G, 0, none⟩ = some (.slice ao N c) := fun o => cell_below (bl_alloc (Below.refl _ _) o) g0
    have gA1 : ∀ o, (wr.alloc o).cell? ⟨G, 1, none⟩ = some (.int .i64 loss) := fun o => cell_below (bl_alloc (Below.refl _ _) o) g1
    clear hj hm HM0 HZ
    by_cases h : k < N
    · obtain ⟨b, off, sa, sc, da, dc, rfl, hS, hD, c0, c1, c2, c3, c4, c5, c6, c7⟩ := HL.out wr hb k h
      have HI := HInf.out k h HJ.out
      have hnk := HNb.out k h
      have HF : Hid (nri l k = false → gr = false) := HNo.out k h
      have HP : Hid (shp (l.take k) (l.getD k zn) = some (l.getD k zn).shape → nmd (l.getD k zn).op = false → nri l k = true) := nri_plain
      have HQ : Hid (shp (l.take k) (l.getD k zn) = some (l.getD k zn).shape → nmd (l.getD k zn).op = true → nri l k = (fp (nps l k) (l.getD k zn).name).isNone) := nri_named HJ.out
      have HR : Hid (¬ shp (l.take k) (l.getD k zn) = some (l.getD k zn).shape → nri l k = false) := nri_shape_no
      have HNx : Hid (nps l (k + 1) = nps l k ++ (if nmd (l.getD k zn).op then [((l.getD k zn).name, (k : Int))] else [])) := rfl
      have hSd : ∀ v, Below wr.heap.size wr v → Sp.Sl v sa (l.getD k zn).shape := fun v hv => sl_below hS hv
      have hDd : ∀ v, Below wr.heap.size wr v → Row v da (txts (l.getD k zn).data) := fun v hv => Row.below hD hv
      clear hb hS hD g0 g1
      obtain ⟨nd, hnd⟩ : ∃ z, l.getD k zn = z := ⟨_, rfl⟩
      rw [hnd] at c0 c1 c2 c3 c4 c5 c6 c7 HI HP HQ HR HNx hSd hDd hnk
      clear hnd
      obtain ⟨op, A, B, name, zs, K, n, data⟩ := nd
      simp only at c0 c1 c2 c3 c4 c5 c6 c7 hSd hDd
      simp only at HP HQ HR HNx
      have hsz : name.size ≤ maxLen := by have := hnk.2.2.2.1; simp only at this; unfold maxLen; omega
      have HSZ : Hid _ := hsz
      have HZZ : Hid (zs.length ≤ 1000) := hnk.1
      clear hsz hnk
      have HIn : Hid (∀ v, Below wr.heap.size wr v → Calls Tryz.prog 10 #[.slice (some ⟨b, off, none⟩) k c, nv ⟨op, A, B, name, zs, K, n, data⟩ sa sc da dc] v fun e w' => Shi w' v.heap.size (shp (l.take k) ⟨op, A, B, name, zs, K, n, data⟩) e ∧ Below v.heap.size v w') := fun v hv => HI v (HBk.out.trans (hv.mono HBk.out.size)) sa sc da dc (hSd v hv) (hDd v hv)
      have HSd : Hid _ := hSd
      clear HI hSd hDd
      unfold nv ncl at HIn
      simp only at HIn
      have HLs : Hid (∀ s, shp (l.take k) ⟨op, A, B, name, zs, K, n, data⟩ = some s → Sp.Rgt s) := fun s h => shp_rgt h
      obtain ⟨sh, hsh⟩ : ∃ o, shp (l.take k) ⟨op, A, B, name, zs, K, n, data⟩ = o := ⟨_, rfl⟩
      rw [hsh] at HIn HP HQ HR HLs
      clear hsh
      obtain ⟨zl, hzl⟩ : ∃ m, zs.length = m := ⟨_, rfl⟩
      have HZl : Hid _ := hzl
      rw [hzl] at c4 HIn
      generalize data.length = dl at c7 HIn
      clear hzl
      have HBr2 : Hid (∀ o, Below wr.heap.size wr (wr.alloc o)) := fun o => bl_alloc (Below.refl _ _) o
      cases sh with
      | none =>
        have HFr : Hid (gr = false) := HF.out (HR.out (by simp))
        go_upto_region 7 with fail
        refine region_bar 5 (fun v => ∃ nq, v = (wr.alloc (.cells #[.string op, .int .i64 A, .int .i64 B, .string name, .slice sa zl sc, .string K, .int .i64 n, .slice da dl dc] 28)).drewN nq) (by kernel_rfl) (by kernel_rfl) (by kernel_rfl) ⟨1, rfl⟩ ?_
        simp only [List.take_succ_cons, List.take_zero]
        repeat (go_big_quiet_step (fail))
        refine wpQuiet_nil ?_
        rintro _ ⟨nq, rfl⟩
        have H0 : Hid _ := bl_n (HBr2.out (.cells #[.string op, .int .i64 A, .int .i64 B, .string name, .slice sa zl sc, .string K, .int .i64 n, .slice da dl dc] 28)) nq
        have p0 := cell_newn wr #[.string op, .int .i64 A, .int .i64 B, .string name, .slice sa zl sc, .string K, .int .i64 n, .slice da dl dc] 28 nq 0
        have p3 := cell_newn wr #[.string op, .int .i64 A, .int .i64 B, .string name, .slice sa zl sc, .string K, .int .i64 n, .slice da dl dc] 28 nq 3
        have p4 := cell_newn wr #[.string op, .int .i64 A, .int .i64 B, .string name, .slice sa zl sc, .string K, .int .i64 n, .slice da dl dc] 28 nq 4
        have b0 : ((wr.alloc (.cells #[.string op, .int .i64 A, .int .i64 B, .string name, .slice sa zl sc, .string K, .int .i64 n, .slice da dl dc] 28)).drewN nq).cell? ⟨G, 0, none⟩ = _ := gA0 (.cells #[.string op, .int .i64 A, .int .i64 B, .string name, .slice sa zl sc, .string K, .int .i64 n, .slice da dl dc] 28)
        have b1 : ((wr.alloc (.cells #[.string op, .int .i64 A, .int .i64 B, .string name, .slice sa zl sc, .string K, .int .i64 n, .slice da dl dc] 28)).drewN nq).cell? ⟨G, 1, none⟩ = _ := gA1 (.cells #[.string op, .int .i64 A, .int .i64 B, .string name, .slice sa zl sc, .string K, .int .i64 n, .slice da dl dc] 28)
        have HM0 : Hid (Mz ((wr.alloc (.cells #[.string op, .int .i64 A, .int .i64 B, .string name, .slice sa zl sc, .string K, .int .i64 n, .slice da dl dc] 28)).drewN nq) (G + 1) (nps l k)) := HMr.out (.cells #[.string op, .int .i64 A, .int .i64 B, .string name, .slice sa zl sc, .string K, .int .i64 n, .slice da dl dc] 28) nq
        have hM1 : G + 1 < ((wr.alloc (.cells #[.string op, .int .i64 A, .int .i64 B, .string name, .slice sa zl sc, .string K, .int .i64 n, .slice da dl dc] 28)).drewN nq).heap.size := HM0.out.lt
        have hwp : wr.heap.size < ((wr.alloc (.cells #[.string op, .int .i64 A, .int .i64 B, .string name, .slice sa zl sc, .string K, .int .i64 n, .slice da dl dc] 28)).drewN nq).heap.size := by simp
        generalize (wr.alloc (.cells #[.string op, .int .i64 A, .int .i64 B, .string name, .slice sa zl sc, .string K, .int .i64 n, .slice da dl dc] 28)).drewN nq = w0 at H0 p0 p3 p4 b0 b1 HM0 hM1 hwp ⊢
        obtain ⟨p, hp⟩ : ∃ p, wr.heap.size = p := ⟨_, rfl⟩
        simp only [hp] at p0 p3 p4 hwp ⊢
        clear hp
        simp at p0 p3 p4
        refine any_one 5 _ (by kernel_rfl) rfl (fun K1 hK1 => ?_)
        go_simp
        refine (HIn.out _ H0.out).mono ?_
        rintro e w2 ⟨rfl, h2⟩
        have H2 : Hid _ := H0.out.trans (h2.mono H0.out.size)
        have q0 := cell_below h2 p0
        have q3 := cell_below h2 p3
        have q4 := cell_below h2 p4
        have d0 := cell_below h2 b0
        have d1 := cell_below h2 b1
        have HM2 : Hid (Mz w2 (G + 1) (nps l k)) := HM0.out.below h2 hM1
        clear p0 p3 p4 b0 b1 h2 HM0 gA0 gA1
        go_simp
        refine hK1 _ _ ?_
        clear hK1 K1
        refine any_one 6 _ (by kernel_rfl) rfl (fun K1 hK1 => ?_)
        go_simp
        refine hK1 _ _ ?_
        clear hK1 K1
        refine any_fork' 8 7 9 _ (by kernel_rfl) (by kernel_rfl) (by kernel_rfl) (by kernel_rfl) (by kernel_rfl) (by kernel_rfl) rfl rfl rfl (fun K1 hK1 => ?_)
        apply one_end (K := K1) (w := w2)
        · intro fin
          refine ⟨?_, ?_⟩
          · refine op_step 8 _ rfl (fun K2 hK2 => ?_)
            go_simp
            refine hK2 _ _ ?_
            clear hK2 K2
            refine op_step 7 _ rfl (fun K2 hK2 => ?_)
            go_simp
            refine hK2 _ _ ?_
            clear hK2 K2
            refine op_step 9 _ rfl (fun K2 hK2 => ?_)
            go_simp
            refine hK2 _ _ ?_
            clear hK2 K2
            exact fin
          · refine op_step 7 _ rfl (fun K2 hK2 => ?_)
            go_simp
            refine hK2 _ _ ⟨?_, ?_⟩
            · clear hK2 K2
              refine op_step 8 _ rfl (fun K2 hK2 => ?_)
              go_simp
              refine hK2 _ _ ?_
              clear hK2 K2
              refine op_step 9 _ rfl (fun K2 hK2 => ?_)
              go_simp
              refine hK2 _ _ ?_
              clear hK2 K2
              exact fin
            · clear hK2 K2
              refine op_step 9 _ rfl (fun K2 hK2 => ?_)
              go_simp
              refine hK2 _ _ ?_
              clear hK2 K2
              refine op_step 8 _ rfl (fun K2 hK2 => ?_)
              go_simp
              refine hK2 _ _ ?_
              clear hK2 K2
              exact fin
        refine hK1 _ _ ?_
        clear hK1 K1
        refine any_one 10 _ (by kernel_rfl) rfl (fun K1 hK1 => ?_)
        go_simp
        refine hK1 _ _ ?_
        clear hK1 K1
        refine any_end (by kernel_rfl) ?_
        go_wp2
        go_ret
        exact ⟨by rw [HFr.out]; rfl, HBk.out.trans (H2.out.mono HBk.out.size)⟩

      | some s =>
        have hs1000 : s.length ≤ 1000 := by have := (HLs.out s rfl).1; omega
        go_upto_region 7 with fail
        refine region_bar 5 (fun v => ∃ nq, v = (wr.alloc (.cells #[.string op, .int .i64 A, .int .i64 B, .string name, .slice sa zl sc, .string K, .int .i64 n, .slice da dl dc] 28)).drewN nq) (by kernel_rfl) (by kernel_rfl) (by kernel_rfl) ⟨1, rfl⟩ ?_
        simp only [List.take_succ_cons, List.take_zero]
        repeat (go_big_quiet_step (fail))
        refine wpQuiet_nil ?_
        rintro _ ⟨nq, rfl⟩
        have H0 : Hid _ := bl_n (HBr2.out (.cells #[.string op, .int .i64 A, .int .i64 B, .string name, .slice sa zl sc, .string K, .int .i64 n, .slice da dl dc] 28)) nq
        have p0 := cell_newn wr #[.string op, .int .i64 A, .int .i64 B, .string name, .slice sa zl sc, .string K, .int .i64 n, .slice da dl dc] 28 nq 0
        have p3 := cell_newn wr #[.string op, .int .i64 A, .int .i64 B, .string name, .slice sa zl sc, .string K, .int .i64 n, .slice da dl dc] 28 nq 3
        have p4 := cell_newn wr #[.string op, .int .i64 A, .int .i64 B, .string name, .slice sa zl sc, .string K, .int .i64 n, .slice da dl dc] 28 nq 4
        have b0 : ((wr.alloc (.cells #[.string op, .int .i64 A, .int .i64 B, .string name, .slice sa zl sc, .string K, .int .i64 n, .slice da dl dc] 28)).drewN nq).cell? ⟨G, 0, none⟩ = _ := gA0 (.cells #[.string op, .int .i64 A, .int .i64 B, .string name, .slice sa zl sc, .string K, .int .i64 n, .slice da dl dc] 28)
        have b1 : ((wr.alloc (.cells #[.string op, .int .i64 A, .int .i64 B, .string name, .slice sa zl sc, .string K, .int .i64 n, .slice da dl dc] 28)).drewN nq).cell? ⟨G, 1, none⟩ = _ := gA1 (.cells #[.string op, .int .i64 A, .int .i64 B, .string name, .slice sa zl sc, .string K, .int .i64 n, .slice da dl dc] 28)
        have HM0 : Hid (Mz ((wr.alloc (.cells #[.string op, .int .i64 A, .int .i64 B, .string name, .slice sa zl sc, .string K, .int .i64 n, .slice da dl dc] 28)).drewN nq) (G + 1) (nps l k)) := HMr.out (.cells #[.string op, .int .i64 A, .int .i64 B, .string name, .slice sa zl sc, .string K, .int .i64 n, .slice da dl dc] 28) nq
        have hM1 : G + 1 < ((wr.alloc (.cells #[.string op, .int .i64 A, .int .i64 B, .string name, .slice sa zl sc, .string K, .int .i64 n, .slice da dl dc] 28)).drewN nq).heap.size := HM0.out.lt
        have hwp : wr.heap.size < ((wr.alloc (.cells #[.string op, .int .i64 A, .int .i64 B, .string name, .slice sa zl sc, .string K, .int .i64 n, .slice da dl dc] 28)).drewN nq).heap.size := by simp
        generalize (wr.alloc (.cells #[.string op, .int .i64 A, .int .i64 B, .string name, .slice sa zl sc, .string K, .int .i64 n, .slice da dl dc] 28)).drewN nq = w0 at H0 p0 p3 p4 b0 b1 HM0 hM1 hwp ⊢
        obtain ⟨p, hp⟩ : ∃ p, wr.heap.size = p := ⟨_, rfl⟩
        simp only [hp] at p0 p3 p4 hwp ⊢
        clear hp
        simp at p0 p3 p4
        refine any_one 5 _ (by kernel_rfl) rfl (fun K1 hK1 => ?_)
        go_simp
        refine (HIn.out _ H0.out).mono ?_
        rintro e w2 ⟨⟨a2, c2, rfl, hs2, hf2⟩, h2⟩
        have H2 : Hid _ := H0.out.trans (h2.mono H0.out.size)
        have q0 := cell_below h2 p0
        have q3 := cell_below h2 p3
        have q4 := cell_below h2 p4
        have d0 := cell_below h2 b0
        have d1 := cell_below h2 b1
        have HM2 : Hid (Mz w2 (G + 1) (nps l k)) := HM0.out.below h2 hM1
        clear p0 p3 p4 b0 b1 h2 HM0 gA0 gA1
        go_simp
        refine hK1 _ _ ?_
        clear hK1 K1
        refine any_one 6 _ (by kernel_rfl) rfl (fun K1 hK1 => ?_)
        go_simp
        refine hK1 _ _ ?_
        clear hK1 K1
        refine any_fork' 8 7 9 _ (by kernel_rfl) (by kernel_rfl) (by kernel_rfl) (by kernel_rfl) (by kernel_rfl) (by kernel_rfl) rfl rfl rfl (fun K1 hK1 => ?_)
        apply one_end (K := K1) (w := w2)
        · intro fin
          refine ⟨?_, ?_⟩
          · refine op_step 8 _ rfl (fun K2 hK2 => ?_)
            go_simp
            refine hK2 _ _ ?_
            clear hK2 K2
            refine op_step 7 _ rfl (fun K2 hK2 => ?_)
            go_simp
            refine hK2 _ _ ?_
            clear hK2 K2
            refine op_step 9 _ rfl (fun K2 hK2 => ?_)
            go_simp
            refine hK2 _ _ ?_
            clear hK2 K2
            exact fin
          · refine op_step 7 _ rfl (fun K2 hK2 => ?_)
            go_simp
            refine hK2 _ _ ⟨?_, ?_⟩
            · clear hK2 K2
              refine op_step 8 _ rfl (fun K2 hK2 => ?_)
              go_simp
              refine hK2 _ _ ?_
              clear hK2 K2
              refine op_step 9 _ rfl (fun K2 hK2 => ?_)
              go_simp
              refine hK2 _ _ ?_
              clear hK2 K2
              exact fin
            · clear hK2 K2
              refine op_step 9 _ rfl (fun K2 hK2 => ?_)
              go_simp
              refine hK2 _ _ ?_
              clear hK2 K2
              refine op_step 8 _ rfl (fun K2 hK2 => ?_)
              go_simp
              refine hK2 _ _ ?_
              clear hK2 K2
              exact fin
        refine hK1 _ _ ?_
        clear hK1 K1
        refine any_one 10 _ (by kernel_rfl) rfl (fun K1 hK1 => ?_)
        go_simp
        refine hK1 _ _ ?_
        clear hK1 K1
        refine any_end (by kernel_rfl) ?_
        have hsm := Sp.same_any a2 sa s zs c2 sc w2 hs1000 HZZ.out hs2 (HSd.out w2 H2.out)
        rw [HZl.out] at hsm
        obtain ⟨d, hd⟩ : ∃ d, decide (s = zs) = d := ⟨_, rfl⟩
        rw [hd] at hsm
        clear hs2 hf2
        generalize s.length = sn at hsm hs1000 ⊢
        cases d with
        | false =>
          have HFr : Hid (gr = false) := HF.out (HR.out (by intro e; cases e; simp at hd))
          clear hd
          go_wp2_with fail
          refine hsm.mono ?_
          rintro e w3 ⟨rfl, hs3⟩
          have H3 : Hid _ := H2.out.trans (hs3.below _)
          clear hs3
          go_wp2
          go_ret
          exact ⟨by rw [HFr.out]; rfl, HBk.out.trans (H3.out.mono HBk.out.size)⟩
        | true =>
          have hsz : s = zs := by simpa using hd
          have HPp : Hid (nmd op = false → nri l k = true) := HP.out (by rw [hsz])
          have HQq : Hid (nmd op = true → nri l k = (fp (nps l k) name).isNone) := HQ.out (by rw [hsz])
          clear hd hsz HP HQ HR
          go_wp2_with fail
          refine hsm.mono ?_
          rintro e w3 ⟨rfl, hs3⟩
          have H3 : Hid _ := H2.out.trans (hs3.below _)
          have r0 : w3.cell? ⟨p, 0, none⟩ = _ := (hs3.cell _).trans q0
          have r3 : w3.cell? ⟨p, 3, none⟩ = _ := (hs3.cell _).trans q3
          have e0 : w3.cell? ⟨G, 0, none⟩ = _ := (hs3.cell _).trans d0
          have e1 : w3.cell? ⟨G, 1, none⟩ = _ := (hs3.cell _).trans d1
          have m3 : Mz w3 (G + 1) (nps l k) := by have := HM2.out; unfold Mz at this ⊢; rw [hs3.heap]; exact this
          have HM3 : Hid _ := m3
          clear hs3 q0 q3 q4 d0 d1 hsm m3
          obtain ⟨q, hq⟩ : ∃ q, nmd op = q := ⟨_, rfl⟩
          have hN := named_any op w3
          rw [hq] at hN HPp HQq HNx
          clear hq
          go_wp2_with fail
          refine hN.mono ?_
          rintro e w4 ⟨rfl, rfl⟩
          clear hN
          cases q with
          | false =>
            go_wp2
            go_roundw
            case rel =>
              refine ⟨k + 1, by omega, by go_num, fun j hj => ?_, HBk.out.trans (H3.out.mono HBk.out.size), e0, e1, ?_⟩
              · by_cases e : j = k
                · rw [e]; exact HPp.out (by first | exact rfl | trivial)
                · exact HJ.out j (by omega)
              · have := HNx.out
                simp only [Bool.false_eq_true, if_false, List.append_nil] at this
                rw [this]; exact HM3.out
            case measure => simp [intOf]; omega
          | true =>
            obtain ⟨v, hv⟩ : ∃ v, fp (nps l k) name = v := ⟨_, rfl⟩
            cases v with
            | some x =>
              have hlk := Mz.look (P := Tryz.prog) HM3.out Tryz.underlying50 Tryz.underlying9 HSZ.out hv
              have HFr : Hid (gr = false) := HF.out (by rw [HQq.out rfl, hv]; rfl)
              clear hv
              go_wp2
              go_ret
              exact ⟨by rw [HFr.out]; rfl, HBk.out.trans (H3.out.mono HBk.out.size)⟩
            | none =>
              have hlk := Mz.look_no (P := Tryz.prog) HM3.out Tryz.underlying50 Tryz.underlying9 HSZ.out hv (run_zero3 _)
              obtain ⟨w5, hput, hM5, ob, hw5⟩ := Mz.put (P := Tryz.prog) (n := (k : Int)) HM3.out Tryz.underlying50 Tryz.underlying9 HSZ.out hv
              have HNr : Hid (nri l k = true) := by
                have := HQq.out rfl
                rw [hv] at this
                exact this
              have HM5 : Hid _ := hM5
              have HW5 : Hid _ := hw5
              clear hv hM5 hw5
              go_wp2
              go_roundw
              case rel =>
                refine ⟨k + 1, by omega, by go_num, fun j hj => ?_, ?_, ?_, ?_, ?_⟩
                · by_cases e : j = k
                  · rw [e]; exact HNr.out
                  · exact HJ.out j (by omega)
                · rw [HW5.out]
                  exact below_set (HBk.out.trans (H3.out.mono HBk.out.size)) (by rw [HGz.out]; omega) _
                · rw [HW5.out, cell_set _ (by omega)]; exact e0
                · rw [HW5.out, cell_set _ (by omega)]; exact e1
                · have := HNx.out
                  simp only [if_true] at this
                  rw [this]; exact HM5.out
              case measure => simp [intOf]; omega

    · have hkN : k = N := by omega
      have HT := HG.out (fun j hj => HJ.out j (by omega))
      have HTT : Hid _ := HT
      clear HT
      obtain ⟨q, hq⟩ : ∃ q, inl N loss = q := ⟨_, rfl⟩
      have hA := ahead_any ao N c loss wr
      rw [hq] at hA
      cases q with
      | false =>
        have HFr : Hid (gr = false) := by have := HTT.out; rw [hq] at this; rw [this]; rfl
        clear hb hq
        go_wp2_with fail
        refine hA.mono ?_
        rintro e w2 ⟨rfl, rfl⟩
        go_wp2
        go_ret
        exact ⟨by rw [HFr.out]; rfl, HBk.out⟩
      | true =>
        obtain ⟨i, rfl⟩ : ∃ i : Nat, loss = i := ⟨loss.toNat, by have := inl_iff.1 hq; omega⟩
        have hi : i < N := by have := inl_iff.1 hq; omega
        obtain ⟨b, off, sa, sc, da, dc, rfl, -, -, c0, c1, c2, c3, c4, c5, c6, c7⟩ := HL.out wr hb i hi
        have hsh := HSh.out i hi
        have HFr : Hid (gr = decide ((l.getD i zn).shape.length = 0)) := by have := HTT.out; rw [hq, Bool.true_and, hsh] at this; exact this
        clear hb hq c0 c1 c2 c3 c5 c6 c7 hsh
        generalize (l.getD i zn).shape.length = zl at c4 HFr
        go_wp2_with fail
        refine hA.mono ?_
        rintro e w2 ⟨rfl, rfl⟩
        by_cases hz : zl = 0
        · subst hz
          go_wp2
          go_ret
          exact ⟨by rw [HFr.out]; rfl, HBk.out⟩
        · have hz1 : ((zl : Int) == 0) = false := by simp; omega
          go_wp2
          go_ret
          exact ⟨by rw [HFr.out, decide_eq_false hz]; rfl, HBk.out⟩
end Go.Proofs.YtadgnafafdfioaaGreatDoor.Gr
