/-
  Right OF THE DOCUMENT. Conditions: each theorem's own.
-/
import Derived.Test.YtadgnafafdfioaaGreatDoorGy
import Derived.Test.YtadgnafafdfioaaGreatDoorGR
import Derived.Test.YtadgnafafdfioaaGreatDoorSb
import Derived.Test.YtadgnafafdfioaaGreatDoorGa
namespace Go.Proofs.YtadgnafafdfioaaGreatDoor.Gr
open Go.Proofs.YtadgnafafdfioaaGreatDoor.Rd
set_option maxRecDepth 100000
open Go.RowKit
set_option linter.unusedVariables false
set_option linter.unusedSimpArgs false

set_option maxHeartbeats 16000000 in
theorem refRight_any (l : List Nd) (ao : Option Addr) (c : Nat) (loss : Int) (w : World) (hl : Nl w ao l) (hc : l.length ≤ c) (hcm : c ≤ maxLen) (hnb : ∀ i, i < l.length → Nb (l.getD i zn)) :
    Calls Tryz.prog 8 #[.agg #[.slice ao l.length c, .int .i64 loss]] w fun e w' => e = .returned (.bool (grt l loss)) ∧ Below w.heap.size w w' := by
  have HB : Hid (∀ o, Below w.heap.size w (w.alloc o)) := fun o => bl_alloc (Below.refl _ _) o
  by_cases h1 : l.length < 1
  · have e : grt l loss = false := by unfold grt; rw [decide_eq_false (p := 1 ≤ l.length) (by omega)]; simp
    rw [e]
    clear e hl hnb
    generalize l.length = ll at *
    go_enter Tryz.func8, Tryz.ntmps8
    go_wp2
    go_ret
    exact ⟨rfl, HB.out _⟩
  by_cases h200 : 200 < l.length
  · have e : grt l loss = false := grt_long h200
    rw [e]
    clear e hl hnb
    generalize l.length = ll at *
    go_enter Tryz.func8, Tryz.ntmps8
    go_wp2
    go_ret
    exact ⟨rfl, HB.out _⟩
  by_cases hn : loss < 0
  · have e : grt l loss = false := by unfold grt inl; rw [decide_eq_false (p := 0 ≤ loss) (by omega)]; simp
    rw [e]
    clear e hl hnb
    generalize l.length = ll at *
    go_enter Tryz.func8, Tryz.ntmps8
    go_wp2
    go_ret
    exact ⟨rfl, HB.out _⟩
  by_cases hg : (l.length : Int) ≤ loss
  · have e : grt l loss = false := by unfold grt inl; rw [decide_eq_false (p := loss < (l.length : Int)) (by omega)]; simp
    rw [e]
    clear e hl hnb
    generalize l.length = ll at *
    go_enter Tryz.func8, Tryz.ntmps8
    go_wp2
    go_ret
    exact ⟨rfl, HB.out _⟩
  obtain ⟨li, rfl⟩ : ∃ li : Nat, loss = li := ⟨loss.toNat, by omega⟩
  have hli : li < l.length := by omega
  obtain ⟨bl, ol, aa, ac, rfl, hC, hT⟩ := hl.shape hli
  have es : sha l (li : Int) = (l.getD li zn).shape := rfl
  have cA : ∀ o, (w.alloc o).cell? ⟨bl, ol + li * 8 + 4, none⟩ = some (.slice aa (l.getD li zn).shape.length ac) := fun o => cell_below (HB.out o) hC
  by_cases hs : 0 < (l.getD li zn).shape.length
  · have e : grt l (li : Int) = false := by unfold grt; rw [es, decide_eq_false (p := (l.getD li zn).shape.length = 0) (by omega)]; simp
    rw [e]
    clear e hl hnb hC hT es
    generalize (l.getD li zn).shape.length = sl at *
    generalize l.length = ll at *
    go_enter Tryz.func8, Tryz.ntmps8
    go_wp2
    go_ret
    exact ⟨rfl, HB.out _⟩
  have HG : Hid ((∀ j, j < l.length → nri l j = true) → grt l (li : Int) = true) := fun h => by
    rw [grt_end (by omega) (nrs_all h), es, inl_iff.2 ⟨by omega, by omega⟩, decide_eq_true (by omega)]; rfl
  have hs0 : (l.getD li zn).shape.length = 0 := by omega
  rw [hs0] at cA
  clear hs hC hT es hs0 hn hg
  obtain ⟨ao, hao⟩ : ∃ a : Option Addr, some ⟨bl, ol, none⟩ = a := ⟨_, rfl⟩
  have HNo : Hid (∀ k, k < l.length → nri l k = false → grt l (li : Int) = false) := fun k hk h => grt_nri hk h
  rw [hao] at hl
  have HL : Hid (∀ v, Below w.heap.size w v → ∀ i, i < l.length → ∃ b off sa sc da dc, ao = some ⟨b, off, none⟩ ∧ Sp.Sl v sa (l.getD i zn).shape ∧ Row v da (txts (l.getD i zn).data) ∧
      v.cell? ⟨b, off + i * 8, none⟩ = some (.string (l.getD i zn).op) ∧ v.cell? ⟨b, off + i * 8 + 1, none⟩ = some (.int .i64 (l.getD i zn).a) ∧ v.cell? ⟨b, off + i * 8 + 2, none⟩ = some (.int .i64 (l.getD i zn).b) ∧ v.cell? ⟨b, off + i * 8 + 3, none⟩ = some (.string (l.getD i zn).name) ∧
      v.cell? ⟨b, off + i * 8 + 4, none⟩ = some (.slice sa (l.getD i zn).shape.length sc) ∧ v.cell? ⟨b, off + i * 8 + 5, none⟩ = some (.string (l.getD i zn).k) ∧ v.cell? ⟨b, off + i * 8 + 6, none⟩ = some (.int .i64 (l.getD i zn).n) ∧ v.cell? ⟨b, off + i * 8 + 7, none⟩ = some (.slice da (l.getD i zn).data.length dc)) := fun v hv i hi => (hl.below hv).at hi
  have HInf : Hid (∀ k, k < l.length → (∀ j, j < k → nri l j = true) → ∀ v, Below w.heap.size w v → ∀ sa sc da dc, Sp.Sl v sa (l.getD k zn).shape → Row v da (txts (l.getD k zn).data) → Calls Tryz.prog 11 #[.slice ao k c, nv (l.getD k zn) sa sc da dc] v fun e w' => Shp w' (shp (l.take k) (l.getD k zn)) e ∧ Below v.heap.size v w') := fun k hk hj v hv sa sc da dc h1 h2 => by
    have := refShape_any (l.take k) (l.getD k zn) sc dc c sa da ao v ((hl.below hv).take k) h1 h2 (hnb k hk) (fun i hi => by have := (take_shapes (by omega) hj i hi).1; omega)
    rw [show (l.take k).length = k from by rw [List.length_take]; omega] at this
    exact this
  have HNb : Hid _ := hnb
  subst hao
  generalize grt l (li : Int) = gr at HG HNo ⊢
  obtain ⟨N, hN⟩ : ∃ N, l.length = N := ⟨_, rfl⟩
  rw [hN] at HG HNo HL HInf HNb h200 h1 hli hc ⊢
  clear hN hl hnb
  obtain ⟨G, hGz⟩ : ∃ G, w.heap.size = G := ⟨_, rfl⟩
  have z0 : (w.alloc (.cells #[.slice (some ⟨bl, ol, none⟩) N c, .int .i64 (li : Int)] 24)).cell? ⟨G, 0, none⟩ = some (.slice (some ⟨bl, ol, none⟩) N c) := by
    rw [← hGz]
    exact World.cell?_alloc_new w _ _ 0
  have z1 : (w.alloc (.cells #[.slice (some ⟨bl, ol, none⟩) N c, .int .i64 (li : Int)] 24)).cell? ⟨G, 1, none⟩ = some (.int .i64 (li : Int)) := by
    rw [← hGz]
    exact World.cell?_alloc_new w _ _ 1
  have HZ : Hid _ := And.intro z0 z1
  clear z0 z1
  have x1 : decide ((N : Int) < 1) = false := decide_eq_false (by omega)
  have x2 : decide (200 < (N : Int)) = false := decide_eq_false (by omega)
  have x3 : decide ((li : Int) < 0) = false := decide_eq_false (by omega)
  have x4 : decide (N ≤ li) = false := decide_eq_false (by omega)
  have x5 : decide ((N : Int) ≤ (li : Int)) = false := decide_eq_false (by omega)
  go_enter Tryz.func8, Tryz.ntmps8
  go_wp2_with fail
  clear hGz cA x1 x2 x3 x4 x5
  go_loopw [3] (fun i wr => ∃ k : Nat, k ≤ N ∧ i = .int .i64 (k : Int) ∧ (∀ j, j < k → nri l j = true) ∧ Below w.heap.size w wr ∧ wr.cell? ⟨G, 0, none⟩ = some (.slice (some ⟨bl, ol, none⟩) N c) ∧ wr.cell? ⟨G, 1, none⟩ = some (.int .i64 (li : Int))) (fun i _ => N - (intOf i).toNat)
  case atStart => exact ⟨0, by omega, rfl, fun j hj => by omega, HB.out _, HZ.out.1, HZ.out.2⟩
  case round =>
    obtain ⟨k, hk, rfl, hj, hb, g0, g1⟩ := hrel
    have HJ : Hid (∀ j, j < k → nri l j = true) := hj
    have HBk : Hid (Below w.heap.size w wr) := hb
    clear hj HZ
    by_cases h : k < N
    · obtain ⟨b, off, sa, sc, da, dc, hao, hS, hD, c0, c1, c2, c3, c4, c5, c6, c7⟩ := HL.out wr hb k h
      simp only [Option.some.injEq, Addr.mk.injEq, and_true] at hao
      obtain ⟨rfl, rfl⟩ := hao
      have HI := HInf.out k h HJ.out
      have hnk := HNb.out k h
      have HF : Hid (nri l k = false → gr = false) := HNo.out k h
      have HR : Hid (¬ shp (l.take k) (l.getD k zn) = some (l.getD k zn).shape → nri l k = false) := nri_shape_no
      have HN : Hid (nri l k = (decide (shp (l.take k) (l.getD k zn) = some (l.getD k zn).shape) && (decide ((l.getD k zn).name.size = 0) || (List.range k).all fun j => decide ((l.getD j zn).name ≠ (l.getD k zn).name)))) := rfl
      have HLs : Hid (∀ s, shp (l.take k) (l.getD k zn) = some s → Sp.Rgt s) := fun s h => shp_rgt h
      have hIn : ∀ v, Below wr.heap.size wr v → Calls Tryz.prog 11 #[.slice (some ⟨bl, ol, none⟩) k c, nv (l.getD k zn) sa sc da dc] v fun e w' => Shp w' (shp (l.take k) (l.getD k zn)) e ∧ Below v.heap.size v w' := fun v hv => HI v (HBk.out.trans (hv.mono HBk.out.size)) sa sc da dc (sl_below hS hv) (Row.below hD hv)
      have HIn : Hid _ := hIn
      have HZZ : Hid ((l.getD k zn).shape.length ≤ 1000) := hnk.1
      clear hb hS hD HI hIn hnk
      obtain ⟨nd, hnd⟩ : ∃ z, l.getD k zn = z := ⟨_, rfl⟩
      have HX : Hid _ := hnd
      rw [hnd] at c0 c1 c2 c3 c4 c5 c6 c7 HIn HR HLs HN
      clear hnd
      obtain ⟨op, A, B, name, zs, K, n, data⟩ := nd
      unfold nv ncl at HIn
      simp only at c0 c1 c2 c3 c4 c5 c6 c7 HIn HR HN
      obtain ⟨sh, hsh⟩ : ∃ o, shp (l.take k) ⟨op, A, B, name, zs, K, n, data⟩ = o := ⟨_, rfl⟩
      rw [hsh] at HIn HR HLs HN
      clear hsh
      obtain ⟨zl, hzl⟩ : ∃ m, zs.length = m := ⟨_, rfl⟩
      have HZl : Hid _ := hzl
      rw [hzl] at c4 HIn
      generalize data.length = dl at c7 HIn
      clear hzl
      cases sh with
      | none =>
        have HFr : Hid (gr = false) := HF.out (HR.out (by simp))
        go_upto_region 6 with fail
        refine region_bar 9 (fun v => ∃ nq, v = wr.drewN nq) (by kernel_rfl) (by kernel_rfl) (by kernel_rfl) ⟨1, rfl⟩ ?_
        simp only [List.take_succ_cons, List.take_zero]
        repeat (go_big_quiet_step (fail))
        refine wpQuiet_nil ?_
        rintro _ ⟨nq, rfl⟩
        refine any_one 9 _ (by kernel_rfl) rfl (fun K1 hK1 => ?_)
        go_simp
        refine (HIn.out _ (bl_n (Below.refl _ _) nq)).mono ?_
        rintro e w2 ⟨⟨a2, n2, cc2, rfl⟩, h2⟩
        have hd2 : Below wr.heap.size wr w2 := (bl_n (Below.refl _ _) nq).trans h2
        have d0 := cell_below hd2 g0
        have d1 := cell_below hd2 g1
        have H2 : Hid (Below w.heap.size w w2) := HBk.out.trans (hd2.mono HBk.out.size)
        have H2r : Hid (Below wr.heap.size wr w2) := hd2
        clear h2 hd2 g0 g1 c0 c1 c2 c3 c4 c5 c6 c7
        go_simp
        refine hK1 _ _ ?_
        clear hK1 K1
        refine any_one 10 _ (by kernel_rfl) rfl (fun K1 hK1 => ?_)
        go_simp
        refine hK1 _ _ ?_
        clear hK1 K1
        refine any_fork' 12 11 13 _ (by kernel_rfl) (by kernel_rfl) (by kernel_rfl) (by kernel_rfl) (by kernel_rfl) (by kernel_rfl) rfl rfl rfl (fun K1 hK1 => ?_)
        apply one_end (K := K1) (w := w2)
        · intro fin
          refine ⟨?_, ?_⟩
          · refine op_step 12 _ rfl (fun K2 hK2 => ?_)
            go_simp
            refine hK2 _ _ ?_
            clear hK2 K2
            refine op_step 11 _ rfl (fun K2 hK2 => ?_)
            go_simp
            refine hK2 _ _ ?_
            clear hK2 K2
            refine op_step 13 _ rfl (fun K2 hK2 => ?_)
            go_simp
            refine hK2 _ _ ?_
            clear hK2 K2
            exact fin
          · refine op_step 11 _ rfl (fun K2 hK2 => ?_)
            go_simp
            refine hK2 _ _ ⟨?_, ?_⟩
            · clear hK2 K2
              refine op_step 12 _ rfl (fun K2 hK2 => ?_)
              go_simp
              refine hK2 _ _ ?_
              clear hK2 K2
              refine op_step 13 _ rfl (fun K2 hK2 => ?_)
              go_simp
              refine hK2 _ _ ?_
              clear hK2 K2
              exact fin
            · clear hK2 K2
              refine op_step 13 _ rfl (fun K2 hK2 => ?_)
              go_simp
              refine hK2 _ _ ?_
              clear hK2 K2
              refine op_step 12 _ rfl (fun K2 hK2 => ?_)
              go_simp
              refine hK2 _ _ ?_
              clear hK2 K2
              exact fin
        refine hK1 _ _ ?_
        clear hK1 K1
        refine any_one 14 _ (by kernel_rfl) rfl (fun K1 hK1 => ?_)
        go_simp
        refine hK1 _ _ ?_
        clear hK1 K1
        refine any_end (by kernel_rfl) ?_
        go_wp2
        go_ret
        exact ⟨by rw [HFr.out]; rfl, H2.out⟩

      | some s =>
        have hs1000 : s.length ≤ 1000 := by have := (HLs.out s rfl).1; omega
        go_upto_region 6 with fail
        refine region_bar 9 (fun v => ∃ nq, v = wr.drewN nq) (by kernel_rfl) (by kernel_rfl) (by kernel_rfl) ⟨1, rfl⟩ ?_
        simp only [List.take_succ_cons, List.take_zero]
        repeat (go_big_quiet_step (fail))
        refine wpQuiet_nil ?_
        rintro _ ⟨nq, rfl⟩
        refine any_one 9 _ (by kernel_rfl) rfl (fun K1 hK1 => ?_)
        go_simp
        refine (HIn.out _ (bl_n (Below.refl _ _) nq)).mono ?_
        rintro e w2 ⟨⟨a2, cc2, rfl, hs2⟩, h2⟩
        have hd2 : Below wr.heap.size wr w2 := (bl_n (Below.refl _ _) nq).trans h2
        have d0 := cell_below hd2 g0
        have d1 := cell_below hd2 g1
        have H2 : Hid (Below w.heap.size w w2) := HBk.out.trans (hd2.mono HBk.out.size)
        have H2r : Hid (Below wr.heap.size wr w2) := hd2
        clear h2 hd2 g0 g1 c0 c1 c2 c3 c4 c5 c6 c7
        go_simp
        refine hK1 _ _ ?_
        clear hK1 K1
        refine any_one 10 _ (by kernel_rfl) rfl (fun K1 hK1 => ?_)
        go_simp
        refine hK1 _ _ ?_
        clear hK1 K1
        refine any_fork' 12 11 13 _ (by kernel_rfl) (by kernel_rfl) (by kernel_rfl) (by kernel_rfl) (by kernel_rfl) (by kernel_rfl) rfl rfl rfl (fun K1 hK1 => ?_)
        apply one_end (K := K1) (w := w2)
        · intro fin
          refine ⟨?_, ?_⟩
          · refine op_step 12 _ rfl (fun K2 hK2 => ?_)
            go_simp
            refine hK2 _ _ ?_
            clear hK2 K2
            refine op_step 11 _ rfl (fun K2 hK2 => ?_)
            go_simp
            refine hK2 _ _ ?_
            clear hK2 K2
            refine op_step 13 _ rfl (fun K2 hK2 => ?_)
            go_simp
            refine hK2 _ _ ?_
            clear hK2 K2
            exact fin
          · refine op_step 11 _ rfl (fun K2 hK2 => ?_)
            go_simp
            refine hK2 _ _ ⟨?_, ?_⟩
            · clear hK2 K2
              refine op_step 12 _ rfl (fun K2 hK2 => ?_)
              go_simp
              refine hK2 _ _ ?_
              clear hK2 K2
              refine op_step 13 _ rfl (fun K2 hK2 => ?_)
              go_simp
              refine hK2 _ _ ?_
              clear hK2 K2
              exact fin
            · clear hK2 K2
              refine op_step 13 _ rfl (fun K2 hK2 => ?_)
              go_simp
              refine hK2 _ _ ?_
              clear hK2 K2
              refine op_step 12 _ rfl (fun K2 hK2 => ?_)
              go_simp
              refine hK2 _ _ ?_
              clear hK2 K2
              exact fin
        refine hK1 _ _ ?_
        clear hK1 K1
        refine any_one 14 _ (by kernel_rfl) rfl (fun K1 hK1 => ?_)
        go_simp
        refine hK1 _ _ ?_
        clear hK1 K1
        refine any_end (by kernel_rfl) ?_
        obtain ⟨b', off', sa', sc', da', dc', hao, hSk, -, k0, k1, k2, k3, k4, k5, k6, k7⟩ := HL.out w2 H2.out k h
        simp only [Option.some.injEq, Addr.mk.injEq, and_true] at hao
        obtain ⟨rfl, rfl⟩ := hao
        have hsm := Sp.refSame_any a2 sa' s _ cc2 sc' w2 hs1000 HZZ.out hs2 hSk
        rw [HX.out] at hsm k3 k4
        simp only at hsm k3 k4
        rw [HZl.out] at hsm k4
        obtain ⟨d, hd⟩ : ∃ d, decide (s = zs) = d := ⟨_, rfl⟩
        rw [hd] at hsm
        clear hs2 k0 k1 k2 k5 k6 k7 hSk
        generalize s.length = sn at hsm hs1000 ⊢
        cases d with
        | false =>
          have HFr : Hid (gr = false) := HF.out (HR.out (by intro e; cases e; simp at hd))
          clear hd
          go_wp2_with fail
          refine hsm.mono ?_
          rintro e w3 ⟨rfl, hs3⟩
          have H3 : Hid _ := H2.out.trans (hs3.below _)
          clear hs3
          go_wp2
          go_ret
          exact ⟨by rw [HFr.out]; rfl, H3.out⟩
        | true =>
          have hsz : s = zs := by simpa using hd
          have HPp : Hid ((∀ j, j < k → name.size = 0 ∨ ¬ (l.getD j zn).name = name) → nri l k = true) := fun hh => by
            rw [HN.out, hsz]
            rw [decide_eq_true rfl, Bool.true_and]
            by_cases hz : name.size = 0
            · simp [hz]
            · rw [decide_eq_false hz, Bool.false_or, List.all_eq_true]
              intro j hj
              exact decide_eq_true ((hh j (List.mem_range.1 hj)).resolve_left hz)
          have HQq : Hid (∀ j, j < k → ¬ name.size = 0 → (l.getD j zn).name = name → nri l k = false) := fun j hj hz he => by
            rw [HN.out, hsz]
            rw [decide_eq_true rfl, Bool.true_and, decide_eq_false hz, Bool.false_or, List.all_eq_false]
            refine ⟨j, List.mem_range.2 hj, ?_⟩
            simp only [he, ne_eq, not_true_eq_false, decide_false]
            decide
          clear hd hsz HR HN
          go_wp2_with fail
          refine hsm.mono ?_
          rintro e w3 ⟨rfl, hs3⟩
          have H3 : Hid _ := H2.out.trans (hs3.below _)
          have e0 : w3.cell? ⟨G, 0, none⟩ = _ := (hs3.cell _).trans d0
          have e1 : w3.cell? ⟨G, 1, none⟩ = _ := (hs3.cell _).trans d1
          have n3 : w3.cell? ⟨bl, ol + k * 8 + 3, none⟩ = _ := (hs3.cell _).trans k3
          clear hs3 d0 d1 hsm k3 k4
          obtain ⟨q, hq⟩ : ∃ q, decide (name.size = 0) = q := ⟨_, rfl⟩
          have hqe := emp_b hq
          have HE0 : Hid _ := And.intro e0 e1
          have HN3 : Hid _ := n3
          clear e0 e1 n3
          go_wp2_with fail
          go_loopw [6] (fun i wr => ∃ m : Nat, m ≤ k ∧ i = .int .i64 (m : Int) ∧ (∀ j, j < m → name.size = 0 ∨ ¬ (l.getD j zn).name = name) ∧ Sp.Sm w3 wr) (fun i _ => k - (intOf i).toNat)
          case atStart => exact ⟨0, by omega, rfl, fun j hj => by omega, Sp.Sm.refl _⟩
          case round =>
            obtain ⟨m, hm, rfl, hjm, hsv⟩ := hrel
            have HJm : Hid _ := hjm
            have e0 : wr.cell? ⟨G, 0, none⟩ = _ := (hsv.cell _).trans HE0.out.1
            have e1 : wr.cell? ⟨G, 1, none⟩ = _ := (hsv.cell _).trans HE0.out.2
            have n3 : wr.cell? ⟨bl, ol + k * 8 + 3, none⟩ = _ := (hsv.cell _).trans HN3.out
            have HSv : Hid _ := hsv
            have HBv : Hid (Below w.heap.size w wr) := H3.out.trans (hsv.below _)
            clear hjm hsv
            by_cases hmk : m < k
            · obtain ⟨b', off', sa', sc', da', dc', hao, -, -, -, -, -, y3, -, -, -, -⟩ := HL.out wr HBv.out m (by omega)
              simp only [Option.some.injEq, Addr.mk.injEq, and_true] at hao
              obtain ⟨rfl, rfl⟩ := hao
              obtain ⟨nm, hnm⟩ : ∃ z, (l.getD m zn).name = z := ⟨_, rfl⟩
              rw [hnm] at y3
              have HNM : Hid _ := hnm
              clear hnm
              cases q with
              | true =>
                go_upto_region 12 with fail
                go_quiet (fail)
                go_wp2
                go_roundw
                case rel =>
                  refine ⟨m + 1, by omega, by go_num, fun j hj => .inl (by simpa using hq), HSv.out.trans ⟨rfl, rfl, rfl, rfl⟩⟩
                case measure => simp [intOf]; omega
              | false =>
                have hz : ¬ name.size = 0 := by simpa using hq
                by_cases hee : nm = name
                · have HFr : Hid (gr = false) := HF.out (HQq.out m hmk hz (by rw [HNM.out]; exact hee))
                  subst hee
                  go_upto_region 12 with fail
                  go_quiet (fail)
                  go_wp2
                  go_ret
                  exact ⟨by rw [HFr.out]; rfl, bl_n HBv.out _⟩
                · have hne := list_ne (x := name) (y := nm) hee
                  go_upto_region 12 with fail
                  go_quiet (fail)
                  go_wp2
                  go_roundw
                  case rel =>
                    refine ⟨m + 1, by omega, by go_num, fun j hj => ?_, HSv.out.trans ⟨rfl, rfl, rfl, rfl⟩⟩
                    by_cases e : j = m
                    · rw [e, HNM.out]; exact .inr hee
                    · exact HJm.out j (by omega)
                  case measure => simp [intOf]; omega
            · have HT : Hid (nri l k = true) := HPp.out (fun j hj => HJm.out j (by omega))
              go_wp2
              go_roundw
              case rel =>
                refine ⟨k + 1, by omega, by go_num, fun j hj => ?_, HBv.out, e0, e1⟩
                by_cases e : j = k
                · rw [e]; exact HT.out
                · exact HJ.out j (by omega)
              case measure => simp [intOf]; omega

    · have HFr : Hid (gr = true) := HG.out (fun j hj => HJ.out j (by omega))
      clear hb
      go_wp2
      go_ret
      exact ⟨by rw [HFr.out]; rfl, HBk.out⟩
end Go.Proofs.YtadgnafafdfioaaGreatDoor.Gr
