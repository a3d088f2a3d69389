/-
  THE DOCUMENT's Same AND Equal: nodes that are the same, and graphs that are, are told so. Conditions: each theorem's own.
-/
import Derived.Test.YtadgnafafdfioaaGreatDoorGX
import Derived.Test.YtadgnafafdfioaaGreatDoorGR
import Derived.Test.YtadgnafafdfioaaGreatDoorSb
import Derived.Deep.Cut
namespace Go.Proofs.YtadgnafafdfioaaGreatDoor.Gr
open Go.Proofs.YtadgnafafdfioaaGreatDoor.Rd
set_option maxRecDepth 100000
open Go.RowKit
set_option linter.unusedVariables false
set_option linter.unusedSimpArgs false

/-- two blocks that are laid one behind the other stand -/
theorem two_blocks {w v : World} {o1 o2 : Obj} {G : Nat} (hG : w.heap.size = G) (h : Below (G + 2) ((w.alloc o1).alloc o2) v) : v.heap[G]? = some o1 ∧ v.heap[G + 1]? = some o2 ∧ Below G w v ∧ ((w.alloc o1).alloc o2).heap.size = G + 2 := by
  have e1 : (w.alloc o1).heap.size = G + 1 := by rw [← hG]; simp
  have e2 : ((w.alloc o1).alloc o2).heap.size = G + 2 := by rw [← hG]; simp
  have b0 := heap_alloc_new w o1
  rw [hG] at b0
  have b1 := heap_alloc_new (w.alloc o1) o2
  rw [e1] at b1
  refine ⟨?_, ?_, ?_, e2⟩
  · rw [h.block G (by omega), (bl_alloc (Below.refl (w.alloc o1).heap.size _) o2).block G (by omega)]; exact b0
  · rw [h.block (G + 1) (by omega)]; exact b1
  · have : Below w.heap.size w ((w.alloc o1).alloc o2) := bl_alloc (bl_alloc (Below.refl _ _) o1) o2
    rw [hG] at this
    exact this.trans (h.mono (by omega))
set_option maxHeartbeats 8000000 in
theorem refNode_same (nd : Nd) (sa sb da db : Option Addr) (sc sd dc dd : Nat) (w : World) (hS : Sp.Sl w sa nd.shape) (hT : Sp.Sl w sb nd.shape) (hD : Row w da (txts nd.data)) (hE : Row w db (txts nd.data)) (hl : nd.shape.length ≤ 1000) (hdl : nd.data.length ≤ 1000000) :
    Calls Tryz.prog 33 #[nv nd sa sc da dc, nv nd sb sd db dd] w fun e w' => e = .returned (.bool true) ∧ Below w.heap.size w w' := by
  obtain ⟨op, A, B, name, zs, K, n, data⟩ := nd
  unfold nv ncl
  simp only at hS hT hD hE hl hdl ⊢
  have HSm : Hid (∀ v, Below w.heap.size w v → Calls Tryz.prog 12 #[.slice sa zs.length sc, .slice sb zs.length sd] v fun e w' => e = .returned (.bool true) ∧ Below v.heap.size v w') := fun v hv => by
    refine (Sp.refSame_any sa sb zs zs sc sd v hl hl (sl_below hS hv) (sl_below hT hv)).mono ?_
    rintro e w' ⟨he, hs⟩
    exact ⟨by rw [he]; simp, hs.below _⟩
  have HD : Hid (∀ v, Below w.heap.size w v → ∀ i, i < data.length → ∃ b off, da = some ⟨b, off, none⟩ ∧ v.cell? ⟨b, off + i, none⟩ = some (.string (data.getD i em))) := fun v hv i hi => row_s (Row.below hD hv) hi
  have HE : Hid (∀ v, Below w.heap.size w v → ∀ i, i < data.length → ∃ b off, db = some ⟨b, off, none⟩ ∧ v.cell? ⟨b, off + i, none⟩ = some (.string (data.getD i em))) := fun v hv i hi => row_s (Row.below hE hv) hi
  obtain ⟨zl, hzl⟩ : ∃ m, zs.length = m := ⟨_, rfl⟩
  obtain ⟨dl, hdl'⟩ : ∃ m, data.length = m := ⟨_, rfl⟩
  simp only [hzl, hdl'] at HSm HD HE hl hdl ⊢
  clear hzl hdl' hS hT hD hE
  obtain ⟨G, hG⟩ : ∃ G, w.heap.size = G := ⟨_, rfl⟩
  have HGG : Hid _ := hG
  have HC : Hid (∀ v, Below (G + 2) ((w.alloc (.cells #[.string op, .int .i64 A, .int .i64 B, .string name, .slice sa zl sc, .string K, .int .i64 n, .slice da dl dc] 28)).alloc (.cells #[.string op, .int .i64 A, .int .i64 B, .string name, .slice sb zl sd, .string K, .int .i64 n, .slice db dl dd] 28)) v → v.cell? ⟨G, 7, none⟩ = some (.slice da dl dc) ∧ v.cell? ⟨G + 1, 7, none⟩ = some (.slice db dl dd) ∧ v.cell? ⟨G, 4, none⟩ = some (.slice sa zl sc) ∧ v.cell? ⟨G + 1, 4, none⟩ = some (.slice sb zl sd) ∧ Below w.heap.size w v) := fun v hv => by
    obtain ⟨h1, h2, h3, _⟩ := two_blocks HGG.out hv
    exact ⟨by simp [World.cell?, h1], by simp [World.cell?, h2], by simp [World.cell?, h1], by simp [World.cell?, h2], by rw [HGG.out]; exact h3⟩
  have HZ : Hid (((w.alloc (.cells #[.string op, .int .i64 A, .int .i64 B, .string name, .slice sa zl sc, .string K, .int .i64 n, .slice da dl dc] 28)).alloc (.cells #[.string op, .int .i64 A, .int .i64 B, .string name, .slice sb zl sd, .string K, .int .i64 n, .slice db dl dd] 28)).heap.size = G + 2) := (two_blocks hG (Below.refl _ _)).2.2.2
  have HB0 : Hid (Below w.heap.size w ((w.alloc (.cells #[.string op, .int .i64 A, .int .i64 B, .string name, .slice sa zl sc, .string K, .int .i64 n, .slice da dl dc] 28)).alloc (.cells #[.string op, .int .i64 A, .int .i64 B, .string name, .slice sb zl sd, .string K, .int .i64 n, .slice db dl dd] 28))) := bl_alloc (bl_alloc (Below.refl _ _) _) _
  clear hG
  go_enter Tryz.func33, Tryz.ntmps33
  go_wp2_with fail
  refine (HSm.out _ HB0.out).mono ?_
  rintro e w1 ⟨rfl, h1⟩
  have H1 : Hid (Below (G + 2) ((w.alloc (.cells #[.string op, .int .i64 A, .int .i64 B, .string name, .slice sa zl sc, .string K, .int .i64 n, .slice da dl dc] 28)).alloc (.cells #[.string op, .int .i64 A, .int .i64 B, .string name, .slice sb zl sd, .string K, .int .i64 n, .slice db dl dd] 28)) w1) := h1.mono (by rw [HZ.out]; exact Nat.le_refl _)
  clear h1
  obtain ⟨p7, q7, -, -, -⟩ := HC.out w1 H1.out
  simp only [HGG.out]
  go_wp2_with fail
  clear p7 q7
  go_loopw [5] (fun i wr => ∃ k : Nat, k ≤ dl ∧ i = .int .i64 (k : Int) ∧ Below (G + 2) ((w.alloc (.cells #[.string op, .int .i64 A, .int .i64 B, .string name, .slice sa zl sc, .string K, .int .i64 n, .slice da dl dc] 28)).alloc (.cells #[.string op, .int .i64 A, .int .i64 B, .string name, .slice sb zl sd, .string K, .int .i64 n, .slice db dl dd] 28)) wr) (fun i _ => dl - (intOf i).toNat)
  case atStart => exact ⟨0, by omega, rfl, H1.out⟩
  case round =>
    obtain ⟨k, hk, rfl, hb⟩ := hrel
    have HBk : Hid _ := hb
    obtain ⟨p7, q7, -, -, hb0⟩ := HC.out wr hb
    clear hb
    by_cases h : k < dl
    · obtain ⟨b1, o1, rfl, d1⟩ := HD.out wr hb0 k h
      obtain ⟨b2, o2, rfl, d2⟩ := HE.out wr hb0 k h
      generalize data.getD k em = x at d1 d2
      have hx : (x.toList != x.toList) = false := bne_self_eq_false _
      go_wp2_with fail
      go_region
      go_wp2_with fail
      go_roundw
      case rel => exact ⟨k + 1, by omega, by go_num, HBk.out.drew⟩
      case measure => simp [intOf]; omega
    · go_wp2
      go_ret
      exact ⟨rfl, hb0⟩
set_option maxHeartbeats 8000000 in
theorem refEqual_same (l : List Nd) (loss : Int) (ao bo : Option Addr) (c d : Nat) (w : World) (hA : Nl w ao l) (hB : Nl w bo l) (hs : ∀ i, i < l.length → (l.getD i zn).shape.length ≤ 1000) (hd : ∀ i, i < l.length → (l.getD i zn).data.length ≤ 1000000) (hl : l.length ≤ 1000000) :
    Calls Tryz.prog 16 #[.agg #[.slice ao l.length c, .int .i64 loss], .agg #[.slice bo l.length d, .int .i64 loss]] w fun e w' => e = .returned (.bool true) ∧ Below w.heap.size w w' := by
  have HSm : Hid (∀ i, i < l.length → ∀ v sa sb sc sd da db dc dd, Sp.Sl v sa (l.getD i zn).shape → Sp.Sl v sb (l.getD i zn).shape → Row v da (txts (l.getD i zn).data) → Row v db (txts (l.getD i zn).data) → Calls Tryz.prog 33 #[nv (l.getD i zn) sa sc da dc, nv (l.getD i zn) sb sd db dd] v fun e w' => e = .returned (.bool true) ∧ Below v.heap.size v w') := fun i hi v sa sb sc sd da db dc dd h1 h2 h3 h4 => refNode_same _ sa sb da db sc sd dc dd v h1 h2 h3 h4 (hs i hi) (hd i hi)
  have HA : Hid (∀ v, Below w.heap.size w v → ∀ i, i < l.length → ∃ b off sa sc da dc, ao = some ⟨b, off, none⟩ ∧ Sp.Sl v sa (l.getD i zn).shape ∧ Row v da (txts (l.getD i zn).data) ∧
      v.cell? ⟨b, off + i * 8, none⟩ = some (.string (l.getD i zn).op) ∧ v.cell? ⟨b, off + i * 8 + 1, none⟩ = some (.int .i64 (l.getD i zn).a) ∧ v.cell? ⟨b, off + i * 8 + 2, none⟩ = some (.int .i64 (l.getD i zn).b) ∧ v.cell? ⟨b, off + i * 8 + 3, none⟩ = some (.string (l.getD i zn).name) ∧
      v.cell? ⟨b, off + i * 8 + 4, none⟩ = some (.slice sa (l.getD i zn).shape.length sc) ∧ v.cell? ⟨b, off + i * 8 + 5, none⟩ = some (.string (l.getD i zn).k) ∧ v.cell? ⟨b, off + i * 8 + 6, none⟩ = some (.int .i64 (l.getD i zn).n) ∧ v.cell? ⟨b, off + i * 8 + 7, none⟩ = some (.slice da (l.getD i zn).data.length dc)) := fun v hv i hi => (hA.below hv).at hi
  have HB : Hid (∀ v, Below w.heap.size w v → ∀ i, i < l.length → ∃ b off sa sc da dc, bo = some ⟨b, off, none⟩ ∧ Sp.Sl v sa (l.getD i zn).shape ∧ Row v da (txts (l.getD i zn).data) ∧
      v.cell? ⟨b, off + i * 8, none⟩ = some (.string (l.getD i zn).op) ∧ v.cell? ⟨b, off + i * 8 + 1, none⟩ = some (.int .i64 (l.getD i zn).a) ∧ v.cell? ⟨b, off + i * 8 + 2, none⟩ = some (.int .i64 (l.getD i zn).b) ∧ v.cell? ⟨b, off + i * 8 + 3, none⟩ = some (.string (l.getD i zn).name) ∧
      v.cell? ⟨b, off + i * 8 + 4, none⟩ = some (.slice sa (l.getD i zn).shape.length sc) ∧ v.cell? ⟨b, off + i * 8 + 5, none⟩ = some (.string (l.getD i zn).k) ∧ v.cell? ⟨b, off + i * 8 + 6, none⟩ = some (.int .i64 (l.getD i zn).n) ∧ v.cell? ⟨b, off + i * 8 + 7, none⟩ = some (.slice da (l.getD i zn).data.length dc)) := fun v hv i hi => (hB.below hv).at hi
  obtain ⟨N, hN⟩ : ∃ N, l.length = N := ⟨_, rfl⟩
  rw [hN] at HSm HA HB hl ⊢
  clear hN hA hB hs hd
  obtain ⟨G, hG⟩ : ∃ G, w.heap.size = G := ⟨_, rfl⟩
  have HGG : Hid _ := hG
  have HC : Hid (∀ v, Below (G + 2) ((w.alloc (.cells #[.slice ao N c, .int .i64 loss] 24)).alloc (.cells #[.slice bo N d, .int .i64 loss] 24)) v → v.cell? ⟨G, 0, none⟩ = some (.slice ao N c) ∧ v.cell? ⟨G + 1, 0, none⟩ = some (.slice bo N d) ∧ Below w.heap.size w v) := fun v hv => by
    obtain ⟨h1, h2, h3, _⟩ := two_blocks HGG.out hv
    exact ⟨by simp [World.cell?, h1], by simp [World.cell?, h2], by rw [HGG.out]; exact h3⟩
  have HZ : Hid (((w.alloc (.cells #[.slice ao N c, .int .i64 loss] 24)).alloc (.cells #[.slice bo N d, .int .i64 loss] 24)).heap.size = G + 2) := (two_blocks hG (Below.refl _ _)).2.2.2
  clear hG
  go_enter Tryz.func16, Tryz.ntmps16
  go_wp2_with fail
  simp only [HGG.out]
  go_loopw [5] (fun i wr => ∃ k : Nat, k ≤ N ∧ i = .int .i64 (k : Int) ∧ Below (G + 2) ((w.alloc (.cells #[.slice ao N c, .int .i64 loss] 24)).alloc (.cells #[.slice bo N d, .int .i64 loss] 24)) wr) (fun i _ => N - (intOf i).toNat)
  case atStart => exact ⟨0, by omega, rfl, Below.refl _ _⟩
  case round =>
    obtain ⟨k, hk, rfl, hb⟩ := hrel
    have HBk : Hid _ := hb
    obtain ⟨p0, q0, hb0⟩ := HC.out wr hb
    clear hb
    by_cases h : k < N
    · obtain ⟨b1, o1, sa, sc, da, dc, rfl, hS1, hD1, c0, c1, c2, c3, c4, c5, c6, c7⟩ := HA.out wr hb0 k h
      obtain ⟨b2, o2, sb, sd, db, dd, rfl, hS2, hD2, d0, d1, d2, d3, d4, d5, d6, d7⟩ := HB.out wr hb0 k h
      have HCl : Hid (∀ v, Below wr.heap.size wr v → Calls Tryz.prog 33 #[nv (l.getD k zn) sa sc da dc, nv (l.getD k zn) sb sd db dd] v fun e w' => e = .returned (.bool true) ∧ Below v.heap.size v w') := fun v hv => HSm.out k h v sa sb sc sd da db dc dd (sl_below hS1 hv) (sl_below hS2 hv) (Row.below hD1 hv) (Row.below hD2 hv)
      clear hS1 hS2 hD1 hD2
      obtain ⟨nd, hnd⟩ : ∃ z, l.getD k zn = z := ⟨_, rfl⟩
      rw [hnd] at c0 c1 c2 c3 c4 c5 c6 c7 d0 d1 d2 d3 d4 d5 d6 d7 HCl
      clear hnd
      obtain ⟨op, A, B, name, zs, K, n, data⟩ := nd
      unfold nv ncl at HCl
      simp only at c0 c1 c2 c3 c4 c5 c6 c7 d0 d1 d2 d3 d4 d5 d6 d7 HCl
      generalize zs.length = zl at c4 d4 HCl
      generalize data.length = dl at c7 d7 HCl
      have HGl : Hid (G + 2 ≤ wr.heap.size) := by have := HBk.out.size; rw [HZ.out] at this; exact this
      go_upto_region 6 with fail
      refine region_bar 10 (fun v => ∃ nq, v = wr.drewN nq) (by kernel_rfl) (by kernel_rfl) (by kernel_rfl) ⟨1, rfl⟩ ?_
      simp only [List.take_succ_cons, List.take_zero]
      repeat (go_big_quiet_step (fail))
      refine wpQuiet_nil ?_
      rintro _ ⟨nq, rfl⟩
      refine any_one 10 _ (by kernel_rfl) rfl (fun K1 hK1 => ?_)
      go_simp
      refine (HCl.out _ (bl_n (Below.refl _ _) nq)).mono ?_
      rintro e w2 ⟨rfl, h2⟩
      have H2 : Hid _ := HBk.out.trans (((bl_n (Below.refl _ _) nq).trans h2).mono HGl.out)
      clear h2 c0 c1 c2 c3 c4 c5 c6 c7 d0 d1 d2 d3 d4 d5 d6 d7 p0 q0
      go_simp
      refine hK1 _ _ ?_
      clear hK1 K1
      refine any_one 11 _ (by kernel_rfl) rfl (fun K1 hK1 => ?_)
      go_simp
      refine hK1 _ _ ?_
      clear hK1 K1
      refine any_end (by kernel_rfl) ?_
      go_wp2_with fail
      go_roundw
      case rel => exact ⟨k + 1, by omega, by go_num, H2.out⟩
      case measure => simp [intOf]; omega
    · go_wp2
      go_ret
      exact ⟨rfl, hb0⟩
end Go.Proofs.YtadgnafafdfioaaGreatDoor.Gr
