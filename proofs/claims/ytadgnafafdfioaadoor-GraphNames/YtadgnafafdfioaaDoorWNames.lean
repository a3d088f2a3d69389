/-
  THE WALK OF GraphNames: the call gives true. Conditions: each theorem's own.
-/
import Derived.Test.YtadgnafafdfioaaDoorGaw
import Derived.Test.YtadgnafafdfioaaDoorGi
import Derived.Maps.AppendAt
namespace Go.Proofs.YtadgnafafdfioaaDoor.Gr
open Go.Proofs.YtadgnafafdfioaaDoor.Rd
set_option maxRecDepth 100000
open Go.RowKit
set_option linter.unusedVariables false
set_option linter.unusedSimpArgs false

set_option maxHeartbeats 16000000 in
theorem graphNames_ok (l : List Nd) (ao : Option Addr) (c : Nat) (loss at_ : Int) (aF aZ : Addr) (w : World) (hE : Er w aF aZ) (hl : Nl w ao l) (hc : l.length ≤ c) (hcm : c ≤ maxLen) :
    Calls Tryd.prog 4 #[.agg #[.slice ao l.length c, .int .i64 loss], .int .i64 at_] w fun e w' => e = .returned (.bool true) ∧ Below w.heap.size w w' := by
  obtain ⟨G, hG⟩ : ∃ G, w.heap.size = G := ⟨_, rfl⟩
  have HA : Hid (∀ v, Below w.heap.size w v → Calls Tryd.prog 8 #[] v fun e w' => e = .returned (.bool true) ∧ Below v.heap.size v w') := fun v hv => awake_any aF aZ v (hE.below hv)
  have HS1 : Hid (∀ v, Below w.heap.size w v → Calls Tryd.prog 6 #[.agg #[.slice ao l.length c, .int .i64 loss]] v fun e w' => e = .returned (.bool (sml l)) ∧ Below v.heap.size v w') := fun v hv => Small_any l ao c loss v (hl.below hv)
  have HR2 : Hid (sml l = true → ∀ v, Below w.heap.size w v → Calls Tryd.prog 7 #[.agg #[.slice ao l.length c, .int .i64 loss]] v fun e w' => e = .returned (.bool (grt l loss)) ∧ Below v.heap.size v w') := fun hs v hv => Right_any l ao c loss aF aZ v (hE.below hv) (hl.below hv) hc hcm (fun i hi => sma_nb (sml_at hs hi))
  have HL : Hid (sml l = true → grt l loss = true → ∃ b off us, ao = some ⟨b, off, none⟩ ∧ Cp w us l ∧ l.length ≤ 40 ∧ ∀ v, Below w.heap.size w v → ∀ j u, us[j]? = some u → v.cell? ((⟨b, off, none⟩ : Addr).add j) = some u) := fun hs hg => by
    have h1 := (grt_iff.1 hg).1
    obtain ⟨b, off, _, e, _⟩ := hl 0 (by omega)
    subst e
    obtain ⟨us, u1, u2⟩ := Cp.ofNl hl
    refine ⟨b, off, us, rfl, u1, sml_len hs, fun v hv j u hu => ?_⟩
    rw [row_add]
    have := u2 j u hu
    rw [row_add] at this
    exact cell_below hv this
  have HNo : Hid (sml l = true → grt l loss = true → ∀ v a k x i, i < l.length → Below w.heap.size w v → Nl v a (l.set i { l.getD i zn with name := x }) → l.length ≤ k → k ≤ maxLen → x.size ≤ 20000 → ((l.getD i zn).name.size = 0 → ¬ x.size = 0) → (¬ (l.getD i zn).name.size = 0 → x = em) →
      Calls Tryd.prog 7 #[.agg #[.slice a l.length k, .int .i64 loss]] v fun e w' => e = .returned (.bool false) ∧ Below v.heap.size v w') := fun hs hg v a k x i hi hv hn hk hkm hx h1 h2 => by
    have := Right_any (l.set i { l.getD i zn with name := x }) a k loss aF aZ v (hE.below hv) hn (by simpa using hk) hkm (fun j hj => by
      rw [List.length_set] at hj
      by_cases he : j = i
      · subst he
        have hb := sma_nb (sml_at hs hj)
        rw [List.getD_eq_getElem?_getD, List.getElem?_set_self hj]
        exact ⟨hb.1, hb.2.1, hb.2.2.1, hx, hb.2.2.2.2⟩
      · rw [List.getD_eq_getElem?_getD, List.getElem?_set_ne (by omega), ← List.getD_eq_getElem?_getD]
        exact sma_nb (sml_at hs hj))
    rw [grt_renamed (grt_iff.1 hg).2.2.2.2 hi h1 h2, List.length_set] at this
    exact this
  have HTw : Hid (sml l = true → grt l loss = true → ∀ v a k i s, i < l.length → Below w.heap.size w v → s.length ≤ 1000 → Nl v a (l ++ [⟨str lParam, 0, 0, (l.getD i zn).name, s, em, 0, []⟩]) → l.length + 1 ≤ k → k ≤ maxLen →
      Calls Tryd.prog 7 #[.agg #[.slice a (l.length + 1) k, .int .i64 loss]] v fun e w' => e = .returned (.bool false) ∧ Below v.heap.size v w') := fun hs hg v a k i s hi hv hs1 hn hk hkm => by
    have := Right_any _ a k loss aF aZ v (hE.below hv) hn (by simpa using hk) hkm (fun j hj => by
      rw [List.length_append, List.length_singleton] at hj
      by_cases he : j < l.length
      · rw [List.getD_eq_getElem?_getD, List.getElem?_append_left he, ← List.getD_eq_getElem?_getD]
        exact sma_nb (sml_at hs he)
      · have e : j = l.length := by omega
        subst e
        rw [List.getD_eq_getElem?_getD, List.getElem?_append_right (Nat.le_refl _), Nat.sub_self]
        have hb := sma_nb (sml_at hs hi)
        exact ⟨hs1, Nat.zero_le _, Nat.zero_le _, hb.2.2.2.1, fun x hx => absurd hx List.not_mem_nil⟩)
    rw [grt_twice (x := ⟨str lParam, 0, 0, (l.getD i zn).name, s, em, 0, []⟩) (grt_iff.1 hg).2.2.2.2 hi rfl rfl, List.length_append] at this
    exact this
  have HW : Hid (∀ o1, Below w.heap.size w (w.alloc o1)) := fun o1 => bl_alloc (Below.refl _ _) o1
  have HW' : Hid (∀ o1 o2, Below w.heap.size w ((w.alloc o1).alloc o2)) := fun o1 o2 => bl_alloc (bl_alloc (Below.refl _ _) o1) o2
  have HNs : Hid (sml l = true → ∀ i, i < l.length → (l.getD i zn).name.size ≤ 20000) := fun hs i hi => (sma_nb (sml_at hs hi)).2.2.2.1
  clear hE
  have hC : ∀ v, Below (G + 1) (w.alloc (.cells #[.slice ao l.length c, .int .i64 loss] 24)) v → v.cell? ⟨G, 0, none⟩ = some (.slice ao l.length c) ∧ v.cell? ⟨G, 1, none⟩ = some (.int .i64 loss) := fun v hv => by
    have b0 := heap_alloc_new w (.cells #[.slice ao l.length c, .int .i64 loss] 24)
    rw [hG] at b0
    have f0 : v.heap[G]? = some (.cells #[.slice ao l.length c, .int .i64 loss] 24 (0, 0)) := by rw [hv.block G (by omega)]; exact b0
    exact ⟨by simp [World.cell?, f0], by simp [World.cell?, f0]⟩
  have HC : Hid _ := hC
  have hg1 : (w.alloc (.cells #[.slice ao l.length c, .int .i64 loss] 24)).heap.size = G + 1 := by rw [← hG]; simp
  have HG1 : Hid _ := hg1
  have HGG : Hid _ := hG
  clear hC hg1
  obtain ⟨sm, hsm⟩ : ∃ b, sml l = b := ⟨_, rfl⟩
  obtain ⟨gr, hgr⟩ : ∃ b, grt l loss = b := ⟨_, rfl⟩
  simp only [hsm, hgr] at HS1 HR2 HL HNo HTw HNs
  clear hsm hgr
  go_enter Tryd.func4, Tryd.ntmps4
  go_wp2_with fail
  refine (HS1.out _ (HW.out _)).mono ?_
  rintro e w2 ⟨rfl, hx2⟩
  have HW2 : Hid (Below (G + 1) (w.alloc (.cells #[.slice ao l.length c, .int .i64 loss] 24)) w2) := hx2.mono (by rw [HG1.out]; exact Nat.le_refl _)
  have HB2 : Hid (Below w.heap.size w w2) := (HW.out _).trans (HW2.out.mono (by rw [HGG.out]; omega))
  clear hx2
  cases sm with
  | false =>
    go_wp2_with fail
    refine (HA.out _ HB2.out).mono ?_
    rintro e w3 ⟨rfl, hx3⟩
    have HB3 : Hid _ := HB2.out.trans (hx3.mono HB2.out.size)
    clear hx3
    go_wp2
    go_ret
    exact ⟨rfl, HB3.out⟩
  | true =>
    obtain ⟨g0, g1⟩ := HC.out w2 HW2.out
    have hlt2 : G + 1 ≤ w2.heap.size := by have := HW2.out.size; rw [HG1.out] at this; exact this
    go_wp2_with fail
    refine (HR2.out (by first | exact rfl | trivial) _ HB2.out).mono ?_
    rintro e w3 ⟨rfl, hx3⟩
    have HW3 : Hid (Below (G + 1) (w.alloc (.cells #[.slice ao l.length c, .int .i64 loss] 24)) w3) := HW2.out.trans (hx3.mono hlt2)
    have HB3 : Hid (Below w.heap.size w w3) := (HW.out _).trans (HW3.out.mono (by rw [HGG.out]; omega))
    clear hx3 g0 g1 hlt2
    cases gr with
    | false =>
      go_wp2_with fail
      refine (HA.out _ HB3.out).mono ?_
      rintro e w4 ⟨rfl, hx4⟩
      have HB4 : Hid _ := HB3.out.trans (hx4.mono HB3.out.size)
      clear hx4
      go_wp2
      go_ret
      exact ⟨rfl, HB4.out⟩
    | true =>
      obtain ⟨b, off, us, rfl, hcp, h40, hcells⟩ := HL.out (by first | exact rfl | trivial) (by first | exact rfl | trivial)
      have HNo' := HNo.out (by first | exact rfl | trivial) (by first | exact rfl | trivial)
      have HTw' := HTw.out (by first | exact rfl | trivial) (by first | exact rfl | trivial)
      have HNs' := HNs.out (by first | exact rfl | trivial)
      have HNo2 : Hid _ := HNo'
      have HTw2 : Hid _ := HTw'
      have HNs2 : Hid _ := HNs'
      have HCp : Hid (Cp w us l) := hcp
      have HCe : Hid _ := hcells
      obtain ⟨g0, g1⟩ := HC.out w3 HW3.out
      clear HNo' HTw' HNs' hcp hcells HNo HTw HNs HL HS1 HR2
      by_cases h0 : at_ < 0
      · go_wp2_with fail
        refine (HA.out _ HB3.out).mono ?_
        rintro e w4 ⟨rfl, hx4⟩
        have HB4 : Hid _ := HB3.out.trans (hx4.mono HB3.out.size)
        clear hx4
        go_wp2
        go_ret
        exact ⟨rfl, HB4.out⟩
      by_cases h1 : (l.length : Int) ≤ at_
      · go_wp2_with fail
        refine (HA.out _ HB3.out).mono ?_
        rintro e w4 ⟨rfl, hx4⟩
        have HB4 : Hid _ := HB3.out.trans (hx4.mono HB3.out.size)
        clear hx4
        go_wp2
        go_ret
        exact ⟨rfl, HB4.out⟩
      obtain ⟨i, rfl⟩ : ∃ i : Nat, at_ = (i : Int) := ⟨at_.toNat, by omega⟩
      have hil : i < l.length := by omega
      obtain ⟨i0, hi, hz0, hz1, hz2⟩ := info_parts inf28
      have m2 : (w3.alloc (.cells #[] 30)).ownsRow w3.heap.size 30 8 (.slice (some ⟨w3.heap.size, 0, none⟩) 0 0) 0 [] := World.ownsRow_made w3 #[] 0 (Nat.le_refl _) (by simp) (by simp)
      have hce3 := HCe.out (w3.alloc (.cells #[] 30)) (bl_alloc HB3.out _)
      have hul := HCp.out.1
      have huo := HCp.out.one
      have HIl : Hid _ := hil
      have gA0 : (w3.alloc (.cells #[] 30)).cell? ⟨G, 0, none⟩ = _ := cell_below (bl_alloc (Below.refl _ _) _) g0
      go_wp2_with (first | (at_builtin; refine wpList_append_own_at _ rfl _ _ 22 rfl w3.heap.size 30 i0 _ 8 120 Tryd.underlying22 hi hz0 hz1 hz2 rfl (by decide) _ 0 [] rfl m2 ⟨b, off, none⟩ l.length c us rfl hul hce3 huo (by unfold maxLen; omega) (by omega) (by simp) ?_))
      intro v' w4 hown hgrow _ _
      have hB4 : Below w3.heap.size w3 w4 := ((Below.refl _ _).alloc (Nat.le_refl _) _).grown hgrow (by simp) (fun k h => by simp [Value.ownBlock] at h; omega)
      obtain ⟨a4, c4, rfl⟩ := own_slice8 hown
      have hform : ∃ gg, a4 = some ⟨gg, 0, none⟩ ∧ w3.heap.size ≤ gg ∧ (∃ cur, w4.heap[gg]? = some (.cells cur 30 (0, 0))) ∧ l.length ≤ c4 ∧ c4 ≤ maxLen := by
        rcases hown.2 with ⟨e1, e2⟩ | ⟨g, cap, cur, e1, e2, e3, e4, e5, _⟩
        · omega
        · simp only [Value.slice.injEq] at e1
          exact ⟨g, e1.1, e2, ⟨cur, e3⟩, by omega, by omega⟩
      obtain ⟨gg, rfl, hgg, ⟨cur, hcur⟩, hc4, hc4m⟩ := hform
      have HB4 : Hid (Below w.heap.size w w4) := HB3.out.trans (hB4.mono HB3.out.size)
      have HW4 : Hid (Below (G + 1) (w.alloc (.cells #[.slice (some ⟨b, off, none⟩) l.length c, .int .i64 loss] 24)) w4) := HW3.out.trans (hB4.mono (by have := HW3.out.size; rw [HG1.out] at this; exact this))
      have HO4 : Hid (w4.ownsRow w3.heap.size 30 8 (.slice (some ⟨gg, 0, none⟩) l.length c4) l.length us) := hown
      have hnm : w4.cell? ⟨gg, i * 8 + 3, none⟩ = some (.string (l.getD i zn).name) := by
        obtain ⟨cs, h1, h2⟩ := HCp.out.2 i hil
        obtain ⟨sa, sc, da, dc, rfl, _⟩ := h1
        rw [hown.cellAt (i * 8 + 3) (by omega), h2 3 (by omega)]
        rfl
      have hfz : w4.frozen? ⟨gg, i * 8 + 3, none⟩ = false := by simp [World.frozen?, hcur]
      have HCur : Hid _ := hcur
      have HGg : Hid _ := hgg
      have HC4 : Hid _ := And.intro hc4 hc4m
      clear hgrow m2 hce3 huo hul hown hB4 hcur hgg hc4 hc4m g0 g1 gA0
      obtain ⟨nm, hnmd⟩ : ∃ x, (l.getD i zn).name = x := ⟨_, rfl⟩
      have HNm : Hid _ := hnmd
      rw [hnmd] at hnm
      clear hnmd
      go_upto_region 7 with fail
      all_goals clear hnm hfz
      · have he : nm.size = 0 := of_decide_eq_true ((emp_dec nm).symm.trans ‹nm.toList.isEmpty = true›)
        have HX : Hid ((⟨#[108, 111, 110, 101, 108, 121]⟩ : ByteArray).size ≤ 20000 ∧ (nm.size = 0 → ¬ (⟨#[108, 111, 110, 101, 108, 121]⟩ : ByteArray).size = 0) ∧ (¬ nm.size = 0 → (⟨#[108, 111, 110, 101, 108, 121]⟩ : ByteArray) = em)) := ⟨by decide, fun _ => by decide, fun h => absurd he h⟩
        clear he
        generalize hxx : (⟨#[108, 111, 110, 101, 108, 121]⟩ : ByteArray) = xx at HX ⊢
        clear hxx
        have HO5 : Hid ((w4.setCell ⟨gg, i * 8 + 3, none⟩ (.string xx)).ownsRow w3.heap.size 30 8 (.slice (some ⟨gg, 0, none⟩) l.length c4) l.length (us.set (i * 8 + 3) (.string xx))) := own_at HO4.out _ (by have := HIl.out; omega)
        have HB5 : Hid (Below w.heap.size w (w4.setCell ⟨gg, i * 8 + 3, none⟩ (.string xx))) := Below.setCell HB4.out (Nat.le_trans HB3.out.size HGg.out) _
        have HCp5 : Hid (Cp (w4.setCell ⟨gg, i * 8 + 3, none⟩ (.string xx)) (us.set (i * 8 + 3) (.string xx)) (l.set i { l.getD i zn with name := xx })) := (HCp.out.below HB5.out).named HIl.out xx
        have HW5 : Hid (Below (G + 1) (w.alloc (.cells #[.slice (some ⟨b, off, none⟩) l.length c, .int .i64 loss] 24)) (w4.setCell ⟨gg, i * 8 + 3, none⟩ (.string xx))) := Below.setCell HW4.out (by have := HW3.out.size; rw [HG1.out] at this; exact Nat.le_trans this HGg.out) _
        clear HO4 HB4 HW4 HCur HW2 HB2
        generalize w4.setCell ⟨gg, i * 8 + 3, none⟩ (.string xx) = w5 at *
        have HB6 : Hid (∀ v, Below w5.heap.size w5 v → Below w.heap.size w v) := fun v hv => HB5.out.trans (hv.mono HB5.out.size)
        have HG6 : Hid (∀ v, Below w5.heap.size w5 v → v.cell? ⟨G, 0, none⟩ = some (.slice (some ⟨b, off, none⟩) l.length c) ∧ v.cell? ⟨G, 1, none⟩ = some (.int .i64 loss)) := fun v hv => HC.out v (HW5.out.trans (hv.mono (by have := HW5.out.size; rw [HG1.out] at this; exact this)))
        have HNc : Hid (∀ v, Below w5.heap.size w5 v → v.cell? ⟨b, off + i * 8 + 3, none⟩ = some (.string nm)) := fun v hv => by
          obtain ⟨cs, h1, h2⟩ := HCp.out.2 i HIl.out
          obtain ⟨sa, sc, da, dc, rfl, _⟩ := h1
          have := HCe.out v (HB6.out v hv) (i * 8 + 3) _ (h2 3 (by omega))
          rw [row_add] at this
          rw [Nat.add_assoc, this, ← HNm.out]
        have hgB : G < w5.heap.size := by have := HW5.out.size; rw [HG1.out] at this; omega
        have hul5 : us.length = l.length * 8 := HCp.out.1
        have HUo : Hid _ := HCp.out.one
        refine region_bar_inv 13 (by kernel_rfl) (by kernel_rfl) (fun L a v => ∃ s45 s46 s47 s48 s49 s50 s51 s52 s53 s54 s55 s56 s57, a = ⟨#[Value.agg #[Value.slice (some { block := b, off := off }) l.length c, Value.int IntKind.i64 loss], Value.int IntKind.i64 (i : Int), Value.pointer (some { block := G, off := 0 }), undef, Value.bool false, Value.slice (some { block := gg, off := 0 }) l.length c4, undef, Value.agg #[Value.slice (some { block := b, off := off }) l.length c, Value.int IntKind.i64 loss], Value.bool true, Value.bool false, Value.bool false, Value.agg #[Value.slice (some { block := b, off := off }) l.length c, Value.int IntKind.i64 loss], Value.bool true, Value.bool false, Value.bool false, Value.bool false, Value.int IntKind.i64 (i : Int), Value.bool (decide ((i : Int) < 0)), Value.bool (decide ((i : Int) < 0)), Value.bool (decide ((i : Int) < 0)), Value.int IntKind.i64 (i : Int), Value.pointer (some { block := G, off := 0 }), Value.slice (some { block := b, off := off }) l.length c, Value.int IntKind.i64 (l.length : Int), Value.bool false, Value.bool (decide ((i : Int) < 0)), undef, Value.slice (some { block := w3.heap.size, off := 0 }) 0 0, Value.pointer (some { block := G, off := 0 }), Value.slice (some { block := b, off := off }) l.length c, Value.slice (some { block := gg, off := 0 }) l.length c4, Value.slice (some { block := gg, off := 0 }) l.length c4, Value.int IntKind.i64 (i : Int), Value.pointer (some { block := gg, off := i * 8 }), Value.pointer (some { block := gg, off := i * 8 + 3 }), Value.string nm, Value.bool nm.toList.isEmpty, Value.slice (some { block := gg, off := 0 }) l.length c4, Value.int IntKind.i64 (i : Int), Value.pointer (some { block := gg, off := i * 8 }), Value.pointer (some { block := gg, off := i * 8 + 3 }), undef, undef, undef, undef, s45, s46, s47, s48, s49, s50, s51, s52, s53, s54, s55, s56, s57, undef, undef, undef, undef, undef, undef, undef, undef, undef, undef, undef, undef, undef, undef, undef, undef, undef, undef], []⟩ ∧ Ap w5 w5.heap.size G (.slice (some ⟨b, off, none⟩) l.length c) us l.length i b off nm L v s45 s46 s47 s48 s49 s50 s51 s52 s53 s54 s55 s56 s57) ?_ ?_ ?_
        · exact ⟨_, _, _, _, _, _, _, _, _, _, _, _, _, rfl, Ap.start _ rfl _ (bl_drew (Below.refl _ _)) _ _ _ _ _ _ _ _ _ _ _ _ _⟩
        · intro L a v k hL9 hlt hI hrd
          obtain ⟨s45, s46, s47, s48, s49, s50, s51, s52, s53, s54, s55, s56, s57, rfl, hP⟩ := hI
          obtain ⟨hu, o9, ho, haf⟩ := mem_ready.1 hrd
          replace hu := off_of hu
          have hbv := hP.bl
          have hsz := hbv.size
          have y0 := (HG6.out v hbv).1
          have yn := HNc.out v hbv
          rcases (by omega : k = 0 ∨ k = 1 ∨ k = 2 ∨ k = 3 ∨ k = 4 ∨ k = 5 ∨ k = 6 ∨ k = 7 ∨ k = 8 ∨ k = 9 ∨ k = 10 ∨ k = 11 ∨ k = 12) with rfl | rfl | rfl | rfl | rfl | rfl | rfl | rfl | rfl | rfl | rfl | rfl | rfl
          all_goals cases ho
          · have hP2 := hP.t0 (x := .slice (some ⟨v.heap.size, 0, none⟩) 0 0) (v' := v.alloc (.cells #[] 30)) ⟨_, rfl, hsz, fun _ => heap_alloc_new v _⟩ (bl_alloc (Below.refl _ _) _) hsz
            refine step_run rfl rfl ?_
            go_simp
            exact ⟨_, _, _, _, _, _, _, _, _, _, _, _, _, ⟨rfl, rfl, rfl, rfl, rfl, rfl, rfl, rfl, rfl, rfl, rfl, rfl, rfl⟩, hP2⟩
          · have hP2 := hP.t1
            refine step_run rfl rfl ?_
            go_simp
            exact ⟨_, _, _, _, _, _, _, _, _, _, _, _, _, ⟨rfl, rfl, rfl, rfl, rfl, rfl, rfl, rfl, rfl, rfl, rfl, rfl, rfl⟩, hP2⟩
          · have hP2 := hP.t2
            have e1 := (hP.h1 (haf { on := 1, ground := .data } (by simp) rfl)).symm
            subst e1
            refine step_run rfl rfl ?_
            go_simp
            exact ⟨_, _, _, _, _, _, _, _, _, _, _, _, _, ⟨rfl, rfl, rfl, rfl, rfl, rfl, rfl, rfl, rfl, rfl, rfl, rfl, rfl⟩, hP2⟩
          · have e2 := (hP.h2 (haf { on := 2, ground := .data } (by simp) rfl)).symm
            obtain ⟨g, e0, hg1, hg2⟩ := hP.h0 (haf { on := 0, ground := .data } (by simp) rfl)
            replace e0 := e0.symm
            subst e0 e2
            have hg3 := hg2 hu
            refine step_run rfl rfl ?_
            have m2 : v.ownsRow g 30 8 (.slice (some ⟨g, 0, none⟩) 0 0) 0 [] := ⟨rfl, .inr ⟨g, 0, #[], rfl, Nat.le_refl _, hg3, Nat.le_refl _, Nat.zero_le _, rfl, rfl⟩⟩
            refine wp_append_own v (.tmp 45) (.tmp 47) 22 rfl g 30 i0 _ 8 120 Tryd.underlying22 hi hz0 hz1 hz2 rfl (by decide) (.slice (some ⟨g, 0, none⟩) 0 0) 0 [] rfl m2 ⟨b, off, none⟩ l.length c us rfl hul5 (HCe.out v (HB6.out v hbv)) HUo.out (by unfold maxLen; omega) (by omega) (by have := (Array.getElem?_eq_some_iff.1 hg3).1; omega) (fun x v' ho' hg' hor => ?_)
            rw [Nat.zero_add, List.nil_append] at ho'
            have hP2 := hP.t3 (x := x) (v' := v') (Lx.own_mono ho' hg1) (hbv.trans (Below.grown (Below.refl _ _) hg' hsz (fun k h => by cases h; exact hg1))) (Kp.grown hg' (.inr rfl) hg3)
            exact ⟨_, _, _, _, _, _, _, _, _, _, _, _, _, rfl, hP2⟩
          · have hP2 := hP.t4
            refine step_run rfl rfl ?_
            go_simp
            exact ⟨_, _, _, _, _, _, _, _, _, _, _, _, _, ⟨rfl, rfl, rfl, rfl, rfl, rfl, rfl, rfl, rfl, rfl, rfl, rfl, rfl⟩, hP2⟩
          · have hP2 := hP.t5
            have e1 := (hP.h4 (haf { on := 4, ground := .data } (by simp) rfl)).symm
            subst e1
            refine step_run rfl rfl ?_
            go_simp
            exact ⟨_, _, _, _, _, _, _, _, _, _, _, _, _, ⟨rfl, rfl, rfl, rfl, rfl, rfl, rfl, rfl, rfl, rfl, rfl, rfl, rfl⟩, hP2⟩
          · have hP2 := hP.t6
            refine step_run rfl rfl ?_
            go_simp
            exact ⟨_, _, _, _, _, _, _, _, _, _, _, _, _, ⟨rfl, rfl, rfl, rfl, rfl, rfl, rfl, rfl, rfl, rfl, rfl, rfl, rfl⟩, hP2⟩
          · have hP2 := hP.t7
            have e1 := (hP.h5 (haf { on := 5, ground := .data } (by simp) rfl)).symm
            have e2 := (hP.h6 (haf { on := 6, ground := .data } (by simp) rfl)).symm
            subst e1 e2
            refine step_run rfl rfl ?_
            go_simp
            exact ⟨_, _, _, _, _, _, _, _, _, _, _, _, _, ⟨rfl, rfl, rfl, rfl, rfl, rfl, rfl, rfl, rfl, rfl, rfl, rfl, rfl⟩, hP2⟩
          · have hP2 := hP.t8
            have e1 := (hP.h7 (haf { on := 7, ground := .data } (by simp) rfl)).symm
            subst e1
            refine step_run rfl rfl ?_
            go_simp
            exact ⟨_, _, _, _, _, _, _, _, _, _, _, _, _, ⟨rfl, rfl, rfl, rfl, rfl, rfl, rfl, rfl, rfl, rfl, rfl, rfl, rfl⟩, hP2⟩
          · have hP2 := hP.t9
            have e1 := (hP.h8 (haf { on := 8, ground := .data } (by simp) rfl)).symm
            subst e1
            refine step_run rfl rfl ?_
            go_simp
            exact ⟨_, _, _, _, _, _, _, _, _, _, _, _, _, ⟨rfl, rfl, rfl, rfl, rfl, rfl, rfl, rfl, rfl, rfl, rfl, rfl, rfl⟩, hP2⟩
          · have hP2 := hP.t10 (x := .slice (some ⟨v.heap.size, 0, none⟩) 1 1) (v' := v.alloc (.cells #[.int .i64 1] 3)) ⟨_, rfl, heap_alloc_new v _⟩ (bl_alloc (Below.refl _ _) _) hsz
            refine step_run rfl rfl ?_
            go_simp
            exact ⟨_, _, _, _, _, _, _, _, _, _, _, _, _, ⟨rfl, rfl, rfl, rfl, rfl, rfl, rfl, rfl, rfl, rfl, rfl, rfl, rfl⟩, hP2⟩
          · have e1 := (hP.h9 (haf { on := 9, ground := .data } (by simp) rfl)).symm
            obtain ⟨g, e2, hg1⟩ := hP.h10 (haf { on := 10, ground := .data } (by simp) rfl)
            replace e2 := e2.symm
            subst e1 e2
            have hP2 := hP.t11 ⟨g, rfl, hg1⟩
            refine step_run rfl rfl ?_
            go_simp
            exact ⟨_, _, _, _, _, _, _, _, _, _, _, _, _, ⟨rfl, rfl, rfl, rfl, rfl, rfl, rfl, rfl, rfl, rfl, rfl, rfl, rfl⟩, hP2⟩
          · obtain ⟨g, e2, hg1⟩ := hP.h11 (haf { on := 11, ground := .data } (by simp) rfl)
            replace e2 := e2.symm
            subst e2
            have hP2 := hP.t12 (x := .slice (some ⟨v.heap.size, 0, none⟩) 1 1) (v' := v.alloc (.cells #[.string ⟨#[112, 97, 114, 97, 109]⟩, .int .i64 0, .int .i64 0, .string nm, .slice (some ⟨g, 0, none⟩) 1 1, .string ⟨#[]⟩, .int .i64 0, .slice none 0 0] 30)) ⟨_, g, rfl, heap_alloc_new v _, kp_below (bl_alloc (Below.refl _ _) _) hg1⟩ (bl_alloc (Below.refl _ _) _) hsz
            refine step_run rfl rfl ?_
            go_simp
            exact ⟨_, _, _, _, _, _, _, _, _, _, _, _, _, ⟨rfl, rfl, rfl, rfl, rfl, rfl, rfl, rfl, rfl, rfl, rfl, rfl, rfl⟩, hP2⟩
        intro L a v hon hI
        obtain ⟨s45, s46, s47, s48, s49, s50, s51, s52, s53, s54, s55, s56, s57, rfl, hP⟩ := hI
        have ho := hP.h3 (hon 3 (by decide))
        obtain ⟨g1, g2, e2, hg1, hg2⟩ := hP.h12 (hon 12 (by decide))
        have hbv := hP.bl
        clear hP hon
        subst e2
        obtain ⟨ax, cx, rfl⟩ := own_slice8 ho
        have hnw : ∀ j u, ([.string ⟨#[112, 97, 114, 97, 109]⟩, .int .i64 0, .int .i64 0, .string nm, .slice (some ⟨g2, 0, none⟩) 1 1, .string ⟨#[]⟩, .int .i64 0, .slice none 0 0] : List Value)[j]? = some u → v.cell? ((⟨g1, 0, none⟩ : Addr).add j) = some u := fun j u hu => by
          rw [row_add, Nat.zero_add]
          simp only [World.cell?, hg1]
          simpa using hu
        have hsz := hbv.size
        refine any_one 13 _ (by kernel_rfl) rfl (fun K hK => ?_)
        refine step_append rfl (.tmp 48) (.tmp 57) 22 rfl w5.heap.size 30 i0 _ 8 120 Tryd.underlying22 hi hz0 hz1 hz2 rfl (by decide) (.slice ax l.length cx) l.length us rfl ho ⟨g1, 0, none⟩ 1 1 [.string ⟨#[112, 97, 114, 97, 109]⟩, .int .i64 0, .int .i64 0, .string nm, .slice (some ⟨g2, 0, none⟩) 1 1, .string ⟨#[]⟩, .int .i64 0, .slice none 0 0] rfl rfl hnw (by intro u hu; simp only [List.mem_cons, List.not_mem_nil, or_false] at hu; rcases hu with rfl | rfl | rfl | rfl | rfl | rfl | rfl | rfl <;> rfl) (by unfold maxLen; omega) (by omega) hsz (fun v' w6 ho' hg' => ?_)
        obtain ⟨a6, c6, rfl⟩ := own_slice8 ho'
        have HB56 : Hid (Below w5.heap.size w5 w6) := hbv.trans (Below.grown (Below.refl _ _) hg' hsz (fun k hk => (World.ownsRow.lt ho k hk).1))
        have HN6 : Hid (Nl w6 a6 (l ++ [⟨str lParam, 0, 0, nm, [1], em, 0, []⟩])) := twice_nl HCp.out (HB6.out _ HB56.out) ho hg' hg2 ho'
        have HC6 : Hid _ := own_cap ho'
        clear hbv ho hg1 hg2 hnw hsz ho' hg' hul5 hgB
        go_simp
        refine hK _ _ ?_
        clear hK K
        refine any_one 14 _ (by kernel_rfl) rfl (fun K hK => ?_)
        go_simp
        refine hK _ _ ?_
        clear hK K
        refine any_end (by kernel_rfl) ?_
        obtain ⟨y0, y1⟩ := HG6.out w6 HB56.out
        have hr1 := HNo2.out w6 (some ⟨gg, 0, none⟩) c4 xx i HIl.out (HB6.out _ HB56.out) ((HCp5.out.below HB56.out).nl (by
          have := Lx.own_below HO5.out HB56.out
          simpa using this)) HC4.out.1 HC4.out.2 HX.out.1 (by rw [HNm.out]; exact HX.out.2.1) (by rw [HNm.out]; exact HX.out.2.2)
        go_wp2_with fail
        refine hr1.mono ?_
        rintro e w7 ⟨rfl, hb7⟩
        have HB57 : Hid (Below w5.heap.size w5 w7) := HB56.out.trans (hb7.mono HB56.out.size)
        have HN7 : Hid _ := HN6.out.below hb7
        clear hr1 hb7 y0 y1
        obtain ⟨y0, y1⟩ := HG6.out w7 HB57.out
        have hr2 := HTw2.out w7 a6 c6 i [1] HIl.out (HB6.out _ HB57.out) (by decide) (by rw [HNm.out]; exact HN7.out) HC6.out.1 HC6.out.2
        go_wp2_with fail
        refine hr2.mono ?_
        rintro e w8 ⟨rfl, hb8⟩
        have HB58 : Hid (Below w5.heap.size w5 w8) := HB57.out.trans (hb8.mono HB57.out.size)
        clear hr2 hb8 y0 y1
        go_wp2_with fail
        refine (HA.out _ (HB6.out _ HB58.out)).mono ?_
        rintro e w9 ⟨rfl, hb9⟩
        have HB9 : Hid (Below w.heap.size w w9) := (HB6.out _ HB58.out).trans (hb9.mono (HB6.out _ HB58.out).size)
        clear hb9
        go_wp2
        go_ret
        exact ⟨rfl, HB9.out⟩
      · have he : ¬ nm.size = 0 := of_decide_eq_false ((emp_dec nm).symm.trans ‹nm.toList.isEmpty = false›)
        have HX : Hid ((⟨#[]⟩ : ByteArray).size ≤ 20000 ∧ (nm.size = 0 → ¬ (⟨#[]⟩ : ByteArray).size = 0) ∧ (¬ nm.size = 0 → (⟨#[]⟩ : ByteArray) = em)) := ⟨Nat.zero_le _, fun h => absurd h he, fun _ => rfl⟩
        clear he
        generalize hxx : (⟨#[]⟩ : ByteArray) = xx at HX ⊢
        clear hxx
        have HO5 : Hid ((w4.setCell ⟨gg, i * 8 + 3, none⟩ (.string xx)).ownsRow w3.heap.size 30 8 (.slice (some ⟨gg, 0, none⟩) l.length c4) l.length (us.set (i * 8 + 3) (.string xx))) := own_at HO4.out _ (by have := HIl.out; omega)
        have HB5 : Hid (Below w.heap.size w (w4.setCell ⟨gg, i * 8 + 3, none⟩ (.string xx))) := Below.setCell HB4.out (Nat.le_trans HB3.out.size HGg.out) _
        have HCp5 : Hid (Cp (w4.setCell ⟨gg, i * 8 + 3, none⟩ (.string xx)) (us.set (i * 8 + 3) (.string xx)) (l.set i { l.getD i zn with name := xx })) := (HCp.out.below HB5.out).named HIl.out xx
        have HW5 : Hid (Below (G + 1) (w.alloc (.cells #[.slice (some ⟨b, off, none⟩) l.length c, .int .i64 loss] 24)) (w4.setCell ⟨gg, i * 8 + 3, none⟩ (.string xx))) := Below.setCell HW4.out (by have := HW3.out.size; rw [HG1.out] at this; exact Nat.le_trans this HGg.out) _
        clear HO4 HB4 HW4 HCur HW2 HB2
        generalize w4.setCell ⟨gg, i * 8 + 3, none⟩ (.string xx) = w5 at *
        have HB6 : Hid (∀ v, Below w5.heap.size w5 v → Below w.heap.size w v) := fun v hv => HB5.out.trans (hv.mono HB5.out.size)
        have HG6 : Hid (∀ v, Below w5.heap.size w5 v → v.cell? ⟨G, 0, none⟩ = some (.slice (some ⟨b, off, none⟩) l.length c) ∧ v.cell? ⟨G, 1, none⟩ = some (.int .i64 loss)) := fun v hv => HC.out v (HW5.out.trans (hv.mono (by have := HW5.out.size; rw [HG1.out] at this; exact this)))
        have HNc : Hid (∀ v, Below w5.heap.size w5 v → v.cell? ⟨b, off + i * 8 + 3, none⟩ = some (.string nm)) := fun v hv => by
          obtain ⟨cs, h1, h2⟩ := HCp.out.2 i HIl.out
          obtain ⟨sa, sc, da, dc, rfl, _⟩ := h1
          have := HCe.out v (HB6.out v hv) (i * 8 + 3) _ (h2 3 (by omega))
          rw [row_add] at this
          rw [Nat.add_assoc, this, ← HNm.out]
        have hgB : G < w5.heap.size := by have := HW5.out.size; rw [HG1.out] at this; omega
        have hul5 : us.length = l.length * 8 := HCp.out.1
        have HUo : Hid _ := HCp.out.one
        refine region_bar_inv 13 (by kernel_rfl) (by kernel_rfl) (fun L a v => ∃ s45 s46 s47 s48 s49 s50 s51 s52 s53 s54 s55 s56 s57, a = ⟨#[Value.agg #[Value.slice (some { block := b, off := off }) l.length c, Value.int IntKind.i64 loss], Value.int IntKind.i64 (i : Int), Value.pointer (some { block := G, off := 0 }), undef, Value.bool false, Value.slice (some { block := gg, off := 0 }) l.length c4, undef, Value.agg #[Value.slice (some { block := b, off := off }) l.length c, Value.int IntKind.i64 loss], Value.bool true, Value.bool false, Value.bool false, Value.agg #[Value.slice (some { block := b, off := off }) l.length c, Value.int IntKind.i64 loss], Value.bool true, Value.bool false, Value.bool false, Value.bool false, Value.int IntKind.i64 (i : Int), Value.bool (decide ((i : Int) < 0)), Value.bool (decide ((i : Int) < 0)), Value.bool (decide ((i : Int) < 0)), Value.int IntKind.i64 (i : Int), Value.pointer (some { block := G, off := 0 }), Value.slice (some { block := b, off := off }) l.length c, Value.int IntKind.i64 (l.length : Int), Value.bool false, Value.bool (decide ((i : Int) < 0)), undef, Value.slice (some { block := w3.heap.size, off := 0 }) 0 0, Value.pointer (some { block := G, off := 0 }), Value.slice (some { block := b, off := off }) l.length c, Value.slice (some { block := gg, off := 0 }) l.length c4, Value.slice (some { block := gg, off := 0 }) l.length c4, Value.int IntKind.i64 (i : Int), Value.pointer (some { block := gg, off := i * 8 }), Value.pointer (some { block := gg, off := i * 8 + 3 }), Value.string nm, Value.bool nm.toList.isEmpty, undef, undef, undef, undef, Value.slice (some { block := gg, off := 0 }) l.length c4, Value.int IntKind.i64 (i : Int), Value.pointer (some { block := gg, off := i * 8 }), Value.pointer (some { block := gg, off := i * 8 + 3 }), s45, s46, s47, s48, s49, s50, s51, s52, s53, s54, s55, s56, s57, undef, undef, undef, undef, undef, undef, undef, undef, undef, undef, undef, undef, undef, undef, undef, undef, undef, undef], []⟩ ∧ Ap w5 w5.heap.size G (.slice (some ⟨b, off, none⟩) l.length c) us l.length i b off nm L v s45 s46 s47 s48 s49 s50 s51 s52 s53 s54 s55 s56 s57) ?_ ?_ ?_
        · exact ⟨_, _, _, _, _, _, _, _, _, _, _, _, _, rfl, Ap.start _ rfl _ (bl_drew (Below.refl _ _)) _ _ _ _ _ _ _ _ _ _ _ _ _⟩
        · intro L a v k hL9 hlt hI hrd
          obtain ⟨s45, s46, s47, s48, s49, s50, s51, s52, s53, s54, s55, s56, s57, rfl, hP⟩ := hI
          obtain ⟨hu, o9, ho, haf⟩ := mem_ready.1 hrd
          replace hu := off_of hu
          have hbv := hP.bl
          have hsz := hbv.size
          have y0 := (HG6.out v hbv).1
          have yn := HNc.out v hbv
          rcases (by omega : k = 0 ∨ k = 1 ∨ k = 2 ∨ k = 3 ∨ k = 4 ∨ k = 5 ∨ k = 6 ∨ k = 7 ∨ k = 8 ∨ k = 9 ∨ k = 10 ∨ k = 11 ∨ k = 12) with rfl | rfl | rfl | rfl | rfl | rfl | rfl | rfl | rfl | rfl | rfl | rfl | rfl
          all_goals cases ho
          · have hP2 := hP.t0 (x := .slice (some ⟨v.heap.size, 0, none⟩) 0 0) (v' := v.alloc (.cells #[] 30)) ⟨_, rfl, hsz, fun _ => heap_alloc_new v _⟩ (bl_alloc (Below.refl _ _) _) hsz
            refine step_run rfl rfl ?_
            go_simp
            exact ⟨_, _, _, _, _, _, _, _, _, _, _, _, _, ⟨rfl, rfl, rfl, rfl, rfl, rfl, rfl, rfl, rfl, rfl, rfl, rfl, rfl⟩, hP2⟩
          · have hP2 := hP.t1
            refine step_run rfl rfl ?_
            go_simp
            exact ⟨_, _, _, _, _, _, _, _, _, _, _, _, _, ⟨rfl, rfl, rfl, rfl, rfl, rfl, rfl, rfl, rfl, rfl, rfl, rfl, rfl⟩, hP2⟩
          · have hP2 := hP.t2
            have e1 := (hP.h1 (haf { on := 1, ground := .data } (by simp) rfl)).symm
            subst e1
            refine step_run rfl rfl ?_
            go_simp
            exact ⟨_, _, _, _, _, _, _, _, _, _, _, _, _, ⟨rfl, rfl, rfl, rfl, rfl, rfl, rfl, rfl, rfl, rfl, rfl, rfl, rfl⟩, hP2⟩
          · have e2 := (hP.h2 (haf { on := 2, ground := .data } (by simp) rfl)).symm
            obtain ⟨g, e0, hg1, hg2⟩ := hP.h0 (haf { on := 0, ground := .data } (by simp) rfl)
            replace e0 := e0.symm
            subst e0 e2
            have hg3 := hg2 hu
            refine step_run rfl rfl ?_
            have m2 : v.ownsRow g 30 8 (.slice (some ⟨g, 0, none⟩) 0 0) 0 [] := ⟨rfl, .inr ⟨g, 0, #[], rfl, Nat.le_refl _, hg3, Nat.le_refl _, Nat.zero_le _, rfl, rfl⟩⟩
            refine wp_append_own v (.tmp 45) (.tmp 47) 22 rfl g 30 i0 _ 8 120 Tryd.underlying22 hi hz0 hz1 hz2 rfl (by decide) (.slice (some ⟨g, 0, none⟩) 0 0) 0 [] rfl m2 ⟨b, off, none⟩ l.length c us rfl hul5 (HCe.out v (HB6.out v hbv)) HUo.out (by unfold maxLen; omega) (by omega) (by have := (Array.getElem?_eq_some_iff.1 hg3).1; omega) (fun x v' ho' hg' hor => ?_)
            rw [Nat.zero_add, List.nil_append] at ho'
            have hP2 := hP.t3 (x := x) (v' := v') (Lx.own_mono ho' hg1) (hbv.trans (Below.grown (Below.refl _ _) hg' hsz (fun k h => by cases h; exact hg1))) (Kp.grown hg' (.inr rfl) hg3)
            exact ⟨_, _, _, _, _, _, _, _, _, _, _, _, _, rfl, hP2⟩
          · have hP2 := hP.t4
            refine step_run rfl rfl ?_
            go_simp
            exact ⟨_, _, _, _, _, _, _, _, _, _, _, _, _, ⟨rfl, rfl, rfl, rfl, rfl, rfl, rfl, rfl, rfl, rfl, rfl, rfl, rfl⟩, hP2⟩
          · have hP2 := hP.t5
            have e1 := (hP.h4 (haf { on := 4, ground := .data } (by simp) rfl)).symm
            subst e1
            refine step_run rfl rfl ?_
            go_simp
            exact ⟨_, _, _, _, _, _, _, _, _, _, _, _, _, ⟨rfl, rfl, rfl, rfl, rfl, rfl, rfl, rfl, rfl, rfl, rfl, rfl, rfl⟩, hP2⟩
          · have hP2 := hP.t6
            refine step_run rfl rfl ?_
            go_simp
            exact ⟨_, _, _, _, _, _, _, _, _, _, _, _, _, ⟨rfl, rfl, rfl, rfl, rfl, rfl, rfl, rfl, rfl, rfl, rfl, rfl, rfl⟩, hP2⟩
          · have hP2 := hP.t7
            have e1 := (hP.h5 (haf { on := 5, ground := .data } (by simp) rfl)).symm
            have e2 := (hP.h6 (haf { on := 6, ground := .data } (by simp) rfl)).symm
            subst e1 e2
            refine step_run rfl rfl ?_
            go_simp
            exact ⟨_, _, _, _, _, _, _, _, _, _, _, _, _, ⟨rfl, rfl, rfl, rfl, rfl, rfl, rfl, rfl, rfl, rfl, rfl, rfl, rfl⟩, hP2⟩
          · have hP2 := hP.t8
            have e1 := (hP.h7 (haf { on := 7, ground := .data } (by simp) rfl)).symm
            subst e1
            refine step_run rfl rfl ?_
            go_simp
            exact ⟨_, _, _, _, _, _, _, _, _, _, _, _, _, ⟨rfl, rfl, rfl, rfl, rfl, rfl, rfl, rfl, rfl, rfl, rfl, rfl, rfl⟩, hP2⟩
          · have hP2 := hP.t9
            have e1 := (hP.h8 (haf { on := 8, ground := .data } (by simp) rfl)).symm
            subst e1
            refine step_run rfl rfl ?_
            go_simp
            exact ⟨_, _, _, _, _, _, _, _, _, _, _, _, _, ⟨rfl, rfl, rfl, rfl, rfl, rfl, rfl, rfl, rfl, rfl, rfl, rfl, rfl⟩, hP2⟩
          · have hP2 := hP.t10 (x := .slice (some ⟨v.heap.size, 0, none⟩) 1 1) (v' := v.alloc (.cells #[.int .i64 1] 3)) ⟨_, rfl, heap_alloc_new v _⟩ (bl_alloc (Below.refl _ _) _) hsz
            refine step_run rfl rfl ?_
            go_simp
            exact ⟨_, _, _, _, _, _, _, _, _, _, _, _, _, ⟨rfl, rfl, rfl, rfl, rfl, rfl, rfl, rfl, rfl, rfl, rfl, rfl, rfl⟩, hP2⟩
          · have e1 := (hP.h9 (haf { on := 9, ground := .data } (by simp) rfl)).symm
            obtain ⟨g, e2, hg1⟩ := hP.h10 (haf { on := 10, ground := .data } (by simp) rfl)
            replace e2 := e2.symm
            subst e1 e2
            have hP2 := hP.t11 ⟨g, rfl, hg1⟩
            refine step_run rfl rfl ?_
            go_simp
            exact ⟨_, _, _, _, _, _, _, _, _, _, _, _, _, ⟨rfl, rfl, rfl, rfl, rfl, rfl, rfl, rfl, rfl, rfl, rfl, rfl, rfl⟩, hP2⟩
          · obtain ⟨g, e2, hg1⟩ := hP.h11 (haf { on := 11, ground := .data } (by simp) rfl)
            replace e2 := e2.symm
            subst e2
            have hP2 := hP.t12 (x := .slice (some ⟨v.heap.size, 0, none⟩) 1 1) (v' := v.alloc (.cells #[.string ⟨#[112, 97, 114, 97, 109]⟩, .int .i64 0, .int .i64 0, .string nm, .slice (some ⟨g, 0, none⟩) 1 1, .string ⟨#[]⟩, .int .i64 0, .slice none 0 0] 30)) ⟨_, g, rfl, heap_alloc_new v _, kp_below (bl_alloc (Below.refl _ _) _) hg1⟩ (bl_alloc (Below.refl _ _) _) hsz
            refine step_run rfl rfl ?_
            go_simp
            exact ⟨_, _, _, _, _, _, _, _, _, _, _, _, _, ⟨rfl, rfl, rfl, rfl, rfl, rfl, rfl, rfl, rfl, rfl, rfl, rfl, rfl⟩, hP2⟩
        intro L a v hon hI
        obtain ⟨s45, s46, s47, s48, s49, s50, s51, s52, s53, s54, s55, s56, s57, rfl, hP⟩ := hI
        have ho := hP.h3 (hon 3 (by decide))
        obtain ⟨g1, g2, e2, hg1, hg2⟩ := hP.h12 (hon 12 (by decide))
        have hbv := hP.bl
        clear hP hon
        subst e2
        obtain ⟨ax, cx, rfl⟩ := own_slice8 ho
        have hnw : ∀ j u, ([.string ⟨#[112, 97, 114, 97, 109]⟩, .int .i64 0, .int .i64 0, .string nm, .slice (some ⟨g2, 0, none⟩) 1 1, .string ⟨#[]⟩, .int .i64 0, .slice none 0 0] : List Value)[j]? = some u → v.cell? ((⟨g1, 0, none⟩ : Addr).add j) = some u := fun j u hu => by
          rw [row_add, Nat.zero_add]
          simp only [World.cell?, hg1]
          simpa using hu
        have hsz := hbv.size
        refine any_one 13 _ (by kernel_rfl) rfl (fun K hK => ?_)
        refine step_append rfl (.tmp 48) (.tmp 57) 22 rfl w5.heap.size 30 i0 _ 8 120 Tryd.underlying22 hi hz0 hz1 hz2 rfl (by decide) (.slice ax l.length cx) l.length us rfl ho ⟨g1, 0, none⟩ 1 1 [.string ⟨#[112, 97, 114, 97, 109]⟩, .int .i64 0, .int .i64 0, .string nm, .slice (some ⟨g2, 0, none⟩) 1 1, .string ⟨#[]⟩, .int .i64 0, .slice none 0 0] rfl rfl hnw (by intro u hu; simp only [List.mem_cons, List.not_mem_nil, or_false] at hu; rcases hu with rfl | rfl | rfl | rfl | rfl | rfl | rfl | rfl <;> rfl) (by unfold maxLen; omega) (by omega) hsz (fun v' w6 ho' hg' => ?_)
        obtain ⟨a6, c6, rfl⟩ := own_slice8 ho'
        have HB56 : Hid (Below w5.heap.size w5 w6) := hbv.trans (Below.grown (Below.refl _ _) hg' hsz (fun k hk => (World.ownsRow.lt ho k hk).1))
        have HN6 : Hid (Nl w6 a6 (l ++ [⟨str lParam, 0, 0, nm, [1], em, 0, []⟩])) := twice_nl HCp.out (HB6.out _ HB56.out) ho hg' hg2 ho'
        have HC6 : Hid _ := own_cap ho'
        clear hbv ho hg1 hg2 hnw hsz ho' hg' hul5 hgB
        go_simp
        refine hK _ _ ?_
        clear hK K
        refine any_one 14 _ (by kernel_rfl) rfl (fun K hK => ?_)
        go_simp
        refine hK _ _ ?_
        clear hK K
        refine any_end (by kernel_rfl) ?_
        obtain ⟨y0, y1⟩ := HG6.out w6 HB56.out
        have hr1 := HNo2.out w6 (some ⟨gg, 0, none⟩) c4 xx i HIl.out (HB6.out _ HB56.out) ((HCp5.out.below HB56.out).nl (by
          have := Lx.own_below HO5.out HB56.out
          simpa using this)) HC4.out.1 HC4.out.2 HX.out.1 (by rw [HNm.out]; exact HX.out.2.1) (by rw [HNm.out]; exact HX.out.2.2)
        go_wp2_with fail
        refine hr1.mono ?_
        rintro e w7 ⟨rfl, hb7⟩
        have HB57 : Hid (Below w5.heap.size w5 w7) := HB56.out.trans (hb7.mono HB56.out.size)
        have HN7 : Hid _ := HN6.out.below hb7
        clear hr1 hb7 y0 y1
        obtain ⟨y0, y1⟩ := HG6.out w7 HB57.out
        have hr2 := HTw2.out w7 a6 c6 i [1] HIl.out (HB6.out _ HB57.out) (by decide) (by rw [HNm.out]; exact HN7.out) HC6.out.1 HC6.out.2
        go_wp2_with fail
        refine hr2.mono ?_
        rintro e w8 ⟨rfl, hb8⟩
        have HB58 : Hid (Below w5.heap.size w5 w8) := HB57.out.trans (hb8.mono HB57.out.size)
        clear hr2 hb8 y0 y1
        go_wp2_with fail
        refine (HA.out _ (HB6.out _ HB58.out)).mono ?_
        rintro e w9 ⟨rfl, hb9⟩
        have HB9 : Hid (Below w.heap.size w w9) := (HB6.out _ HB58.out).trans (hb9.mono (HB6.out _ HB58.out).size)
        clear hb9
        go_wp2
        go_ret
        exact ⟨rfl, HB9.out⟩
end Go.Proofs.YtadgnafafdfioaaDoor.Gr
