/-
  THE WALK OF GraphLoss: the call gives true. Conditions: each theorem's own.
-/
import Derived.Test.YtadgnafafdfioaaGreatDoorGaw
import Derived.Test.YtadgnafafdfioaaGreatDoorGr2
namespace Go.Proofs.YtadgnafafdfioaaGreatDoor.Gr
open Go.Proofs.YtadgnafafdfioaaGreatDoor.Rd
set_option maxRecDepth 100000
open Go.RowKit
set_option linter.unusedVariables false
set_option linter.unusedSimpArgs false

set_option maxHeartbeats 16000000 in
theorem graphLoss_ok (l : List Nd) (ao : Option Addr) (c : Nat) (loss other : Int) (aF aZ : Addr) (w : World) (hE : Er w aF aZ) (hl : Nl w ao l) (hc : l.length ≤ c) (hcm : c ≤ maxLen) (hw : (Lit.int .i64 other).wf = true) :
    Calls Tryz.prog 5 #[.agg #[.slice ao l.length c, .int .i64 loss], .int .i64 other] w fun e w' => e = .returned (.bool true) ∧ Below w.heap.size w w' := by
  obtain ⟨G, hG⟩ : ∃ G, w.heap.size = G := ⟨_, rfl⟩
  have HA : Hid (∀ v, Below w.heap.size w v → Calls Tryz.prog 7 #[] v fun e w' => e = .returned (.bool true) ∧ Below v.heap.size v w') := fun v hv => awake_any aF aZ v (hE.below hv)
  have HS1 : Hid (∀ v, Below w.heap.size w v → Calls Tryz.prog 6 #[.agg #[.slice ao l.length c, .int .i64 loss]] v fun e w' => e = .returned (.bool (sml l)) ∧ Below v.heap.size v w') := fun v hv => Small_any l ao c loss v (hl.below hv)
  have HR1 : Hid (sml l = true → ∀ v, Below w.heap.size w v → Calls Tryz.prog 8 #[.agg #[.slice ao l.length c, .int .i64 loss]] v fun e w' => e = .returned (.bool (grt l loss)) ∧ Below v.heap.size v w') := fun hs v hv => refRight_any l ao c loss v (hl.below hv) hc hcm (fun i hi => sma_nb (sml_at hs hi))
  have HR2 : Hid (sml l = true → ∀ v, Below w.heap.size w v → Calls Tryz.prog 9 #[.agg #[.slice ao l.length c, .int .i64 other]] v fun e w' => e = .returned (.bool (grt l other)) ∧ Below v.heap.size v w') := fun hs v hv => Right_any l ao c other aF aZ v (hE.below hv) (hl.below hv) hc hcm (fun i hi => sma_nb (sml_at hs hi))
  have HR3 : Hid (sml l = true → grt l loss = true → ∀ v, Below w.heap.size w v → Calls Tryz.prog 9 #[.agg #[.slice ao (loss.toNat + 1) c, .int .i64 loss]] v fun e w' => e = .returned (.bool true) ∧ Below v.heap.size v w') := fun hs hg v hv => by
    have hi := inl_iff.1 (grt_iff.1 hg).2.2.1
    have hlen : (l.take (loss.toNat + 1)).length = loss.toNat + 1 := by rw [List.length_take]; omega
    have := Right_any (l.take (loss.toNat + 1)) ao c loss aF aZ v (hE.below hv) ((hl.below hv).take _) (by omega) hcm (fun i hi' => by
      rw [hlen] at hi'
      rw [getD_take_nd (by omega)]
      exact sma_nb (sml_at hs (by omega)))
    rw [hlen, grt_short hg] at this
    exact this
  have HO : Hid (grt l loss = true → grt l other = (inl l.length other && decide ((sha l other).length = 0))) := fun h => grt_other h
  have HIn : Hid (grt l loss = true → inl l.length loss = true) := fun h => (grt_iff.1 h).2.2.1
  have HSp : Hid (∀ v, Below w.heap.size w v → ∀ i, i < l.length → ∃ b off sa sc, ao = some ⟨b, off, none⟩ ∧ v.cell? ⟨b, off + i * 8 + 4, none⟩ = some (.slice sa (l.getD i zn).shape.length sc)) := fun v hv i hi => by
    obtain ⟨b, off, sa, sc, e, h1, _⟩ := (hl.below hv).shape hi
    exact ⟨b, off, sa, sc, e, h1⟩
  have HSm : Hid (sml l = true → l.length ≤ 40) := fun h => sml_len h
  clear hE hl
  obtain ⟨sm, hsm⟩ : ∃ b, sml l = b := ⟨_, rfl⟩
  obtain ⟨gr, hgr⟩ : ∃ b, grt l loss = b := ⟨_, rfl⟩
  obtain ⟨go, hgo⟩ : ∃ b, grt l other = b := ⟨_, rfl⟩
  simp only [hsm, hgr, hgo] at HS1 HR1 HR2 HR3 HO HIn HSm
  clear hsm hgr hgo
  obtain ⟨ll, hll⟩ : ∃ m, l.length = m := ⟨_, rfl⟩
  simp only [hll] at HS1 HR1 HR2 HO HIn HSp HSm hc ⊢
  clear hll
  have HW : Hid (∀ o1, Below w.heap.size w (w.alloc o1)) := fun o1 => bl_alloc (Below.refl _ _) o1
  have hC : ∀ v, Below (G + 1) (w.alloc (.cells #[.slice ao ll c, .int .i64 loss] 24)) v → v.cell? ⟨G, 0, none⟩ = some (.slice ao ll c) ∧ v.cell? ⟨G, 1, none⟩ = some (.int .i64 loss) := fun v hv => by
    have b0 := heap_alloc_new w (.cells #[.slice ao ll c, .int .i64 loss] 24)
    rw [hG] at b0
    have f0 : v.heap[G]? = some (.cells #[.slice ao ll c, .int .i64 loss] 24 (0, 0)) := by rw [hv.block G (by omega)]; exact b0
    exact ⟨by simp [World.cell?, f0], by simp [World.cell?, f0]⟩
  have HC : Hid _ := hC
  have hg1 : (w.alloc (.cells #[.slice ao ll c, .int .i64 loss] 24)).heap.size = G + 1 := by rw [← hG]; simp
  have HG1 : Hid _ := hg1
  have HGG : Hid _ := hG
  clear hC hg1
  go_enter Tryz.func5, Tryz.ntmps5
  go_wp2_with fail
  refine (HS1.out _ (HW.out _)).mono ?_
  rintro e w2 ⟨rfl, hx2⟩
  have HW2 : Hid (Below (G + 1) (w.alloc (.cells #[.slice ao ll c, .int .i64 loss] 24)) w2) := hx2.mono (by rw [HG1.out]; exact Nat.le_refl _)
  have HB2 : Hid (Below w.heap.size w w2) := (HW.out _).trans (HW2.out.mono (by rw [HGG.out]; omega))
  clear hx2
  cases sm with
  | false =>
    go_wp2_with fail
    refine (HA.out _ HB2.out).mono ?_
    rintro e w3 ⟨rfl, hx3⟩
    have HB3 : Hid _ := HB2.out.trans (hx3.mono HB2.out.size)
    clear hx3
    go_wp2
    go_ret
    exact ⟨rfl, HB3.out⟩
  | true =>
    obtain ⟨g0, g1⟩ := HC.out w2 HW2.out
    have hlt2 : G + 1 ≤ w2.heap.size := by have := HW2.out.size; rw [HG1.out] at this; exact this
    go_wp2_with fail
    refine (HR1.out (by first | exact rfl | trivial) _ HB2.out).mono ?_
    rintro e w3 ⟨rfl, hx3⟩
    have HW3 : Hid (Below (G + 1) (w.alloc (.cells #[.slice ao ll c, .int .i64 loss] 24)) w3) := HW2.out.trans (hx3.mono hlt2)
    have HB3 : Hid (Below w.heap.size w w3) := (HW.out _).trans (HW3.out.mono (by rw [HGG.out]; omega))
    clear hx3 g0 g1 hlt2
    cases gr with
    | false =>
      go_wp2_with fail
      refine (HA.out _ HB3.out).mono ?_
      rintro e w4 ⟨rfl, hx4⟩
      have HB4 : Hid _ := HB3.out.trans (hx4.mono HB3.out.size)
      clear hx4
      go_wp2
      go_ret
      exact ⟨rfl, HB4.out⟩
    | true =>
      have hin := inl_iff.1 (HIn.out (by first | exact rfl | trivial))
      have hl40 := HSm.out (by first | exact rfl | trivial)
      obtain ⟨li, rfl⟩ : ∃ li : Nat, loss = li := ⟨loss.toNat, by omega⟩
      have hR3 := HR3.out (by first | exact rfl | trivial) (by first | exact rfl | trivial)
      have HR3' : Hid _ := hR3
      have hR2 := HR2.out (by first | exact rfl | trivial)
      have HR2' : Hid _ := hR2
      have HGo : Hid (go = (inl ll other && decide ((sha l other).length = 0))) := HO.out (by first | exact rfl | trivial)
      clear hR3 hR2 HR3 HR2 HR1 HS1 HO HIn HSm
      simp only [Int.toNat_natCast] at HR3'
      have hli : li < ll := by omega
      obtain ⟨g0, g1⟩ := HC.out w3 HW3.out
      have hlt3 : G + 1 ≤ w3.heap.size := by have := HW3.out.size; rw [HG1.out] at this; exact this
      have gA : ∀ o, (w3.alloc o).cell? ⟨G, 0, none⟩ = some (.slice ao ll c) ∧ (w3.alloc o).cell? ⟨G, 1, none⟩ = some (.int .i64 (li : Int)) := fun o => HC.out _ (HW3.out.alloc hlt3 o)
      have gA0 := fun o => (gA o).1
      have gA1 := fun o => (gA o).2
      have gB0 : ∀ o, (w3.alloc o).drew.cell? ⟨G, 0, none⟩ = some (.slice ao ll c) := fun o => (gA o).1
      have gB1 : ∀ o, (w3.alloc o).drew.cell? ⟨G, 1, none⟩ = some (.int .i64 (li : Int)) := fun o => (gA o).2
      have gC : ∀ o o', Below (G + 1) (w.alloc (.cells #[.slice ao ll c, .int .i64 (li : Int)] 24)) ((w3.alloc o).alloc o').drew := fun o o' => HW3.out.trans ((bl_drew (bl_alloc (bl_alloc (Below.refl _ _) o) o')).mono hlt3)
      have gC0 : ∀ o o', ((w3.alloc o).alloc o').drew.cell? ⟨G, 0, none⟩ = some (.slice ao ll c) := fun o o' => (HC.out _ (gC o o')).1
      have gC1 : ∀ o o', ((w3.alloc o).alloc o').drew.cell? ⟨G, 1, none⟩ = some (.int .i64 (li : Int)) := fun o o' => (HC.out _ (gC o o')).2
      have HgC : Hid _ := gC
      clear gA gC
      obtain ⟨q, hq⟩ : ∃ q, inl ll other = q := ⟨_, rfl⟩
      cases q with
      | false =>
        have HGo2 : Hid (go = false) := by have := HGo.out; rw [hq] at this; exact this
        have ht : ¬ (0 ≤ other ∧ other < (ll : Int)) := fun c => by rw [inl_iff.2 c] at hq; cases hq
        clear hq
        have HT : Hid _ := ht
        by_cases ho0 : 0 ≤ other
        · have ho1 : ¬ other < (ll : Int) := fun c => HT.out ⟨ho0, c⟩
          go_upto_region 5 with fail
          go_region
          all_goals
            have hb4 := HgC.out (.cells #[.slice ao ll c, .int .i64 other] 24) (.cells #[.slice ao (li + 1) c, .int .i64 (li : Int)] 24)
            have hB4 : Below w.heap.size w (((w3.alloc (.cells #[.slice ao ll c, .int .i64 other] 24)).alloc (.cells #[.slice ao (li + 1) c, .int .i64 (li : Int)] 24)).drew) := HB3.out.trans ((bl_drew (bl_alloc (bl_alloc (Below.refl _ _) _) _)).mono HB3.out.size)
            have k70 : (((w3.alloc (.cells #[.slice ao ll c, .int .i64 other] 24)).alloc (.cells #[.slice ao (li + 1) c, .int .i64 (li : Int)] 24)).drew).cell? ⟨w3.heap.size + 1, 0, none⟩ = some (.slice ao (li + 1) c) := by
              have := World.cell?_alloc_new (w3.alloc (.cells #[.slice ao ll c, .int .i64 other] 24)) #[.slice ao (li + 1) c, .int .i64 (li : Int)] 24 0
              rw [show (w3.alloc (.cells #[.slice ao ll c, .int .i64 other] 24)).heap.size = w3.heap.size + 1 from by simp] at this
              exact this
            have k71 : (((w3.alloc (.cells #[.slice ao ll c, .int .i64 other] 24)).alloc (.cells #[.slice ao (li + 1) c, .int .i64 (li : Int)] 24)).drew).cell? ⟨w3.heap.size + 1, 1, none⟩ = some (.int .i64 (li : Int)) := by
              have := World.cell?_alloc_new (w3.alloc (.cells #[.slice ao ll c, .int .i64 other] 24)) #[.slice ao (li + 1) c, .int .i64 (li : Int)] 24 1
              rw [show (w3.alloc (.cells #[.slice ao ll c, .int .i64 other] 24)).heap.size = w3.heap.size + 1 from by simp] at this
              exact this
            have g00 := gC0 (.cells #[.slice ao ll c, .int .i64 other] 24) (.cells #[.slice ao (li + 1) c, .int .i64 (li : Int)] 24)
            have hr := HR2'.out _ hB4
            rw [HGo2.out] at hr
            go_wp2_with fail
            refine hr.mono ?_
            rintro e w4 ⟨rfl, hx4⟩
            have H4 : Hid (Below w.heap.size w w4) := hB4.trans (hx4.mono hB4.size)
            have m70 := cell_below hx4 k70
            have m71 := cell_below hx4 k71
            have m00 := cell_below hx4 g00
            clear hx4 k70 k71 g00 hr hb4 hB4 gA0 gA1 gB0 gB1 gC0 gC1
            go_wp2_with fail
            refine (HR3'.out _ H4.out).mono ?_
            rintro e w5 ⟨rfl, hx5⟩
            have H5 : Hid (Below w.heap.size w w5) := H4.out.trans (hx5.mono H4.out.size)
            clear hx5
            go_wp2_with fail
            refine (HA.out _ H5.out).mono ?_
            rintro e w6 ⟨rfl, hx6⟩
            have H6 : Hid (Below w.heap.size w w6) := H5.out.trans (hx6.mono H5.out.size)
            clear hx6
            go_wp2
            go_ret
            exact ⟨rfl, H6.out⟩
        · skip
          go_upto_region 5 with fail
          go_region
          all_goals
            have hb4 := HgC.out (.cells #[.slice ao ll c, .int .i64 other] 24) (.cells #[.slice ao (li + 1) c, .int .i64 (li : Int)] 24)
            have hB4 : Below w.heap.size w (((w3.alloc (.cells #[.slice ao ll c, .int .i64 other] 24)).alloc (.cells #[.slice ao (li + 1) c, .int .i64 (li : Int)] 24)).drew) := HB3.out.trans ((bl_drew (bl_alloc (bl_alloc (Below.refl _ _) _) _)).mono HB3.out.size)
            have k70 : (((w3.alloc (.cells #[.slice ao ll c, .int .i64 other] 24)).alloc (.cells #[.slice ao (li + 1) c, .int .i64 (li : Int)] 24)).drew).cell? ⟨w3.heap.size + 1, 0, none⟩ = some (.slice ao (li + 1) c) := by
              have := World.cell?_alloc_new (w3.alloc (.cells #[.slice ao ll c, .int .i64 other] 24)) #[.slice ao (li + 1) c, .int .i64 (li : Int)] 24 0
              rw [show (w3.alloc (.cells #[.slice ao ll c, .int .i64 other] 24)).heap.size = w3.heap.size + 1 from by simp] at this
              exact this
            have k71 : (((w3.alloc (.cells #[.slice ao ll c, .int .i64 other] 24)).alloc (.cells #[.slice ao (li + 1) c, .int .i64 (li : Int)] 24)).drew).cell? ⟨w3.heap.size + 1, 1, none⟩ = some (.int .i64 (li : Int)) := by
              have := World.cell?_alloc_new (w3.alloc (.cells #[.slice ao ll c, .int .i64 other] 24)) #[.slice ao (li + 1) c, .int .i64 (li : Int)] 24 1
              rw [show (w3.alloc (.cells #[.slice ao ll c, .int .i64 other] 24)).heap.size = w3.heap.size + 1 from by simp] at this
              exact this
            have g00 := gC0 (.cells #[.slice ao ll c, .int .i64 other] 24) (.cells #[.slice ao (li + 1) c, .int .i64 (li : Int)] 24)
            have hr := HR2'.out _ hB4
            rw [HGo2.out] at hr
            go_wp2_with fail
            refine hr.mono ?_
            rintro e w4 ⟨rfl, hx4⟩
            have H4 : Hid (Below w.heap.size w w4) := hB4.trans (hx4.mono hB4.size)
            have m70 := cell_below hx4 k70
            have m71 := cell_below hx4 k71
            have m00 := cell_below hx4 g00
            clear hx4 k70 k71 g00 hr hb4 hB4 gA0 gA1 gB0 gB1 gC0 gC1
            go_wp2_with fail
            refine (HR3'.out _ H4.out).mono ?_
            rintro e w5 ⟨rfl, hx5⟩
            have H5 : Hid (Below w.heap.size w w5) := H4.out.trans (hx5.mono H4.out.size)
            clear hx5
            go_wp2_with fail
            refine (HA.out _ H5.out).mono ?_
            rintro e w6 ⟨rfl, hx6⟩
            have H6 : Hid (Below w.heap.size w w6) := H5.out.trans (hx6.mono H5.out.size)
            clear hx6
            go_wp2
            go_ret
            exact ⟨rfl, H6.out⟩
      | true =>
        obtain ⟨j, rfl⟩ : ∃ j : Nat, other = j := ⟨other.toNat, by have := inl_iff.1 hq; omega⟩
        have hj : j < ll := by have := inl_iff.1 hq; omega
        have es : sha l (j : Int) = (l.getD j zn).shape := rfl
        have hmin : min (j : Int) ((ll : Int) - 1) = (j : Int) := by omega
        have hmax : max (j : Int) 0 = (j : Int) := by omega
        obtain ⟨zl, hzl⟩ : ∃ m, (l.getD j zn).shape.length = m := ⟨_, rfl⟩
        have HGo2 : Hid (go = decide (zl = 0)) := by have := HGo.out; rw [hq, es, hzl, Bool.true_and] at this; exact this
        have HSj : Hid (∀ v, Below w.heap.size w v → ∃ b off sa sc, ao = some ⟨b, off, none⟩ ∧ v.cell? ⟨b, off + j * 8 + 4, none⟩ = some (.slice sa zl sc)) := fun v hv => by
          have := HSp.out v hv j hj
          rw [hzl] at this
          exact this
        clear hq es hzl HSp HGo
        go_upto_region 5 with fail
        go_region
        all_goals
          have hb4 := HgC.out (.cells #[.slice ao ll c, .int .i64 (j : Int)] 24) (.cells #[.slice ao (li + 1) c, .int .i64 (li : Int)] 24)
          have hB4 : Below w.heap.size w (((w3.alloc (.cells #[.slice ao ll c, .int .i64 (j : Int)] 24)).alloc (.cells #[.slice ao (li + 1) c, .int .i64 (li : Int)] 24)).drew) := HB3.out.trans ((bl_drew (bl_alloc (bl_alloc (Below.refl _ _) _) _)).mono HB3.out.size)
          have k70 : (((w3.alloc (.cells #[.slice ao ll c, .int .i64 (j : Int)] 24)).alloc (.cells #[.slice ao (li + 1) c, .int .i64 (li : Int)] 24)).drew).cell? ⟨w3.heap.size + 1, 0, none⟩ = some (.slice ao (li + 1) c) := by
            have := World.cell?_alloc_new (w3.alloc (.cells #[.slice ao ll c, .int .i64 (j : Int)] 24)) #[.slice ao (li + 1) c, .int .i64 (li : Int)] 24 0
            rw [show (w3.alloc (.cells #[.slice ao ll c, .int .i64 (j : Int)] 24)).heap.size = w3.heap.size + 1 from by simp] at this
            exact this
          have k71 : (((w3.alloc (.cells #[.slice ao ll c, .int .i64 (j : Int)] 24)).alloc (.cells #[.slice ao (li + 1) c, .int .i64 (li : Int)] 24)).drew).cell? ⟨w3.heap.size + 1, 1, none⟩ = some (.int .i64 (li : Int)) := by
            have := World.cell?_alloc_new (w3.alloc (.cells #[.slice ao ll c, .int .i64 (j : Int)] 24)) #[.slice ao (li + 1) c, .int .i64 (li : Int)] 24 1
            rw [show (w3.alloc (.cells #[.slice ao ll c, .int .i64 (j : Int)] 24)).heap.size = w3.heap.size + 1 from by simp] at this
            exact this
          have g00 := gC0 (.cells #[.slice ao ll c, .int .i64 (j : Int)] 24) (.cells #[.slice ao (li + 1) c, .int .i64 (li : Int)] 24)
          have hr := HR2'.out _ hB4
          rw [HGo2.out] at hr
          go_wp2_with fail
          refine hr.mono ?_
          rintro e w4 ⟨rfl, hx4⟩
          have H4 : Hid (Below w.heap.size w w4) := hB4.trans (hx4.mono hB4.size)
          have m70 := cell_below hx4 k70
          have m71 := cell_below hx4 k71
          have m00 := cell_below hx4 g00
          clear hx4 k70 k71 g00 hr hb4 hB4 gA0 gA1 gB0 gB1 gC0 gC1
          obtain ⟨b, off, sa, sc, rfl, hcs⟩ := HSj.out w4 H4.out
          by_cases hz : zl = 0
          · subst hz
            go_wp2_with fail
            refine (HR3'.out _ H4.out).mono ?_
            rintro e w5 ⟨rfl, hx5⟩
            have H5 : Hid (Below w.heap.size w w5) := H4.out.trans (hx5.mono H4.out.size)
            clear hx5
            go_wp2_with fail
            refine (HA.out _ H5.out).mono ?_
            rintro e w6 ⟨rfl, hx6⟩
            have H6 : Hid (Below w.heap.size w w6) := H5.out.trans (hx6.mono H5.out.size)
            clear hx6
            go_wp2
            go_ret
            exact ⟨rfl, H6.out⟩
          · have hz1 : ((zl : Int) == 0) = false := by simp; omega
            have hz2 : decide (zl = 0) = false := decide_eq_false hz
            go_wp2_with fail
            refine (HR3'.out _ H4.out).mono ?_
            rintro e w5 ⟨rfl, hx5⟩
            have H5 : Hid (Below w.heap.size w w5) := H4.out.trans (hx5.mono H4.out.size)
            clear hx5
            go_wp2_with fail
            refine (HA.out _ H5.out).mono ?_
            rintro e w6 ⟨rfl, hx6⟩
            have H6 : Hid (Below w.heap.size w w6) := H5.out.trans (hx6.mono H5.out.size)
            clear hx6
            go_wp2
            go_ret
            exact ⟨rfl, H6.out⟩
end Go.Proofs.YtadgnafafdfioaaGreatDoor.Gr
