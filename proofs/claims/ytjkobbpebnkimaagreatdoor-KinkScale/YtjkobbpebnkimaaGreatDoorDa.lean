/-
  THE DOCUMENT'S TENSORS: what calls of the document's At and Right give. Conditions: sizes.
-/
import Derived.Test.YtjkobbpebnkimaaGreatDoorTw
import Derived.Test.YtjkobbpebnkimaaGreatDoorReadR
namespace Go.Proofs.YtjkobbpebnkimaaGreatDoor.Tn
set_option maxRecDepth 100000
open Go.RowKit Nm
set_option linter.unusedVariables false

/-- a rational in its place of two cells -/
theorem at_raw (b1 : Option Addr) (m n c d i : Nat) (a1 : Option Addr) (X P Q : ByteArray) (p q : Nat) (w : World) (hb : b1 = some ⟨p, q, none⟩) (hi : i < n) (hn : n ≤ 1000)
    (hx : w.cell? ⟨p, q + i, none⟩ = some (.string X))
    (hR : ∀ v, Below w.heap.size w v → Calls Tryz.prog 34 #[.string X] v fun e w' => e = .returned (.tuple #[.agg #[.string P, .string Q], .bool true]) ∧ Below v.heap.size v w') :
    Calls Tryz.prog 36 #[.agg #[.slice a1 m c, .slice b1 n d], .int .i64 (i : Int)] w fun e w' => e = .returned (.agg #[.string P, .string Q]) ∧ Below w.heap.size w w' := by
  subst hb
  obtain ⟨w0, hw0⟩ : ∃ w0, w0 = (w.alloc (.cells #[.slice a1 m c, .slice (some ⟨p, q, none⟩) n d] 25)).alloc (.cells #[.string ⟨#[]⟩, .string ⟨#[]⟩] 51) := ⟨_, rfl⟩
  have hb0 : Below w.heap.size w w0 := by subst hw0; exact bl_alloc (bl_alloc (Below.refl _ _) _) _
  have x0 := cell_below hb0 hx
  rw [hw0] at x0 hb0
  have HB0 : Hid _ := hb0
  clear hx hw0 hb0
  go_enter Tryz.func36, Tryz.ntmps36
  go_wp2_with fail
  refine (hR _ HB0.out).mono ?_
  rintro e w1 ⟨rfl, hb⟩
  have ho := own2 (bl_alloc hb (.cells #[.string P, .string Q] 51))
  have k0 := ho.2.1 0
  have k1 := ho.2.1 1
  have f0 := ho.2.2.2.1 0
  have f1 := ho.2.2.2.1 1
  have HB : Hid _ := ho.2.2.2.2
  clear hb ho x0 HB0 hR
  simp only [List.getElem?_toArray, List.getElem?_cons_succ, List.getElem?_cons_zero] at k0 k1
  have HK : Hid _ := And.intro k0 k1
  go_wp2
  refine bodyPost_ret (v := .agg #[.string P, .string Q]) (by simp [results, Tryz.results36, go_sem, (two_set HK.out.1 HK.out.2 _ _).1, (two_set HK.out.1 HK.out.2 _ _).2]) rfl ⟨rfl, ?_⟩
  exact bl_set (bl_set HB.out (by simp) _) (by simp) _

section
variable {a1 b1 : Option Addr} {B1 m n k1 : Nat} {zs : List Int} {qs : List Rat} {w : World}
theorem zat (c1 d1 i : Nat) (h1 : Tt w B1 a1 b1 zs m n qs k1) (hi : i < n) (hk : k1 ≤ 5000) :
    Calls Tryz.prog 36 #[.agg #[.slice a1 m c1, .slice b1 n d1], .int .i64 (i : Int)] w fun e w' => e = .returned (fr (qs.getD i 0)) ∧ Below w.heap.size w w' := by
  have hq : i < qs.length := by rw [h1.hn]; exact hi
  obtain ⟨p, q, e, hc⟩ := row_str h1.tm.r (i := i) (by rw [mapR_len]; exact hq)
  rw [mapR_at qs hq] at hc
  have := h1.le
  exact at_raw b1 m n c1 d1 i a1 (R (qs.getD i 0)) _ _ p q w e hi (by omega) hc (fun v hv => Read_R (qs.getD i 0) v (h1.tr.at hq (by omega)))
end

set_option maxHeartbeats 2000000 in
theorem rright_1 (ao bo : Option Addr) (m n c d : Nat) (w : World)
    (hR : ∀ v, Below w.heap.size w v → Calls Tryz.prog 32 #[.slice ao m c] v fun e w' => e = .returned (.bool false) ∧ w' = v) :
    Calls Tryz.prog 18 #[.agg #[.slice ao m c, .slice bo n d]] w fun e w' => e = .returned (.bool false) ∧ Below w.heap.size w w' := by
  obtain ⟨C, hC⟩ : ∃ C : World → Prop, C = fun v => Below (w.alloc (.cells #[.slice ao m c, .slice bo n d] 25)).heap.size (w.alloc (.cells #[.slice ao m c, .slice bo n d] 25)) v := ⟨_, rfl⟩
  have c0 : ∀ v, C v → v.cell? ⟨w.heap.size, 0, none⟩ = some (.slice ao m c) := fun v h => by subst hC; exact (own1 h).1 0
  have c1 : ∀ v, C v → v.cell? ⟨w.heap.size, 1, none⟩ = some (.slice bo n d) := fun v h => by subst hC; exact (own1 h).1 1
  have cB : ∀ v, C v → Below w.heap.size w v := fun v h => by subst hC; exact (own1 h).2.2
  have cT : ∀ u v, C u → Below u.heap.size u v → C v := fun u v h k => by subst hC; exact h.trans (k.mono h.size)
  have cD : ∀ v, C v → C v.drew := fun v h => by subst hC; exact h.drew
  have cI : C (w.alloc (.cells #[.slice ao m c, .slice bo n d] 25)) := by subst hC; exact Below.refl _ _
  clear hC
  go_enter Tryz.func18, Tryz.ntmps18
  go_wp2_with fail
  refine region_calm C (by kernel_rfl) (by kernel_rfl) (cD _ cI) ?_
  clear cI
  refine wpQuiet_step (fun K hK => ?_)
  go_simp
  refine ⟨_, fun v hv => rfl, hK _ ?_⟩
  clear hK K
  refine wpQuiet_step (fun K hK => ?_)
  go_simp
  refine ⟨.slice ao m c, fun v hv => ?_, hK _ ?_⟩
  · simp [c0 v hv]
  clear hK K
  refine wpQuiet_step (fun K hK => ?_)
  go_simp
  refine ⟨.bool false, fun v hv => ?_, hK _ ?_⟩
  · exact calm_call cT hv (calm_same (hR v (cB v hv)))
  clear hK K
  refine wpQuiet_step (fun K hK => ?_)
  go_simp
  refine ⟨_, fun v hv => rfl, hK _ ?_⟩
  clear hK K
  refine wpQuiet_step (fun K hK => ?_)
  go_simp
  refine ⟨_, fun v hv => rfl, hK _ ?_⟩
  clear hK K
  refine wpQuiet_step (fun K hK => ?_)
  go_simp
  refine hK _ ?_
  clear hK K
  refine wpQuiet_step (fun K hK => ?_)
  go_simp
  refine hK _ ?_
  clear hK K
  refine wpQuiet_step (fun K hK => ?_)
  go_simp
  refine hK _ ?_
  clear hK K
  refine wpQuiet_step (fun K hK => ?_)
  go_simp
  refine hK _ ?_
  clear hK K
  refine wpQuiet_step (fun K hK => ?_)
  go_simp
  refine hK _ ?_
  clear hK K
  refine wpQuiet_step (fun K hK => ?_)
  go_simp
  refine hK _ ?_
  clear hK K
  refine wpQuiet_step (fun K hK => ?_)
  go_simp
  refine hK _ ?_
  clear hK K
  refine wpQuiet_step (fun K hK => ?_)
  go_simp
  refine ⟨_, fun v hv => rfl, hK _ ?_⟩
  clear hK K
  refine wpQuiet_nil ?_
  intro w1 C1
  have H1 : Hid _ := cB _ C1
  clear C1
  go_wp2
  go_ret
  exact ⟨rfl, H1.out⟩

set_option maxHeartbeats 2000000 in
theorem rright_2 (ao bo : Option Addr) (m n c d q : Nat) (w : World)
    (hR : ∀ v, Below w.heap.size w v → Calls Tryz.prog 32 #[.slice ao m c] v fun e w' => e = .returned (.bool true) ∧ w' = v)
    (hS : ∀ v, Below w.heap.size w v → Calls Tryz.prog 33 #[.slice ao m c] v fun e w' => e = .returned (.int .i64 (q : Int)) ∧ w' = v)
    (hq : ((n : Int) != (q : Int)) = true) :
    Calls Tryz.prog 18 #[.agg #[.slice ao m c, .slice bo n d]] w fun e w' => e = .returned (.bool false) ∧ Below w.heap.size w w' := by
  obtain ⟨C, hC⟩ : ∃ C : World → Prop, C = fun v => Below (w.alloc (.cells #[.slice ao m c, .slice bo n d] 25)).heap.size (w.alloc (.cells #[.slice ao m c, .slice bo n d] 25)) v := ⟨_, rfl⟩
  have c0 : ∀ v, C v → v.cell? ⟨w.heap.size, 0, none⟩ = some (.slice ao m c) := fun v h => by subst hC; exact (own1 h).1 0
  have c1 : ∀ v, C v → v.cell? ⟨w.heap.size, 1, none⟩ = some (.slice bo n d) := fun v h => by subst hC; exact (own1 h).1 1
  have cB : ∀ v, C v → Below w.heap.size w v := fun v h => by subst hC; exact (own1 h).2.2
  have cT : ∀ u v, C u → Below u.heap.size u v → C v := fun u v h k => by subst hC; exact h.trans (k.mono h.size)
  have cD : ∀ v, C v → C v.drew := fun v h => by subst hC; exact h.drew
  have cI : C (w.alloc (.cells #[.slice ao m c, .slice bo n d] 25)) := by subst hC; exact Below.refl _ _
  clear hC
  go_enter Tryz.func18, Tryz.ntmps18
  go_wp2_with fail
  refine region_calm C (by kernel_rfl) (by kernel_rfl) (cD _ cI) ?_
  clear cI
  refine wpQuiet_step (fun K hK => ?_)
  go_simp
  refine ⟨_, fun v hv => rfl, hK _ ?_⟩
  clear hK K
  refine wpQuiet_step (fun K hK => ?_)
  go_simp
  refine ⟨.slice ao m c, fun v hv => ?_, hK _ ?_⟩
  · simp [c0 v hv]
  clear hK K
  refine wpQuiet_step (fun K hK => ?_)
  go_simp
  refine ⟨.bool true, fun v hv => ?_, hK _ ?_⟩
  · exact calm_call cT hv (calm_same (hR v (cB v hv)))
  clear hK K
  refine wpQuiet_step (fun K hK => ?_)
  go_simp
  refine ⟨_, fun v hv => rfl, hK _ ?_⟩
  clear hK K
  refine wpQuiet_step (fun K hK => ?_)
  go_simp
  refine ⟨_, fun v hv => rfl, hK _ ?_⟩
  clear hK K
  refine wpQuiet_step (fun K hK => ?_)
  go_simp
  refine ⟨_, fun v hv => rfl, hK _ ?_⟩
  clear hK K
  refine wpQuiet_step (fun K hK => ?_)
  go_simp
  refine ⟨.slice bo n d, fun v hv => ?_, hK _ ?_⟩
  · simp [c1 v hv]
  clear hK K
  refine wpQuiet_step (fun K hK => ?_)
  go_simp
  refine ⟨_, fun v hv => rfl, hK _ ?_⟩
  clear hK K
  refine wpQuiet_step (fun K hK => ?_)
  go_simp
  refine ⟨_, fun v hv => rfl, hK _ ?_⟩
  clear hK K
  refine wpQuiet_step (fun K hK => ?_)
  go_simp
  refine ⟨.slice ao m c, fun v hv => ?_, hK _ ?_⟩
  · simp [c0 v hv]
  clear hK K
  refine wpQuiet_step (fun K hK => ?_)
  go_simp
  refine ⟨.int .i64 (q : Int), fun v hv => ?_, hK _ ?_⟩
  · exact calm_call cT hv (calm_same (hS v (cB v hv)))
  clear hK K
  refine wpQuiet_step (fun K hK => ?_)
  go_simp
  refine ⟨_, fun v hv => rfl, hK _ ?_⟩
  clear hK K
  refine wpQuiet_step (fun K hK => ?_)
  go_simp
  refine ⟨_, fun v hv => rfl, hK _ ?_⟩
  clear hK K
  refine wpQuiet_nil ?_
  intro w1 C1
  have H1 : Hid _ := cB _ C1
  clear C1
  go_wp2
  go_ret
  exact ⟨rfl, H1.out⟩

set_option maxHeartbeats 4000000 in
theorem rright_3 (ao bo : Option Addr) (m c d q : Nat) (xs : List ByteArray) (n : Nat) (w : World)
    (hR : ∀ v, Below w.heap.size w v → Calls Tryz.prog 32 #[.slice ao m c] v fun e w' => e = .returned (.bool true) ∧ w' = v)
    (hS : ∀ v, Below w.heap.size w v → Calls Tryz.prog 33 #[.slice ao m c] v fun e w' => e = .returned (.int .i64 (q : Int)) ∧ w' = v)
    (hq : ((n : Int) != (q : Int)) = false) (hn : xs.length = n) (hl : n ≤ 1000) (hrow : Row w bo (txts xs)) (hs : ∀ i, i < n → (xs.getD i ByteArray.empty).size ≤ 20000) :
    Calls Tryz.prog 18 #[.agg #[.slice ao m c, .slice bo n d]] w fun e w' => e = .returned (.bool (xs.all ra)) ∧ Below w.heap.size w w' := by
  have HM : Hid ((∀ i, i < xs.length → ra (xs.getD i ByteArray.empty) = true) → xs.all ra = true) := all_ra
  have HN : Hid (∀ i, i < xs.length → ra (xs.getD i ByteArray.empty) = false → xs.all ra = false) := fun i hi h => all_no hi h
  have HR : Hid _ := fun (v : World) (hb : Below w.heap.size w v) i (h : i < xs.length) => row_str (hrow.below hb) h
  have HS : Hid _ := hs
  generalize xs.all ra = al at HM HN ⊢
  rw [hn] at HM HN HR
  clear hrow hn hs
  obtain ⟨C, hC⟩ : ∃ C : World → Prop, C = fun v => Below (w.alloc (.cells #[.slice ao m c, .slice bo n d] 25)).heap.size (w.alloc (.cells #[.slice ao m c, .slice bo n d] 25)) v := ⟨_, rfl⟩
  have c0 : ∀ v, C v → v.cell? ⟨w.heap.size, 0, none⟩ = some (.slice ao m c) := fun v h => by subst hC; exact (own1 h).1 0
  have c1 : ∀ v, C v → v.cell? ⟨w.heap.size, 1, none⟩ = some (.slice bo n d) := fun v h => by subst hC; exact (own1 h).1 1
  have cB : ∀ v, C v → Below w.heap.size w v := fun v h => by subst hC; exact (own1 h).2.2
  have cT : ∀ u v, C u → Below u.heap.size u v → C v := fun u v h k => by subst hC; exact h.trans (k.mono h.size)
  have cD : ∀ v, C v → C v.drew := fun v h => by subst hC; exact h.drew
  have cI : C (w.alloc (.cells #[.slice ao m c, .slice bo n d] 25)) := by subst hC; exact Below.refl _ _
  clear hC
  go_enter Tryz.func18, Tryz.ntmps18
  go_wp2_with fail
  refine region_calm C (by kernel_rfl) (by kernel_rfl) (cD _ cI) ?_
  clear cI
  refine wpQuiet_step (fun K hK => ?_)
  go_simp
  refine ⟨_, fun v hv => rfl, hK _ ?_⟩
  clear hK K
  refine wpQuiet_step (fun K hK => ?_)
  go_simp
  refine ⟨.slice ao m c, fun v hv => ?_, hK _ ?_⟩
  · simp [c0 v hv]
  clear hK K
  refine wpQuiet_step (fun K hK => ?_)
  go_simp
  refine ⟨.bool true, fun v hv => ?_, hK _ ?_⟩
  · exact calm_call cT hv (calm_same (hR v (cB v hv)))
  clear hK K
  refine wpQuiet_step (fun K hK => ?_)
  go_simp
  refine ⟨_, fun v hv => rfl, hK _ ?_⟩
  clear hK K
  refine wpQuiet_step (fun K hK => ?_)
  go_simp
  refine ⟨_, fun v hv => rfl, hK _ ?_⟩
  clear hK K
  refine wpQuiet_step (fun K hK => ?_)
  go_simp
  refine ⟨_, fun v hv => rfl, hK _ ?_⟩
  clear hK K
  refine wpQuiet_step (fun K hK => ?_)
  go_simp
  refine ⟨.slice bo n d, fun v hv => ?_, hK _ ?_⟩
  · simp [c1 v hv]
  clear hK K
  refine wpQuiet_step (fun K hK => ?_)
  go_simp
  refine ⟨_, fun v hv => rfl, hK _ ?_⟩
  clear hK K
  refine wpQuiet_step (fun K hK => ?_)
  go_simp
  refine ⟨_, fun v hv => rfl, hK _ ?_⟩
  clear hK K
  refine wpQuiet_step (fun K hK => ?_)
  go_simp
  refine ⟨.slice ao m c, fun v hv => ?_, hK _ ?_⟩
  · simp [c0 v hv]
  clear hK K
  refine wpQuiet_step (fun K hK => ?_)
  go_simp
  refine ⟨.int .i64 (q : Int), fun v hv => ?_, hK _ ?_⟩
  · exact calm_call cT hv (calm_same (hS v (cB v hv)))
  clear hK K
  refine wpQuiet_step (fun K hK => ?_)
  go_simp
  refine ⟨_, fun v hv => rfl, hK _ ?_⟩
  clear hK K
  refine wpQuiet_step (fun K hK => ?_)
  go_simp
  refine ⟨_, fun v hv => rfl, hK _ ?_⟩
  clear hK K
  refine wpQuiet_nil ?_
  intro w1 C1
  have k1 := c1 _ C1
  have HC : Hid _ := And.intro c1 (And.intro cB cT)
  have HC1 : Hid _ := C1
  clear c0 c1 cB cT cD C1 hR hS
  go_wp2_with fail
  go_loopw [3, 4, 5] (fun i _ _ wr => ∃ k : Nat, k ≤ n ∧ i = .int .i64 k ∧ (∀ j, j < k → ra (xs.getD j ByteArray.empty) = true) ∧ C wr) (fun i _ _ _ => n - (intOf i).toNat)
  case atStart => exact ⟨0, by omega, rfl, fun j hj => by omega, HC1.out⟩
  case round =>
    clear k1 HC1
    obtain ⟨k, hk, rfl, hj, hC⟩ := hrel
    have k1 := HC.out.1 _ hC
    have HJ : Hid _ := And.intro hj hC
    clear hj hC
    by_cases h : k < n
    · obtain ⟨b, off, rfl, hc⟩ := HR.out wr (HC.out.2.1 _ HJ.out.2) k h
      have hsz := HS.out k h
      obtain ⟨x, hx⟩ : ∃ z, xs.getD k ByteArray.empty = z := ⟨_, rfl⟩
      rw [hx] at hc hsz
      have HX : Hid _ := hx
      clear hx
      cases hra : ra x with
      | true =>
        have HRa : Hid _ := hra
        obtain ⟨r, er⟩ := R_of hra
        have hcall := Read_R r wr (by rw [← er]; exact hsz)
        rw [← er] at hcall
        clear hra er
        unfold fr at hcall
        generalize W r.num = P at hcall
        generalize S r.den = Q at hcall
        go_wp2_with fail
        refine hcall.mono ?_
        rintro e w2 ⟨rfl, h2⟩
        have H2 : Hid _ := HC.out.2.2 _ _ HJ.out.2 (bl_alloc h2 (.cells #[.string P, .string Q] 51))
        clear h2 hcall hc k1
        go_wp2
        go_roundw
        case rel =>
          refine ⟨k + 1, by omega, by go_num, fun j hj => ?_, H2.out⟩
          by_cases e : j = k
          · rw [e, HX.out]; exact HRa.out
          · exact HJ.out.1 j (by omega)
        case measure => simp [intOf]; omega
      | false =>
        have HRa : Hid _ := hra
        obtain ⟨P, Q, hcall⟩ := Read_one x hsz hra
        clear hra
        go_wp2_with fail
        refine (hcall wr).mono ?_
        rintro e w2 ⟨rfl, h2⟩
        have H2 : Hid _ := HC.out.2.1 _ (HC.out.2.2 _ _ HJ.out.2 (bl_alloc h2 (.cells #[.string P, .string Q] 51)))
        clear h2 hcall hc k1
        go_wp2
        go_ret
        exact ⟨Sp.ret_bool (HN.out k h (by rw [HX.out]; exact HRa.out)).symm, H2.out⟩
    · go_wp2
      go_ret
      exact ⟨Sp.ret_bool (HM.out (fun i hi => HJ.out.1 i (by omega))).symm, HC.out.2.1 _ HJ.out.2⟩

theorem rright_any (ao bo : Option Addr) (zs : List Int) (xs : List ByteArray) (c d B : Nat) (w : World) (hT : Tm w B ao bo zs xs) (hl : zs.length ≤ 1000) (hn : xs.length ≤ 1000) (hx : ∀ x, x ∈ xs → x.size ≤ 20000) :
    Calls Tryz.prog 18 #[.agg #[.slice ao zs.length c, .slice bo xs.length d]] w fun e w' => e = .returned (.bool (tn zs xs)) ∧ Below w.heap.size w w' := by
  have k1 := fun (v : World) (h : Below w.heap.size w v) => Sp.refRight_any ao zs c v hl (hT.s.below h)
  unfold tn
  by_cases h1 : Sp.Rgt zs
  · have k2 := fun (v : World) (h : Below w.heap.size w v) => Sp.refSize_any ao zs c v h1 (hT.s.below h)
    rw [decide_eq_true h1] at k1 ⊢
    by_cases h2 : xs.length = Sp.szI zs
    · rw [decide_eq_true h2, Bool.true_and, Bool.true_and]
      exact rright_3 ao bo _ c d (Sp.szI zs) xs _ w k1 k2 (by rw [h2]; simp) rfl hn hT.r (getD_all hx)
    · rw [decide_eq_false h2, Bool.true_and, Bool.false_and]
      exact rright_2 ao bo _ _ c d (Sp.szI zs) w k1 k2 (by simp; omega)
  · rw [decide_eq_false h1] at k1 ⊢
    rw [Bool.false_and]
    exact rright_1 ao bo _ _ c d w k1
end Go.Proofs.YtjkobbpebnkimaaGreatDoor.Tn
