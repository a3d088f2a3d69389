/-
  WHETHER IT IS A TENSOR: what a call of tensor.Right gives. Conditions: sizes; the package's errors stand where they were laid.
-/
import Derived.Test.YtjkobbpebnkimaaGreatDoorEq
import Derived.Test.YtjkobbpebnkimaaGreatDoorApi
import Derived.BigQuiet
namespace Go.Proofs.YtjkobbpebnkimaaGreatDoor.Tn
set_option maxRecDepth 100000
open Go.RowKit Nm
set_option linter.unusedVariables false

theorem all_ra {xs : List ByteArray} (h : ∀ i, i < xs.length → ra (xs.getD i ByteArray.empty) = true) : xs.all ra = true := by
  rw [List.all_eq_true]
  intro x hx
  obtain ⟨i, hi, rfl⟩ := List.getElem_of_mem hx
  have := h i hi
  simpa [List.getD, hi] using this
theorem all_no {xs : List ByteArray} {i : Nat} (hi : i < xs.length) (h : ra (xs.getD i ByteArray.empty) = false) : xs.all ra = false := by
  apply Bool.eq_false_iff.2
  intro c
  have := List.all_eq_true.1 c (xs.getD i ByteArray.empty) (by simp [List.getD, hi])
  rw [h] at this; cases this

set_option maxHeartbeats 2000000 in
theorem allRight_any (bo : Option Addr) (xs : List ByteArray) (d : Nat) (aF aZ : Addr) (w : World) (hE : Er w aF aZ) (hR : Row w bo (txts xs)) (hl : xs.length ≤ 1000) (hs : ∀ i, i < xs.length → (xs.getD i ByteArray.empty).size ≤ 200000) :
    Calls Tryz.prog 56 #[.slice bo xs.length d] w fun e w' => e = .returned (.bool (xs.all ra)) ∧ Below w.heap.size w w' := by
  have HM : Hid ((∀ i, i < xs.length → ra (xs.getD i ByteArray.empty) = true) → xs.all ra = true) := all_ra
  have HN : Hid (∀ i, i < xs.length → ra (xs.getD i ByteArray.empty) = false → xs.all ra = false) := fun i hi h => all_no hi h
  have HR : Hid _ := fun (v : World) (hb : Below w.heap.size w v) i (h : i < xs.length) => row_str (hR.below hb) h
  have HS : Hid _ := hs
  have HE : Hid _ := hE
  generalize xs.all ra = al at HM HN ⊢
  obtain ⟨n, hn⟩ : ∃ n, xs.length = n := ⟨_, rfl⟩
  rw [hn] at HM HN HR HS hl ⊢
  clear hR hn hs hE
  go_enter Tryz.func56, Tryz.ntmps56
  go_wp2_with fail
  go_loopw [4, 7] (fun _ i wr => ∃ k : Nat, k ≤ n ∧ i = .int .i64 k ∧ (∀ j, j < k → ra (xs.getD j ByteArray.empty) = true) ∧ Below w.heap.size w wr) (fun _ i _ => n - (intOf i).toNat)
  case atStart => exact ⟨0, by omega, rfl, fun j hj => by omega, Below.refl _ _⟩
  case round =>
    obtain ⟨k, hk, rfl, hj, hb⟩ := hrel
    have HJ : Hid _ := And.intro hj hb
    clear hj
    by_cases h : k < n
    · obtain ⟨b, off, rfl, hc⟩ := HR.out wr hb k h
      have hsz := HS.out k h
      clear hb
      obtain ⟨x, hx⟩ : ∃ z, xs.getD k ByteArray.empty = z := ⟨_, rfl⟩
      rw [hx] at hc hsz
      have HX : Hid _ := hx
      clear hx
      obtain ⟨r, hr⟩ : ∃ r, ra x = r := ⟨_, rfl⟩
      have HRa : Hid _ := hr
      clear hr
      go_wp2_with fail
      refine (Right_is x r aF aZ _ (HE.out.below HJ.out.2) hsz HRa.out).mono ?_
      rintro e w1 ⟨rfl, h1⟩
      have H1 : Hid _ := HJ.out.2.trans (h1.mono HJ.out.2.size)
      clear h1 hc
      cases r with
      | true =>
        go_wp2
        go_roundw
        case rel =>
          refine ⟨k + 1, by omega, by go_num, fun j hj => ?_, H1.out⟩
          by_cases e : j = k
          · rw [e, HX.out]; exact HRa.out
          · exact HJ.out.1 j (by omega)
        case measure => simp [intOf]; omega
      | false =>
        go_wp2
        go_ret
        exact ⟨Sp.ret_bool (HN.out k h (by rw [HX.out]; exact HRa.out)).symm, H1.out⟩
    · clear hb
      go_wp2
      go_ret
      exact ⟨Sp.ret_bool (HM.out (fun i hi => HJ.out.1 i (by omega))).symm, HJ.out.2⟩

/-- is it a tensor? -/
def tn (zs : List Int) (xs : List ByteArray) : Bool := decide (Sp.Rgt zs) && (decide (xs.length = Sp.szI zs) && xs.all ra)
set_option maxHeartbeats 2000000 in
theorem right_1 (ao bo : Option Addr) (m n c d : Nat) (w : World)
    (hR : ∀ v, Below w.heap.size w v → Calls Tryz.prog 46 #[.slice ao m c] v fun e w' => e = .returned (.bool false) ∧ w' = v) :
    Calls Tryz.prog 30 #[.agg #[.slice ao m c, .slice bo n d]] w fun e w' => e = .returned (.bool false) ∧ Below w.heap.size w w' := by
  obtain ⟨C, hC⟩ : ∃ C : World → Prop, C = fun v => Below (w.alloc (.cells #[.slice ao m c, .slice bo n d] 25)).heap.size (w.alloc (.cells #[.slice ao m c, .slice bo n d] 25)) v := ⟨_, rfl⟩
  have c0 : ∀ v, C v → v.cell? ⟨w.heap.size, 0, none⟩ = some (.slice ao m c) := fun v h => by subst hC; exact (own1 h).1 0
  have c1 : ∀ v, C v → v.cell? ⟨w.heap.size, 1, none⟩ = some (.slice bo n d) := fun v h => by subst hC; exact (own1 h).1 1
  have cB : ∀ v, C v → Below w.heap.size w v := fun v h => by subst hC; exact (own1 h).2.2
  have cT : ∀ u v, C u → Below u.heap.size u v → C v := fun u v h k => by subst hC; exact h.trans (k.mono h.size)
  have cD : ∀ v, C v → C v.drew := fun v h => by subst hC; exact h.drew
  have cI : C (w.alloc (.cells #[.slice ao m c, .slice bo n d] 25)) := by subst hC; exact Below.refl _ _
  clear hC
  go_enter Tryz.func30, Tryz.ntmps30
  go_wp2_with fail
  refine region_calm C (by kernel_rfl) (by kernel_rfl) (cD _ cI) ?_
  clear cI
  refine wpQuiet_step (fun K hK => ?_)
  go_simp
  refine ⟨_, fun v hv => rfl, hK _ ?_⟩
  clear hK K
  refine wpQuiet_step (fun K hK => ?_)
  go_simp
  refine ⟨.slice ao m c, fun v hv => ?_, hK _ ?_⟩
  · simp [c0 v hv]
  clear hK K
  refine wpQuiet_step (fun K hK => ?_)
  go_simp
  refine ⟨.bool false, fun v hv => ?_, hK _ ?_⟩
  · exact calm_call cT hv (calm_same (hR v (cB v hv)))
  clear hK K
  refine wpQuiet_step (fun K hK => ?_)
  go_simp
  refine ⟨_, fun v hv => rfl, hK _ ?_⟩
  clear hK K
  refine wpQuiet_step (fun K hK => ?_)
  go_simp
  refine hK _ ?_
  clear hK K
  refine wpQuiet_step (fun K hK => ?_)
  go_simp
  refine hK _ ?_
  clear hK K
  refine wpQuiet_step (fun K hK => ?_)
  go_simp
  refine hK _ ?_
  clear hK K
  refine wpQuiet_step (fun K hK => ?_)
  go_simp
  refine hK _ ?_
  clear hK K
  refine wpQuiet_step (fun K hK => ?_)
  go_simp
  refine hK _ ?_
  clear hK K
  refine wpQuiet_step (fun K hK => ?_)
  go_simp
  refine hK _ ?_
  clear hK K
  refine wpQuiet_step (fun K hK => ?_)
  go_simp
  refine hK _ ?_
  clear hK K
  refine wpQuiet_step (fun K hK => ?_)
  go_simp
  refine ⟨_, fun v hv => rfl, hK _ ?_⟩
  clear hK K
  refine wpQuiet_step (fun K hK => ?_)
  go_simp
  refine ⟨_, fun v hv => rfl, hK _ ?_⟩
  clear hK K
  refine wpQuiet_step (fun K hK => ?_)
  go_simp
  refine hK _ ?_
  clear hK K
  refine wpQuiet_step (fun K hK => ?_)
  go_simp
  refine hK _ ?_
  clear hK K
  refine wpQuiet_step (fun K hK => ?_)
  go_simp
  refine hK _ ?_
  clear hK K
  refine wpQuiet_step (fun K hK => ?_)
  go_simp
  refine ⟨_, fun v hv => rfl, hK _ ?_⟩
  clear hK K
  refine wpQuiet_step (fun K hK => ?_)
  go_simp
  refine ⟨_, fun v hv => rfl, hK _ ?_⟩
  clear hK K
  refine wpQuiet_nil ?_
  intro w1 C1
  have H1 : Hid _ := cB _ C1
  clear C1
  go_wp2
  go_ret
  exact ⟨rfl, H1.out⟩

set_option maxHeartbeats 2000000 in
theorem right_2 (ao bo : Option Addr) (m n c d : Nat) (q : Nat) (w : World)
    (hR : ∀ v, Below w.heap.size w v → Calls Tryz.prog 46 #[.slice ao m c] v fun e w' => e = .returned (.bool true) ∧ w' = v)
    (hS : ∀ v, Below w.heap.size w v → Calls Tryz.prog 55 #[.slice ao m c] v fun e w' => e = .returned (.int .i64 (q : Int)) ∧ w' = v)
    (hq : ((n : Int) == (q : Int)) = false) :
    Calls Tryz.prog 30 #[.agg #[.slice ao m c, .slice bo n d]] w fun e w' => e = .returned (.bool false) ∧ Below w.heap.size w w' := by
  obtain ⟨C, hC⟩ : ∃ C : World → Prop, C = fun v => Below (w.alloc (.cells #[.slice ao m c, .slice bo n d] 25)).heap.size (w.alloc (.cells #[.slice ao m c, .slice bo n d] 25)) v := ⟨_, rfl⟩
  have c0 : ∀ v, C v → v.cell? ⟨w.heap.size, 0, none⟩ = some (.slice ao m c) := fun v h => by subst hC; exact (own1 h).1 0
  have c1 : ∀ v, C v → v.cell? ⟨w.heap.size, 1, none⟩ = some (.slice bo n d) := fun v h => by subst hC; exact (own1 h).1 1
  have cB : ∀ v, C v → Below w.heap.size w v := fun v h => by subst hC; exact (own1 h).2.2
  have cT : ∀ u v, C u → Below u.heap.size u v → C v := fun u v h k => by subst hC; exact h.trans (k.mono h.size)
  have cD : ∀ v, C v → C v.drew := fun v h => by subst hC; exact h.drew
  have cI : C (w.alloc (.cells #[.slice ao m c, .slice bo n d] 25)) := by subst hC; exact Below.refl _ _
  clear hC
  go_enter Tryz.func30, Tryz.ntmps30
  go_wp2_with fail
  refine region_calm C (by kernel_rfl) (by kernel_rfl) (cD _ cI) ?_
  clear cI
  refine wpQuiet_step (fun K hK => ?_)
  go_simp
  refine ⟨_, fun v hv => rfl, hK _ ?_⟩
  clear hK K
  refine wpQuiet_step (fun K hK => ?_)
  go_simp
  refine ⟨.slice ao m c, fun v hv => ?_, hK _ ?_⟩
  · simp [c0 v hv]
  clear hK K
  refine wpQuiet_step (fun K hK => ?_)
  go_simp
  refine ⟨.bool true, fun v hv => ?_, hK _ ?_⟩
  · exact calm_call cT hv (calm_same (hR v (cB v hv)))
  clear hK K
  refine wpQuiet_step (fun K hK => ?_)
  go_simp
  refine ⟨_, fun v hv => rfl, hK _ ?_⟩
  clear hK K
  refine wpQuiet_step (fun K hK => ?_)
  go_simp
  refine ⟨_, fun v hv => rfl, hK _ ?_⟩
  clear hK K
  refine wpQuiet_step (fun K hK => ?_)
  go_simp
  refine ⟨.slice bo n d, fun v hv => ?_, hK _ ?_⟩
  · simp [c1 v hv]
  clear hK K
  refine wpQuiet_step (fun K hK => ?_)
  go_simp
  refine ⟨_, fun v hv => rfl, hK _ ?_⟩
  clear hK K
  refine wpQuiet_step (fun K hK => ?_)
  go_simp
  refine ⟨_, fun v hv => rfl, hK _ ?_⟩
  clear hK K
  refine wpQuiet_step (fun K hK => ?_)
  go_simp
  refine ⟨.slice ao m c, fun v hv => ?_, hK _ ?_⟩
  · simp [c0 v hv]
  clear hK K
  refine wpQuiet_step (fun K hK => ?_)
  go_simp
  refine ⟨.int .i64 (q : Int), fun v hv => ?_, hK _ ?_⟩
  · exact calm_call cT hv (calm_same (hS v (cB v hv)))
  clear hK K
  refine wpQuiet_step (fun K hK => ?_)
  go_simp
  refine ⟨_, fun v hv => rfl, hK _ ?_⟩
  clear hK K
  refine wpQuiet_step (fun K hK => ?_)
  go_simp
  refine ⟨_, fun v hv => rfl, hK _ ?_⟩
  clear hK K
  refine wpQuiet_step (fun K hK => ?_)
  go_simp
  refine ⟨_, fun v hv => rfl, hK _ ?_⟩
  clear hK K
  refine wpQuiet_step (fun K hK => ?_)
  go_simp
  refine hK _ ?_
  clear hK K
  refine wpQuiet_step (fun K hK => ?_)
  go_simp
  refine hK _ ?_
  clear hK K
  refine wpQuiet_step (fun K hK => ?_)
  go_simp
  refine hK _ ?_
  clear hK K
  refine wpQuiet_step (fun K hK => ?_)
  go_simp
  refine ⟨_, fun v hv => rfl, hK _ ?_⟩
  clear hK K
  refine wpQuiet_step (fun K hK => ?_)
  go_simp
  refine ⟨_, fun v hv => rfl, hK _ ?_⟩
  clear hK K
  refine wpQuiet_nil ?_
  intro w1 C1
  have H1 : Hid _ := cB _ C1
  clear C1
  go_wp2
  go_ret
  exact ⟨rfl, H1.out⟩

set_option maxHeartbeats 2000000 in
theorem right_3 (ao bo : Option Addr) (m n c d : Nat) (q : Nat) (r : Bool) (w : World)
    (hR : ∀ v, Below w.heap.size w v → Calls Tryz.prog 46 #[.slice ao m c] v fun e w' => e = .returned (.bool true) ∧ w' = v)
    (hS : ∀ v, Below w.heap.size w v → Calls Tryz.prog 55 #[.slice ao m c] v fun e w' => e = .returned (.int .i64 (q : Int)) ∧ w' = v)
    (hA : ∀ v, Below w.heap.size w v → Calls Tryz.prog 56 #[.slice bo n d] v fun e w' => e = .returned (.bool r) ∧ Below v.heap.size v w')
    (hq : ((n : Int) == (q : Int)) = true) :
    Calls Tryz.prog 30 #[.agg #[.slice ao m c, .slice bo n d]] w fun e w' => e = .returned (.bool r) ∧ Below w.heap.size w w' := by
  obtain ⟨C, hC⟩ : ∃ C : World → Prop, C = fun v => Below (w.alloc (.cells #[.slice ao m c, .slice bo n d] 25)).heap.size (w.alloc (.cells #[.slice ao m c, .slice bo n d] 25)) v := ⟨_, rfl⟩
  have c0 : ∀ v, C v → v.cell? ⟨w.heap.size, 0, none⟩ = some (.slice ao m c) := fun v h => by subst hC; exact (own1 h).1 0
  have c1 : ∀ v, C v → v.cell? ⟨w.heap.size, 1, none⟩ = some (.slice bo n d) := fun v h => by subst hC; exact (own1 h).1 1
  have cB : ∀ v, C v → Below w.heap.size w v := fun v h => by subst hC; exact (own1 h).2.2
  have cT : ∀ u v, C u → Below u.heap.size u v → C v := fun u v h k => by subst hC; exact h.trans (k.mono h.size)
  have cD : ∀ v, C v → C v.drew := fun v h => by subst hC; exact h.drew
  have cI : C (w.alloc (.cells #[.slice ao m c, .slice bo n d] 25)) := by subst hC; exact Below.refl _ _
  clear hC
  go_enter Tryz.func30, Tryz.ntmps30
  go_wp2_with fail
  refine region_calm C (by kernel_rfl) (by kernel_rfl) (cD _ cI) ?_
  clear cI
  refine wpQuiet_step (fun K hK => ?_)
  go_simp
  refine ⟨_, fun v hv => rfl, hK _ ?_⟩
  clear hK K
  refine wpQuiet_step (fun K hK => ?_)
  go_simp
  refine ⟨.slice ao m c, fun v hv => ?_, hK _ ?_⟩
  · simp [c0 v hv]
  clear hK K
  refine wpQuiet_step (fun K hK => ?_)
  go_simp
  refine ⟨.bool true, fun v hv => ?_, hK _ ?_⟩
  · exact calm_call cT hv (calm_same (hR v (cB v hv)))
  clear hK K
  refine wpQuiet_step (fun K hK => ?_)
  go_simp
  refine ⟨_, fun v hv => rfl, hK _ ?_⟩
  clear hK K
  refine wpQuiet_step (fun K hK => ?_)
  go_simp
  refine ⟨_, fun v hv => rfl, hK _ ?_⟩
  clear hK K
  refine wpQuiet_step (fun K hK => ?_)
  go_simp
  refine ⟨.slice bo n d, fun v hv => ?_, hK _ ?_⟩
  · simp [c1 v hv]
  clear hK K
  refine wpQuiet_step (fun K hK => ?_)
  go_simp
  refine ⟨_, fun v hv => rfl, hK _ ?_⟩
  clear hK K
  refine wpQuiet_step (fun K hK => ?_)
  go_simp
  refine ⟨_, fun v hv => rfl, hK _ ?_⟩
  clear hK K
  refine wpQuiet_step (fun K hK => ?_)
  go_simp
  refine ⟨.slice ao m c, fun v hv => ?_, hK _ ?_⟩
  · simp [c0 v hv]
  clear hK K
  refine wpQuiet_step (fun K hK => ?_)
  go_simp
  refine ⟨.int .i64 (q : Int), fun v hv => ?_, hK _ ?_⟩
  · exact calm_call cT hv (calm_same (hS v (cB v hv)))
  clear hK K
  refine wpQuiet_step (fun K hK => ?_)
  go_simp
  refine ⟨_, fun v hv => rfl, hK _ ?_⟩
  clear hK K
  refine wpQuiet_step (fun K hK => ?_)
  go_simp
  refine ⟨_, fun v hv => rfl, hK _ ?_⟩
  clear hK K
  refine wpQuiet_step (fun K hK => ?_)
  go_simp
  refine ⟨_, fun v hv => rfl, hK _ ?_⟩
  clear hK K
  refine wpQuiet_step (fun K hK => ?_)
  go_simp
  refine ⟨_, fun v hv => rfl, hK _ ?_⟩
  clear hK K
  refine wpQuiet_step (fun K hK => ?_)
  go_simp
  refine ⟨.slice bo n d, fun v hv => ?_, hK _ ?_⟩
  · simp [c1 v hv]
  clear hK K
  refine wpQuiet_step (fun K hK => ?_)
  go_simp
  refine ⟨.bool r, fun v hv => ?_, hK _ ?_⟩
  · exact calm_call cT hv (hA v (cB v hv))
  clear hK K
  refine wpQuiet_step (fun K hK => ?_)
  go_simp
  refine ⟨_, fun v hv => rfl, hK _ ?_⟩
  clear hK K
  refine wpQuiet_step (fun K hK => ?_)
  go_simp
  refine ⟨_, fun v hv => rfl, hK _ ?_⟩
  clear hK K
  refine wpQuiet_nil ?_
  intro w1 C1
  have H1 : Hid _ := cB _ C1
  clear C1
  go_wp2
  go_ret
  exact ⟨rfl, H1.out⟩

theorem getD_all {xs : List ByteArray} {n : Nat} (h : ∀ x, x ∈ xs → x.size ≤ n) : ∀ i, i < xs.length → (xs.getD i ByteArray.empty).size ≤ n := fun i hi => h _ (by simp [List.getD, hi])

theorem right_any (ao bo : Option Addr) (zs : List Int) (xs : List ByteArray) (c d : Nat) (aF aZ : Addr) (w : World) (hE : Er w aF aZ) (hS : Sp.Sl w ao zs) (hR : Row w bo (txts xs)) (hl : zs.length ≤ 1000) (hn : xs.length ≤ 1000) (hx : ∀ x, x ∈ xs → x.size ≤ 200000) :
    Calls Tryz.prog 30 #[.agg #[.slice ao zs.length c, .slice bo xs.length d]] w fun e w' => e = .returned (.bool (tn zs xs)) ∧ Below w.heap.size w w' := by
  have k1 := fun (v : World) (h : Below w.heap.size w v) => Sp.right_any ao zs c v hl (hS.below h)
  have k2 := fun (v : World) (h : Below w.heap.size w v) => Sp.size_any ao zs c v hl (hS.below h)
  have k3 := fun (v : World) (h : Below w.heap.size w v) => allRight_any bo xs d aF aZ v (hE.below h) (hR.below h) hn (getD_all hx)
  unfold tn
  by_cases h1 : Sp.Rgt zs
  · rw [decide_eq_true h1] at k1 ⊢
    by_cases h2 : xs.length = Sp.szI zs
    · rw [decide_eq_true h2, Bool.true_and, Bool.true_and]
      exact right_3 ao bo _ _ c d (Sp.szI zs) _ w k1 k2 k3 (by rw [h2]; simp)
    · rw [decide_eq_false h2, Bool.true_and, Bool.false_and]
      exact right_2 ao bo _ _ c d (Sp.szI zs) w k1 k2 (beq_false_of_ne (by omega))
  · rw [decide_eq_false h1] at k1 ⊢
    rw [Bool.false_and]
    exact right_1 ao bo _ _ c d w k1
end Go.Proofs.YtjkobbpebnkimaaGreatDoor.Tn
