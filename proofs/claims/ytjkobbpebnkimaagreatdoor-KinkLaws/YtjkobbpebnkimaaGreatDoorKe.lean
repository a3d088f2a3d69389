/-
  PACKAGE kink IN LISTS OF RATIONALS: what each call gives of tensors, and what is refused. Conditions: sizes; the package's errors and the library's table stand where they were laid.
-/
import Derived.Test.YtjkobbpebnkimaaGreatDoorKd
namespace Go.Proofs.YtjkobbpebnkimaaGreatDoor.Tn
set_option maxRecDepth 100000
open Go.RowKit Nm
set_option linter.unusedVariables false

/-- is one of them this text? -/
def has (xs : List ByteArray) (v : ByteArray) : Bool := xs.any fun x => v.toList == x.toList
theorem has_no {xs : List ByteArray} {v : ByteArray} (h : ∀ i, i < xs.length → (v.toList == (xs.getD i ByteArray.empty).toList) = false) : has xs v = false := by
  unfold has
  rw [List.any_eq_false]
  intro x hx
  obtain ⟨i, hi, rfl⟩ := List.mem_iff_getElem.1 hx
  have := h i hi
  simpa [List.getD, hi] using this
theorem has_yes {xs : List ByteArray} {v : ByteArray} {i : Nat} (hi : i < xs.length) (h : (v.toList == (xs.getD i ByteArray.empty).toList) = true) : has xs v = true := by
  unfold has
  rw [List.any_eq_true]
  exact ⟨_, List.getElem_mem hi, by simpa [List.getD, hi] using h⟩
set_option maxHeartbeats 2000000 in
theorem index_any (ao : Option Addr) (xs : List ByteArray) (c : Nat) (v : ByteArray) (w : World) (hl : xs.length ≤ 1000) (hR : Row w ao (txts xs)) :
    Calls Tryz.prog 57 #[.slice ao xs.length c, .string v] w fun e w' => ∃ i : Int, e = .returned (.int .i64 i) ∧ (decide (0 ≤ i)) = has xs v ∧ w' = w := by
  have HR : Hid _ := fun i (h : i < xs.length) => row_str hR h
  have HY : Hid _ := fun i (hi : i < xs.length) h => has_yes (v := v) hi h
  have HNo : Hid _ := has_no (xs := xs) (v := v)
  clear hR
  obtain ⟨n, hn⟩ : ∃ n, xs.length = n := ⟨_, rfl⟩
  rw [hn] at HR HY HNo hl ⊢
  clear hn
  go_enter Tryz.func57, Tryz.ntmps57
  go_wp2_with fail
  go_loopw [5, 8, 9, 10, 11, 12, 13, 14, 15, 16, 18] (fun _ i _ _ _ _ _ _ _ _ _ wr => ∃ k : Nat, k ≤ n ∧ i = .int .i64 k ∧ (∀ j, j < k → (v.toList == (xs.getD j ByteArray.empty).toList) = false) ∧ wr = w) (fun _ i _ _ _ _ _ _ _ _ _ _ => n - (intOf i).toNat)
  case atStart => exact ⟨0, by omega, rfl, fun j hj => by omega, rfl⟩
  case round =>
    obtain ⟨k, hk, rfl, hj, rfl⟩ := hrel
    have HJ : Hid _ := hj
    clear hj
    by_cases h : k < n
    · obtain ⟨b, off, rfl, hc⟩ := HR.out k h
      obtain ⟨x, hx⟩ : ∃ z, xs.getD k ByteArray.empty = z := ⟨_, rfl⟩
      rw [hx] at hc
      have HX : Hid _ := hx
      clear hx
      cases he : v.toList == x.toList with
      | true =>
        have HE : Hid _ := he
        go_wp2
        go_ret
        exact ⟨k, rfl, by rw [HY.out k h (by rw [HX.out]; exact HE.out)]; simp, rfl⟩
      | false =>
        have HE : Hid _ := he
        go_wp2
        go_roundw
        case rel =>
          refine ⟨k + 1, by omega, by go_num, fun j hj => ?_, by first | rfl | trivial⟩
          by_cases e : j = k
          · rw [e, HX.out]; exact HE.out
          · exact HJ.out j (by omega)
        case measure => simp [intOf]; omega
    · go_wp2
      go_ret
      exact ⟨-1, rfl, by rw [HNo.out (fun i hi => HJ.out i (by omega))]; decide, rfl⟩
theorem contains_any (ao : Option Addr) (xs : List ByteArray) (c : Nat) (v : ByteArray) (w : World) (hl : xs.length ≤ 1000) (hR : Row w ao (txts xs)) :
    Calls Tryz.prog 31 #[.slice ao xs.length c, .string v] w fun e w' => e = .returned (.bool (has xs v)) ∧ w' = w := by
  have hI := index_any ao xs c v w hl hR
  generalize has xs v = hv at hI ⊢
  clear hR
  go_enter Tryz.func31, Tryz.ntmps31
  go_wp2_with fail
  refine hI.mono ?_
  rintro e w1 ⟨i, rfl, hi, rfl⟩
  go_wp2
  go_ret
  exact ⟨by rw [← hi]; simp, rfl⟩

set_option maxHeartbeats 2000000 in
theorem flat_no (n1 c1 d1 m1 : Nat) (a1 b1 : Option Addr) (w : World)
    (hR1 : ∀ v, Below w.heap.size w v → Calls Tryz.prog 30 #[.agg #[.slice a1 m1 c1, .slice b1 n1 d1]] v fun e w' => e = .returned (.bool false) ∧ Below v.heap.size v w') :
    Calls Tryz.prog 17 #[.agg #[.slice a1 m1 c1, .slice b1 n1 d1]] w fun e w' => e = .returned (.tuple #[.bool false, .int .i64 1]) ∧ Below w.heap.size w w' := by
  have HB : Hid _ := (Below.refl w.heap.size w).alloc (Nat.le_refl _) (.cells #[.slice a1 m1 c1, .slice b1 n1 d1] 25)
  go_enter Tryz.func17, Tryz.ntmps17
  go_wp2_with fail
  refine (hR1 _ HB.out).mono ?_
  rintro e w1 ⟨rfl, hb⟩
  have HC : Hid _ := bl_trans HB.out hb
  clear hb
  go_wp2
  go_ret2
  exact ⟨rfl, HC.out⟩
set_option maxHeartbeats 2000000 in
theorem flat_yes (c1 d1 m1 : Nat) (a1 b1 : Option Addr) (xs : List ByteArray) (n1 : Nat) (hn : xs.length = n1) (hl : n1 ≤ 1000) (w : World) (hr : Row w b1 (txts xs))
    (hR1 : ∀ v, Below w.heap.size w v → Calls Tryz.prog 30 #[.agg #[.slice a1 m1 c1, .slice b1 n1 d1]] v fun e w' => e = .returned (.bool true) ∧ Below v.heap.size v w') :
    Calls Tryz.prog 17 #[.agg #[.slice a1 m1 c1, .slice b1 n1 d1]] w fun e w' => e = .returned (.tuple #[.bool (has xs ⟨#[48]⟩), .int .i64 0]) ∧ Below w.heap.size w w' := by
  have hC := fun (v : World) (hv : Below w.heap.size w v) => contains_any b1 xs d1 ⟨#[48]⟩ v (by omega) (hr.below hv)
  rw [hn] at hC
  have HC : Hid _ := hC
  generalize has xs ⟨#[48]⟩ = hv at *
  have HB : Hid _ := (Below.refl w.heap.size w).alloc (Nat.le_refl _) (.cells #[.slice a1 m1 c1, .slice b1 n1 d1] 25)
  clear hr hn hC
  go_enter Tryz.func17, Tryz.ntmps17
  go_wp2_with fail
  refine (hR1 _ HB.out).mono ?_
  rintro e w1 ⟨rfl, hb⟩
  have ho := own1 (hb.trans (Below.refl _ _))
  have k1 := ho.1 1
  have HD : Hid _ := ho.2.2
  clear hb ho HB hR1
  simp only [List.getElem?_toArray, List.getElem?_cons_succ, List.getElem?_cons_zero] at k1
  have hc := HC.out w1 HD.out
  go_wp2_with fail
  refine hc.mono ?_
  rintro e w2 ⟨rfl, rfl⟩
  go_wp2
  go_ret2
  exact ⟨rfl, HD.out⟩

theorem has_R (qs : List Rat) : has (qs.map R) ⟨#[48]⟩ = zero qs := by
  induction qs with
  | nil => rfl
  | cons q qs ih =>
    have e : ((⟨#[48]⟩ : ByteArray).toList == (R q).toList) = decide (q = 0) := by
      by_cases h : q = 0
      · subst h; decide +kernel
      · have h1 : (R q).toList ≠ (⟨#[48]⟩ : ByteArray).toList := fun c => h ((R_zero_iff q).1 (by
          rw [toList_data, toList_data] at c
          cases hR : R q with
          | mk d => rw [hR] at c; simp at c; rw [← c]))
        rw [decide_eq_false h]
        exact beq_false_of_ne fun c => h1 c.symm
    simp only [has, zero, List.map_cons, List.any_cons] at ih ⊢
    rw [ih, e]
/-- which error of two -/
def kerr (b c : Bool) : Int := if (b && c) = true then 4 else 1
section
variable {a1 b1 a2 b2 : Option Addr} {B1 B2 m1 n1 m2 n2 m n k1 k2 : Nat} {zs us : List Int} {xs ys : List ByteArray} {qs rs : List Rat} {aF aZ : Addr} {w : World}
theorem each_R (by1 : Int) (K : Rat → Rat) (c1 d1 : Nat) (hE : Er w aF aZ) (h1 : Tt w B1 a1 b1 zs m1 n1 qs k1) (hk : k1 ≤ 20000)
    (hF : ∀ q v, (R q).size ≤ 50000 → v.cell? ⟨4, 0, none⟩ = some (.int .u64 1) → Calls Tryz.prog 54 #[.int .i64 by1, .string (R q)] v fun e w' => e = .returned (.string (R (K q))) ∧ Below v.heap.size v w') :
    Calls Tryz.prog 29 #[.int .i64 by1, .agg #[.slice a1 m1 c1, .slice b1 n1 d1]] w fun e w' => ∃ a3 c3 b3 d3, e = .returned (.tuple #[.agg #[.slice a3 m1 c3, .slice b3 n1 d3], .int .i64 0]) ∧ Tm w' w.heap.size a3 b3 zs ((qs.map K).map R) ∧ Below w.heap.size w w' := by
  have hle := h1.le
  have hnq := h1.hn
  refine each_yes by1 n1 c1 d1 m1 a1 b1 zs ((qs.map K).map R) w (fun v hv => zright c1 d1 (hE.below hv) (h1.below hv) hk) (fun v hv hb ha => ?_)
  refine kmade_any a1 b1 zs m1 n1 c1 d1 53 _ ((qs.map K).map R) v h1.hm hle.2.2 (h1.tm.s.below hv) (by simp [hnq]) hle.1 cf53 (fun k u hk1 hu => ?_)
  obtain ⟨p1, q1, e1, x1⟩ := row_str ((h1.tm.r.below hv).below hu) (i := k) (by rw [mapR_len]; omega)
  subst e1
  rw [mapR_at qs (by omega)] at x1
  rw [mapR_at _ (by rw [List.length_map]; omega), map_at K (by omega)]
  have s1 := h1.tr.at (i := k) (by omega) (m := 50000) (by omega)
  have := each1_any k n1 d1 p1 q1 w.heap.size (w.heap.size + 1) by1 (R (qs.getD k 0)) (R (K (qs.getD k 0))) u hk1 (by omega) (cell_below hu hb) (cell_below hu ha) x1
    (fun v' hv' => hF _ v' s1 (cell_below hv' (((hE.below hv).below hu)).tb))
  simpa using this
theorem zrelu (c1 d1 : Nat) (hE : Er w aF aZ) (h1 : Tt w B1 a1 b1 zs m1 n1 qs k1) (hk : k1 ≤ 20000) :
    Calls Tryz.prog 13 #[.agg #[.slice a1 m1 c1, .slice b1 n1 d1]] w (Got w zs m1 n1 (qs.map kRelu) k1) := by
  refine (krelu_yes n1 c1 d1 m1 a1 b1 zs ((qs.map kRelu).map R) w (fun v hv => each_R 0 kRelu c1 d1 (hE.below hv) (h1.below hv) hk (fun q v hq ht => bent_relu q v hq ht))).mono ?_
  rintro e w' ⟨a3, c3, b3, d3, rfl, hT, hB⟩
  exact ⟨a3, c3, b3, d3, rfl, ⟨hT, h1.tr.map fun x hx => bd_relu hx, h1.hm, by rw [List.length_map, h1.hn]⟩, hB⟩
theorem zrelu_no (c1 d1 : Nat) (hE : Er w aF aZ) (h1 : Ta w B1 a1 b1 zs xs) (e1 : zs.length = m1) (e2 : xs.length = n1) (hbad : tn zs xs = false) :
    Calls Tryz.prog 13 #[.agg #[.slice a1 m1 c1, .slice b1 n1 d1]] w fun e w' => e = .returned (noTensor 1) ∧ Below w.heap.size w w' := by
  subst e1 e2
  refine krelu_no _ c1 d1 _ a1 b1 1 w (fun v hv => each_no 0 _ c1 d1 _ a1 b1 v (fun u hu => ?_))
  have k := ((h1.below hv).below hu).right c1 d1 ((hE.below hv).below hu)
  rw [hbad] at k
  exact k
theorem zabs (c1 d1 : Nat) (hE : Er w aF aZ) (h1 : Tt w B1 a1 b1 zs m1 n1 qs k1) (hk : k1 ≤ 20000) :
    Calls Tryz.prog 14 #[.agg #[.slice a1 m1 c1, .slice b1 n1 d1]] w (Got w zs m1 n1 (qs.map kAbs) k1) := by
  refine (kabs_yes n1 c1 d1 m1 a1 b1 zs ((qs.map kAbs).map R) w (fun v hv => each_R 1 kAbs c1 d1 (hE.below hv) (h1.below hv) hk (fun q v hq ht => bent_abs q v hq ht))).mono ?_
  rintro e w' ⟨a3, c3, b3, d3, rfl, hT, hB⟩
  exact ⟨a3, c3, b3, d3, rfl, ⟨hT, h1.tr.map fun x hx => bd_abs hx, h1.hm, by rw [List.length_map, h1.hn]⟩, hB⟩
theorem zabs_no (c1 d1 : Nat) (hE : Er w aF aZ) (h1 : Ta w B1 a1 b1 zs xs) (e1 : zs.length = m1) (e2 : xs.length = n1) (hbad : tn zs xs = false) :
    Calls Tryz.prog 14 #[.agg #[.slice a1 m1 c1, .slice b1 n1 d1]] w fun e w' => e = .returned (noTensor 1) ∧ Below w.heap.size w w' := by
  subst e1 e2
  refine kabs_no _ c1 d1 _ a1 b1 1 w (fun v hv => each_no 1 _ c1 d1 _ a1 b1 v (fun u hu => ?_))
  have k := ((h1.below hv).below hu).right c1 d1 ((hE.below hv).below hu)
  rw [hbad] at k
  exact k
theorem zstep (c1 d1 : Nat) (hE : Er w aF aZ) (h1 : Tt w B1 a1 b1 zs m1 n1 qs k1) (hk : k1 ≤ 20000) :
    Calls Tryz.prog 15 #[.agg #[.slice a1 m1 c1, .slice b1 n1 d1]] w (Got w zs m1 n1 (qs.map kStep) k1) := by
  refine (kstep_yes n1 c1 d1 m1 a1 b1 zs ((qs.map kStep).map R) w (fun v hv => each_R 2 kStep c1 d1 (hE.below hv) (h1.below hv) hk (fun q v hq ht => bent_step q v hq ht))).mono ?_
  rintro e w' ⟨a3, c3, b3, d3, rfl, hT, hB⟩
  exact ⟨a3, c3, b3, d3, rfl, ⟨hT, h1.tr.map fun x hx => bd_step hx, h1.hm, by rw [List.length_map, h1.hn]⟩, hB⟩
theorem zstep_no (c1 d1 : Nat) (hE : Er w aF aZ) (h1 : Ta w B1 a1 b1 zs xs) (e1 : zs.length = m1) (e2 : xs.length = n1) (hbad : tn zs xs = false) :
    Calls Tryz.prog 15 #[.agg #[.slice a1 m1 c1, .slice b1 n1 d1]] w fun e w' => e = .returned (noTensor 1) ∧ Below w.heap.size w w' := by
  subst e1 e2
  refine kstep_no _ c1 d1 _ a1 b1 1 w (fun v hv => each_no 2 _ c1 d1 _ a1 b1 v (fun u hu => ?_))
  have k := ((h1.below hv).below hu).right c1 d1 ((hE.below hv).below hu)
  rw [hbad] at k
  exact k
theorem zsign (c1 d1 : Nat) (hE : Er w aF aZ) (h1 : Tt w B1 a1 b1 zs m1 n1 qs k1) (hk : k1 ≤ 20000) :
    Calls Tryz.prog 16 #[.agg #[.slice a1 m1 c1, .slice b1 n1 d1]] w (Got w zs m1 n1 (qs.map kSign) k1) := by
  refine (ksign_yes n1 c1 d1 m1 a1 b1 zs ((qs.map kSign).map R) w (fun v hv => each_R 3 kSign c1 d1 (hE.below hv) (h1.below hv) hk (fun q v hq ht => bent_sign q v hq ht))).mono ?_
  rintro e w' ⟨a3, c3, b3, d3, rfl, hT, hB⟩
  exact ⟨a3, c3, b3, d3, rfl, ⟨hT, h1.tr.map fun x hx => bd_sign hx, h1.hm, by rw [List.length_map, h1.hn]⟩, hB⟩
theorem zsign_no (c1 d1 : Nat) (hE : Er w aF aZ) (h1 : Ta w B1 a1 b1 zs xs) (e1 : zs.length = m1) (e2 : xs.length = n1) (hbad : tn zs xs = false) :
    Calls Tryz.prog 16 #[.agg #[.slice a1 m1 c1, .slice b1 n1 d1]] w fun e w' => e = .returned (noTensor 1) ∧ Below w.heap.size w w' := by
  subst e1 e2
  refine ksign_no _ c1 d1 _ a1 b1 1 w (fun v hv => each_no 3 _ c1 d1 _ a1 b1 v (fun u hu => ?_))
  have k := ((h1.below hv).below hu).right c1 d1 ((hE.below hv).below hu)
  rw [hbad] at k
  exact k
theorem zflat (c1 d1 : Nat) (hE : Er w aF aZ) (h1 : Tt w B1 a1 b1 zs m1 n1 qs k1) (hk : k1 ≤ 20000) :
    Calls Tryz.prog 17 #[.agg #[.slice a1 m1 c1, .slice b1 n1 d1]] w fun e w' => e = .returned (.tuple #[.bool (zero qs), .int .i64 0]) ∧ Below w.heap.size w w' := by
  have hle := h1.le
  have k := flat_yes c1 d1 m1 a1 b1 (qs.map R) n1 (by rw [mapR_len, h1.hn]) (by omega) w h1.tm.r (fun v hv => zright c1 d1 (hE.below hv) (h1.below hv) hk)
  rw [has_R] at k
  exact k
theorem zflat_no (c1 d1 : Nat) (hE : Er w aF aZ) (h1 : Ta w B1 a1 b1 zs xs) (e1 : zs.length = m1) (e2 : xs.length = n1) (hbad : tn zs xs = false) :
    Calls Tryz.prog 17 #[.agg #[.slice a1 m1 c1, .slice b1 n1 d1]] w fun e w' => e = .returned (.tuple #[.bool false, .int .i64 1]) ∧ Below w.heap.size w w' := by
  subst e1 e2
  refine flat_no _ c1 d1 _ a1 b1 w (fun v hv => ?_)
  have k := (h1.below hv).right c1 d1 (hE.below hv)
  rw [hbad] at k
  exact k
theorem pairs_R (f : Nat) (K : Rat → Rat → Rat) (c1 d1 c2 d2 : Nat) (hE : Er w aF aZ) (h1 : Tt w B1 a1 b1 zs m n qs k1) (h2 : Tt w B2 a2 b2 zs m n rs k2) (hk1 : k1 ≤ 20000) (hk2 : k2 ≤ 20000)
    (hcf : ∀ (args : Array Value) (w : World), (callFunc f args).run Tryz.prog w = .ok (.enter f args) w)
    (hF : ∀ x y v, Calls Tryz.prog f #[.string (R x), .string (R y), .bool (decide (sgr x y < 0))] v fun e v' => e = .returned (.string (R (K x y))) ∧ Below v.heap.size v v') :
    Calls Tryz.prog 38 #[.agg #[.slice a1 m c1, .slice b1 n d1], .agg #[.slice a2 m c2, .slice b2 n d2], .func (.func f) #[] #[]] w fun e w' => ∃ a3 c3 b3 d3, e = .returned (.tuple #[.agg #[.slice a3 m c3, .slice b3 n d3], .int .i64 0]) ∧ Tm w' w.heap.size a3 b3 zs ((List.zipWith K qs rs).map R) ∧ Below w.heap.size w w' := by
  have hle := h1.le
  have hn1 := h1.hn
  have hn2 := h2.hn
  have hzl : (List.zipWith K qs rs).length = n := by rw [zip_len _ (by rw [hn1, hn2]), hn1]
  refine pairs_yes f n n c1 d1 c2 d2 m m a1 b1 a2 b2 zs ((List.zipWith K qs rs).map R) w (fun v hv => zright c1 d1 (hE.below hv) (h1.below hv) hk1) (fun v hv => zright c2 d2 (hE.below hv) (h2.below hv) hk2) (fun v hv => ?_) (fun v hv hj ha hb => ?_)
  · have k := Sp.same_any a1 a2 zs zs c1 c2 v (by have := h1.hm; omega) (by have := h1.hm; omega) (h1.tm.s.below hv) (h2.tm.s.below hv)
    rw [decide_eq_true rfl, h1.hm] at k
    exact k
  refine kmade_any a1 b1 zs m n c1 d1 64 _ ((List.zipWith K qs rs).map R) v h1.hm hle.2.2 (h1.tm.s.below hv) (by rw [mapR_len, hzl]) hle.1 cf64 (fun k u hk hu => ?_)
  obtain ⟨p1, q1, e1, x1⟩ := row_str ((h1.tm.r.below hv).below hu) (i := k) (by rw [mapR_len]; omega)
  obtain ⟨p2, q2, e2, x2⟩ := row_str ((h2.tm.r.below hv).below hu) (i := k) (by rw [mapR_len]; omega)
  subst e1 e2
  rw [mapR_at qs (by omega)] at x1
  rw [mapR_at rs (by omega)] at x2
  rw [mapR_at _ (by omega), zip_at K (by omega) (by omega)]
  have s1 := h1.tr.at (i := k) (by omega) (m := 50000) (by omega)
  have s2 := h2.tr.at (i := k) (by omega) (m := 50000) (by omega)
  have := pairs1_any f k n n d1 d2 p1 q1 p2 q2 (w.heap.size + 1 + 1) w.heap.size (w.heap.size + 1) (R (qs.getD k 0)) (R (rs.getD k 0)) (R (K (qs.getD k 0) (rs.getD k 0))) (sgr (qs.getD k 0) (rs.getD k 0)) u hk hk (by omega) (by omega) hcf
    (cell_below hu hj) (cell_below hu ha) (cell_below hu hb) x1 x2 (fun v' => Cmp_R _ _ v' s1 s2) (fun v' => hF _ _ v')
  simpa using this
theorem sgr_dec (x y : Rat) : decide (sgr x y < 0) = decide (x < y) := by
  rcases sgr_cases x y with ⟨h, e⟩ | ⟨h, e⟩
  · rw [e, decide_eq_true h]; rfl
  · rw [decide_eq_false h, decide_eq_false (by omega)]
theorem max_R (x y : Rat) (v : World) : Calls Tryz.prog 39 #[.string (R x), .string (R y), .bool (decide (sgr x y < 0))] v fun e v' => e = .returned (.string (R (kMax x y))) ∧ Below v.heap.size v v' := by
  have k := choose_max (R x) (R y) (decide (sgr x y < 0)) v
  rw [sgr_dec] at k ⊢
  have e : (if decide (x < y) = true then R y else R x) = R (kMax x y) := by unfold kMax; by_cases h : x < y <;> simp [h]
  rw [e] at k
  exact k
theorem above_R (x y : Rat) (v : World) : Calls Tryz.prog 40 #[.string (R x), .string (R y), .bool (decide (sgr x y < 0))] v fun e v' => e = .returned (.string (R (kAbove x y))) ∧ Below v.heap.size v v' := by
  have k := choose_above (R x) (R y) (decide (sgr x y < 0)) v
  rw [sgr_dec] at k ⊢
  have e : (if decide (x < y) = true then (⟨#[48]⟩ : ByteArray) else ⟨#[49]⟩) = R (kAbove x y) := by
    unfold kAbove
    by_cases h : x < y
    · simp [h]; decide +kernel
    · simp [h]; decide +kernel
  rw [e] at k
  exact k
theorem zmax (c1 d1 c2 d2 : Nat) (hE : Er w aF aZ) (h1 : Tt w B1 a1 b1 zs m n qs k1) (h2 : Tt w B2 a2 b2 zs m n rs k2) (k : Nat) (hk1 : k1 ≤ k) (hk2 : k2 ≤ k) (hk : k ≤ 20000) :
    Calls Tryz.prog 21 #[.agg #[.slice a1 m c1, .slice b1 n d1], .agg #[.slice a2 m c2, .slice b2 n d2]] w (Got w zs m n (List.zipWith kMax qs rs) k) := by
  refine (kmax_yes n n c1 d1 c2 d2 m m a1 b1 a2 b2 zs ((List.zipWith kMax qs rs).map R) w (fun v hv => pairs_R 39 kMax c1 d1 c2 d2 (hE.below hv) (h1.below hv) (h2.below hv) (by omega) (by omega) cf39 max_R)).mono ?_
  rintro e w' ⟨a3, c3, b3, d3, rfl, hT, hB⟩
  exact ⟨a3, c3, b3, d3, rfl, ⟨hT, h1.tr.zip h2.tr fun x y hx hy => bd_max (hx.mono hk1) (hy.mono hk2), h1.hm, by rw [zip_len _ (by rw [h1.hn, h2.hn]), h1.hn]⟩, hB⟩
theorem zmax_no (c1 d1 c2 d2 : Nat) (hE : Er w aF aZ) (h1 : Ta w B1 a1 b1 zs xs) (h2 : Ta w B2 a2 b2 us ys) (e1 : zs.length = m1) (e2 : xs.length = n1) (e3 : us.length = m2) (e4 : ys.length = n2)
    (hbad : ¬ ((tn zs xs && tn us ys) = true ∧ zs = us)) :
    Calls Tryz.prog 21 #[.agg #[.slice a1 m1 c1, .slice b1 n1 d1], .agg #[.slice a2 m2 c2, .slice b2 n2 d2]] w fun e w' => e = .returned (noTensor (zerr (tn zs xs) (tn us ys))) ∧ Below w.heap.size w w' := by
  subst e1 e2 e3 e4
  refine kmax_no _ _ c1 d1 c2 d2 _ _ a1 b1 a2 b2 _ w (fun v hv => ?_)
  have R1 := fun (u : World) (hu : Below v.heap.size v u) => ((h1.below hv).below hu).right c1 d1 ((hE.below hv).below hu)
  have R2 := fun (u : World) (hu : Below v.heap.size v u) => ((h2.below hv).below hu).right c2 d2 ((hE.below hv).below hu)
  have R3 := fun (u : World) (hu : Below v.heap.size v u) => Sp.same_any a1 a2 zs us c1 c2 u h1.zl h2.zl ((h1.m.s.below hv).below hu) ((h2.m.s.below hv).below hu)
  unfold zerr
  cases et : tn zs xs with
  | false => rw [et] at R1; exact pairs_a 39 _ _ c1 d1 c2 d2 _ _ a1 b1 a2 b2 v R1
  | true =>
    rw [et] at R1
    cases eu : tn us ys with
    | false => rw [eu] at R2; exact pairs_b 39 _ _ c1 d1 c2 d2 _ _ a1 b1 a2 b2 v R1 R2
    | true =>
      rw [eu] at R2
      have hne : ¬ zs = us := fun c => hbad ⟨by rw [et, eu]; rfl, c⟩
      rw [decide_eq_false hne] at R3
      exact pairs_s 39 _ _ c1 d1 c2 d2 _ _ a1 b1 a2 b2 v R1 R2 R3
theorem zabove (c1 d1 c2 d2 : Nat) (hE : Er w aF aZ) (h1 : Tt w B1 a1 b1 zs m n qs k1) (h2 : Tt w B2 a2 b2 zs m n rs k2) (k : Nat) (hk1 : k1 ≤ k) (hk2 : k2 ≤ k) (hk : k ≤ 20000) :
    Calls Tryz.prog 22 #[.agg #[.slice a1 m c1, .slice b1 n d1], .agg #[.slice a2 m c2, .slice b2 n d2]] w (Got w zs m n (List.zipWith kAbove qs rs) k) := by
  refine (kabove_yes n n c1 d1 c2 d2 m m a1 b1 a2 b2 zs ((List.zipWith kAbove qs rs).map R) w (fun v hv => pairs_R 40 kAbove c1 d1 c2 d2 (hE.below hv) (h1.below hv) (h2.below hv) (by omega) (by omega) cf40 above_R)).mono ?_
  rintro e w' ⟨a3, c3, b3, d3, rfl, hT, hB⟩
  exact ⟨a3, c3, b3, d3, rfl, ⟨hT, h1.tr.zip h2.tr fun x y hx hy => bd_above (hx.mono hk1), h1.hm, by rw [zip_len _ (by rw [h1.hn, h2.hn]), h1.hn]⟩, hB⟩
theorem zabove_no (c1 d1 c2 d2 : Nat) (hE : Er w aF aZ) (h1 : Ta w B1 a1 b1 zs xs) (h2 : Ta w B2 a2 b2 us ys) (e1 : zs.length = m1) (e2 : xs.length = n1) (e3 : us.length = m2) (e4 : ys.length = n2)
    (hbad : ¬ ((tn zs xs && tn us ys) = true ∧ zs = us)) :
    Calls Tryz.prog 22 #[.agg #[.slice a1 m1 c1, .slice b1 n1 d1], .agg #[.slice a2 m2 c2, .slice b2 n2 d2]] w fun e w' => e = .returned (noTensor (zerr (tn zs xs) (tn us ys))) ∧ Below w.heap.size w w' := by
  subst e1 e2 e3 e4
  refine kabove_no _ _ c1 d1 c2 d2 _ _ a1 b1 a2 b2 _ w (fun v hv => ?_)
  have R1 := fun (u : World) (hu : Below v.heap.size v u) => ((h1.below hv).below hu).right c1 d1 ((hE.below hv).below hu)
  have R2 := fun (u : World) (hu : Below v.heap.size v u) => ((h2.below hv).below hu).right c2 d2 ((hE.below hv).below hu)
  have R3 := fun (u : World) (hu : Below v.heap.size v u) => Sp.same_any a1 a2 zs us c1 c2 u h1.zl h2.zl ((h1.m.s.below hv).below hu) ((h2.m.s.below hv).below hu)
  unfold zerr
  cases et : tn zs xs with
  | false => rw [et] at R1; exact pairs_a 40 _ _ c1 d1 c2 d2 _ _ a1 b1 a2 b2 v R1
  | true =>
    rw [et] at R1
    cases eu : tn us ys with
    | false => rw [eu] at R2; exact pairs_b 40 _ _ c1 d1 c2 d2 _ _ a1 b1 a2 b2 v R1 R2
    | true =>
      rw [eu] at R2
      have hne : ¬ zs = us := fun c => hbad ⟨by rw [et, eu]; rfl, c⟩
      rw [decide_eq_false hne] at R3
      exact pairs_s 40 _ _ c1 d1 c2 d2 _ _ a1 b1 a2 b2 v R1 R2 R3
end
end Go.Proofs.YtjkobbpebnkimaaGreatDoor.Tn
