/-
  READING FRACTIONS. Conditions: each theorem's own.
-/
import Derived.Test.YtadgnafafdfioaaGreatDoorMix
import Derived.Deep.CutRange
import Derived.BigRegion
namespace Go.Proofs.YtadgnafafdfioaaGreatDoor
section
set_option maxRecDepth 100000
open Go.RowKit Nm
set_option linter.unusedVariables false

theorem W0 : W 0 = ⟨#[48]⟩ := by rw [W_zero, S0]
theorem notW0 {z : Int} (h : z ≠ 0) : ((W z).toList == [48]) = false := by
  have := eqW h; rw [W0, toList_data ⟨#[48]⟩] at this; exact this
end
end Go.Proofs.YtadgnafafdfioaaGreatDoor
namespace Go.Proofs.YtadgnafafdfioaaGreatDoor
section
set_option maxRecDepth 100000
open Go.RowKit Nm
set_option linter.unusedVariables false

set_option maxHeartbeats 1000000 in
theorem bothRight_not (s t : ByteArray) (w : World) (hs : s.size ≤ 5000000) (h : rt s.data.toList = false) :
    Calls Tryz.prog 100 #[.string s, .string t] w fun e w' => e = .returned (.bool false) ∧ w' = w := by
  go_enter Tryz.func100, Tryz.ntmps100
  go_wp2_with (first | (go_at_call 99; refine (right_is s false _ hs h).mono ?_; rintro e w1 ⟨rfl, rfl⟩) | go_in)
  go_ret
  exact ⟨rfl, rfl⟩
set_option maxHeartbeats 1000000 in
theorem Compare_not (s t : ByteArray) (w : World) (hs : s.size ≤ 5000000) (h : rt s.data.toList = false) :
    Calls Tryz.prog 93 #[.string s, .string t] w fun e w' => e = .returned (.tuple #[.int .i64 0, .int .i64 2]) ∧ w' = w := by
  go_enter Tryz.func93, Tryz.ntmps93
  go_wp2_with fail
  refine (bothRight_not s t _ hs h).mono ?_
  rintro e w2 ⟨rfl, rfl⟩
  go_wp2
  go_ret2
  exact ⟨rfl, rfl⟩
theorem S_bt {l : List UInt8} (h : rt l = true) : bt l = S (dv l) := by
  apply ba_ext
  rw [bt_data, S_data, tx_dv h]

set_option maxHeartbeats 1000000 in
theorem aboveOne_any (l : List UInt8) (w : World) (hs : (bt l).size ≤ 250000) :
    Calls Tryz.prog 82 #[.string (bt l)] w fun e w' => e = .returned (.bool (rt l && decide (1 < dv l))) ∧ w' = w := by
  cases h : rt l with
  | false =>
    have hd : rt (bt l).data.toList = false := by rw [bt_data]; exact h
    go_enter Tryz.func82, Tryz.ntmps82
    go_wp2_with fail
    refine (Compare_not (bt l) _ _ (by omega) hd).mono ?_
    rintro e w2 ⟨rfl, rfl⟩
    go_wp2
    go_ret
    exact ⟨rfl, rfl⟩
  | true =>
    have e := S_bt h
    have ht : tl (dv l) ≤ 250000 := by rw [e, S_size] at hs; exact hs
    rw [e]
    generalize dv l = n at *
    have hC : ∀ v : World, Calls Tryz.prog 93 #[.string (S n), .string ⟨#[49]⟩] v fun e w' => e = .returned (.tuple #[.int .i64 (sg n 1), .int .i64 0]) ∧ w' = v := fun v => by
      have := Compare_any n 1 v (by omega) (by decide)
      rw [S1] at this; exact this
    by_cases h1 : 1 < n
    · have hsg : sg (n : Int) 1 = 1 := sg_gt (by omega)
      rw [decide_eq_true h1]
      go_enter Tryz.func82, Tryz.ntmps82
      go_wp2_with fail
      refine (hC _).mono ?_
      rintro e w2 ⟨rfl, rfl⟩
      rw [hsg]
      go_wp2
      go_ret
      exact ⟨rfl, rfl⟩
    · have hsg : ¬ (0 < sg (n : Int) 1) := by
        rcases Nat.lt_or_ge n 1 with h | h
        · rw [sg_lt (by omega)]; decide
        · rw [sg_eq (by omega)]; decide
      have hsg' : sg (n : Int) 1 ≤ 0 := by omega
      rw [decide_eq_false h1]
      generalize sg (n : Int) 1 = q at *
      go_enter Tryz.func82, Tryz.ntmps82
      go_wp2_with fail
      refine (hC _).mono ?_
      rintro e w2 ⟨rfl, rfl⟩
      go_wp2
      go_ret
      refine ⟨?_, rfl⟩
      simp
      omega

theorem own1 {w v : World} {a : Array Value} {r : TypeId} (h : Below (w.alloc (.cells a r)).heap.size (w.alloc (.cells a r)) v) :
    (∀ i, v.cell? ⟨w.heap.size, i, none⟩ = a[i]?) ∧ (∀ i, v.frozen? ⟨w.heap.size, i, none⟩ = false) ∧ Below w.heap.size w v := by
  have hs : (w.alloc (.cells a r)).heap.size = w.heap.size + 1 := by simp
  have f1 : v.heap[w.heap.size]? = some (.cells a r) := by rw [h.block _ (by omega)]; exact heap_alloc_new w _
  exact ⟨fun i => by simp [World.cell?, f1], fun i => by simp [World.frozen?, f1], bl_trans (bl_alloc (Below.refl _ w) _) h⟩

/-- what parse gives of a text that is none -/
abbrev none2 : Value := .agg #[.string ⟨#[]⟩, .string ⟨#[]⟩]

set_option maxHeartbeats 4000000 in
/-- no stroke, no whole number -/
theorem parse_n1 (s : ByteArray) (aF aZ : Addr) (w : World) (hs : s.size ≤ 200000) (hE : Er w aF aZ) (h1 : stroke s.data.toList = false) (h2 : wh s = false) :
    Calls Tryz.prog 69 #[.string s] w fun e w' => e = .returned (.tuple #[none2, fault s aF]) ∧ Below w.heap.size w w' := by
  have HS : Hid _ := hs
  have HZ : Hid _ := hE
  have HE : Hid _ := hE.more (.cells #[.string ⟨#[]⟩, .string ⟨#[]⟩] 96)
  clear hE
  have H1 : Hid _ := h1
  have H2 : Hid _ := h2
  have HL : Hid (s.size ≤ s.size) := Nat.le_refl _
  have HA : Hid (bt (ahead s.data.toList) = s) := by unfold Hid; rw [ahead_none (none_of h1), bt_of]
  clear hs h1 h2
  go_enter Tryz.func69, Tryz.ntmps69
  go_wp2_with fail
  refine (cut_any s _ (by have := HS.out; omega)).mono ?_
  rintro e w1 ⟨rfl, k1⟩
  rw [HA.out, H1.out]
  go_wp2_with fail
  refine (Rightw_is s _ (by have := HS.out; have := HL.out; omega)).mono ?_
  rintro e w2 ⟨rfl, k2⟩
  rw [H2.out]
  have kk := bl_trans k1 k2
  have hF := (HE.out.below kk).f
  obtain ⟨o1, o2, o3⟩ := own1 kk
  have hF2 := (HZ.out.below ((o3.setCell (p := ⟨w.heap.size, 0, none⟩) (Nat.le_refl _) (.string ⟨#[]⟩)).setCell (p := ⟨w.heap.size, 1, none⟩) (Nat.le_refl _) (.string ⟨#[]⟩))).f
  have c0 := o1 0
  have c1 := o1 1
  have f0 := o2 0
  have f1 := o2 1
  have HB : Hid _ := o3
  clear o1 o2 o3 kk
  simp at c0 c1
  clear k1 k2
  go_wp2_with fail
  go_region
  all_goals go_wp2
  all_goals refine bodyPost_ret (v := .tuple #[none2, fault s aF]) (by simp [results, Tryz.results69, go_sem, c0, c1]) rfl ⟨rfl, ?_⟩
  all_goals repeat' (first | exact HB.out | apply bl_drew | refine Below.setCell ?_ (by simp) _)

set_option maxHeartbeats 4000000 in
/-- no whole number ahead of the stroke -/
theorem parse_n2 (s : ByteArray) (aF aZ : Addr) (w : World) (hs : s.size ≤ 200000) (hE : Er w aF aZ) (h1 : stroke s.data.toList = true) (h2 : wh (bt (ahead s.data.toList)) = false) :
    Calls Tryz.prog 69 #[.string s] w fun e w' => e = .returned (.tuple #[none2, fault s aF]) ∧ Below w.heap.size w w' := by
  have HS : Hid _ := hs
  have HZ : Hid _ := hE
  have HE : Hid _ := hE.more (.cells #[.string ⟨#[]⟩, .string ⟨#[]⟩] 96)
  clear hE
  have H1 : Hid _ := h1
  have HL : Hid _ := ahead_le s
  have H2 : Hid _ := h2
  clear hs h1 h2
  go_enter Tryz.func69, Tryz.ntmps69
  go_wp2_with fail
  refine (cut_any s _ (by have := HS.out; omega)).mono ?_
  rintro e w1 ⟨rfl, k1⟩
  rw [H1.out]
  go_wp2_with fail
  refine (Rightw_is (bt (ahead s.data.toList)) _ (by have := HS.out; have := HL.out; omega)).mono ?_
  rintro e w2 ⟨rfl, k2⟩
  rw [H2.out]
  have kk := bl_trans k1 k2
  have hF := (HE.out.below kk).f
  obtain ⟨o1, o2, o3⟩ := own1 kk
  have hF2 := (HZ.out.below ((o3.setCell (p := ⟨w.heap.size, 0, none⟩) (Nat.le_refl _) (.string ⟨#[]⟩)).setCell (p := ⟨w.heap.size, 1, none⟩) (Nat.le_refl _) (.string ⟨#[]⟩))).f
  have c0 := o1 0
  have c1 := o1 1
  have f0 := o2 0
  have f1 := o2 1
  have HB : Hid _ := o3
  clear o1 o2 o3 kk
  simp at c0 c1
  clear k1 k2
  go_wp2_with fail
  go_region
  all_goals go_wp2
  all_goals refine bodyPost_ret (v := .tuple #[none2, fault s aF]) (by simp [results, Tryz.results69, go_sem, c0, c1]) rfl ⟨rfl, ?_⟩
  all_goals repeat' (first | exact HB.out | apply bl_drew | refine Below.setCell ?_ (by simp) _)

set_option maxHeartbeats 4000000 in
/-- no natural above 1 behind the stroke -/
theorem parse_n3 (s : ByteArray) (aF aZ : Addr) (w : World) (hs : s.size ≤ 200000) (hE : Er w aF aZ) (h1 : stroke s.data.toList = true) (h2 : wh (bt (ahead s.data.toList)) = true) (h3 : (rt (behind s.data.toList) && decide (1 < dv (behind s.data.toList))) = false) :
    Calls Tryz.prog 69 #[.string s] w fun e w' => e = .returned (.tuple #[none2, fault s aF]) ∧ Below w.heap.size w w' := by
  have HS : Hid _ := hs
  have HZ : Hid _ := hE
  have HE : Hid _ := hE.more (.cells #[.string ⟨#[]⟩, .string ⟨#[]⟩] 96)
  clear hE
  have H1 : Hid _ := h1
  have HL : Hid _ := ahead_le s
  have HM : Hid _ := behind_le s
  have H2 : Hid _ := h2
  have H3 : Hid _ := h3
  clear hs h1 h2 h3
  go_enter Tryz.func69, Tryz.ntmps69
  go_wp2_with fail
  refine (cut_any s _ (by have := HS.out; omega)).mono ?_
  rintro e w1 ⟨rfl, k1⟩
  rw [H1.out]
  go_wp2_with fail
  refine (Rightw_is (bt (ahead s.data.toList)) _ (by have := HS.out; have := HL.out; omega)).mono ?_
  rintro e w2 ⟨rfl, k2⟩
  rw [H2.out]
  go_wp2_with fail
  refine (aboveOne_any (behind s.data.toList) _ (by have := HS.out; have := HM.out; omega)).mono ?_
  rintro e w3 ⟨rfl, rfl⟩
  rw [H3.out]
  have kk := bl_trans k1 k2
  have hF := (HE.out.below kk).f
  obtain ⟨o1, o2, o3⟩ := own1 kk
  have hF2 := (HZ.out.below ((o3.setCell (p := ⟨w.heap.size, 0, none⟩) (Nat.le_refl _) (.string ⟨#[]⟩)).setCell (p := ⟨w.heap.size, 1, none⟩) (Nat.le_refl _) (.string ⟨#[]⟩))).f
  have c0 := o1 0
  have c1 := o1 1
  have f0 := o2 0
  have f1 := o2 1
  have HB : Hid _ := o3
  clear o1 o2 o3 kk
  simp at c0 c1
  clear k1 k2
  go_wp2_with fail
  go_region
  all_goals go_wp2
  all_goals refine bodyPost_ret (v := .tuple #[none2, fault s aF]) (by simp [results, Tryz.results69, go_sem, c0, c1]) rfl ⟨rfl, ?_⟩
  all_goals repeat' (first | exact HB.out | apply bl_drew | refine Below.setCell ?_ (by simp) _)

set_option maxHeartbeats 4000000 in
/-- more could be divided -/
theorem parse_n4 (s : ByteArray) (aF aZ : Addr) (z : Int) (n : Nat) (w : World) (hs : s.size ≤ 200000) (hE : Er w aF aZ) (h1 : stroke s.data.toList = true) (h2 : bt (ahead s.data.toList) = W z) (h3 : bt (behind s.data.toList) = S n) (h4 : 1 < n) (h5 : Nat.gcd z.natAbs n ≠ 1) :
    Calls Tryz.prog 69 #[.string s] w fun e w' => e = .returned (.tuple #[none2, fault s aF]) ∧ Below w.heap.size w w' := by
  have HS : Hid _ := hs
  have HZ : Hid _ := hE
  have HE : Hid _ := hE.more (.cells #[.string ⟨#[]⟩, .string ⟨#[]⟩] 96)
  clear hE
  have H1 : Hid _ := h1
  have HL : Hid _ := ahead_le s
  have HM : Hid _ := behind_le s
  have HA : Hid _ := h2
  have HB' : Hid _ := h3
  have H2 : Hid (wh (W z) = true) := wh_W z
  have tz : tl z.natAbs ≤ 200000 := by have := tl_W z; have := HL.out; rw [h2] at this; omega
  have tn : tl n ≤ 200000 := by have := HM.out; rw [h3, S_size] at this; omega
  have HQ : Hid (sz (W z) = S z.natAbs) := sz_W z
  have HWs : Hid ((W z).size ≤ 200000) := by have := HL.out; rw [h2] at this; unfold Hid; omega
  have HAb : Hid (rt (behind s.data.toList) = true ∧ dv (behind s.data.toList) = n) := by
    have e := congrArg (fun b : ByteArray => b.data.toList) h3
    simp only [bt_data, S_data] at e
    unfold Hid; rw [e]; exact ⟨rt_tx n, dv_tx n⟩
  have H4 : Hid _ := h4
  have hq : ((S (Nat.gcd z.natAbs n)).toList == [49]) = false := is1 h5
  clear hs h1 h2 h3 h4 h5
  go_enter Tryz.func69, Tryz.ntmps69
  go_wp2_with fail
  refine (cut_any s _ (by have := HS.out; omega)).mono ?_
  rintro e w1 ⟨rfl, k1⟩
  rw [H1.out, HA.out]
  go_wp2_with fail
  refine (Rightw_is (W z) _ (by have := HWs.out; omega)).mono ?_
  rintro e w2 ⟨rfl, k2⟩
  rw [H2.out]
  go_wp2_with fail
  refine (aboveOne_any (behind s.data.toList) _ (by have := HS.out; have := HM.out; omega)).mono ?_
  rintro e w3 ⟨rfl, rfl⟩
  rw [HAb.out.1, HAb.out.2, decide_eq_true H4.out, HB'.out]
  go_wp2_with fail
  refine (size_any (W z) _ (by have := HWs.out; omega)).mono ?_
  rintro e w3 ⟨rfl, rfl⟩
  rw [HQ.out]
  go_wp2_with fail
  refine (gcd_S z.natAbs n _ (by omega) (by omega)).mono ?_
  rintro e w4 ⟨rfl, k4⟩
  generalize S (Nat.gcd z.natAbs n) = G at *
  have kk := bl_trans (bl_trans k1 k2) k4
  have hF := (HE.out.below kk).f
  obtain ⟨o1, o2, o3⟩ := own1 kk
  have hF2 := (HZ.out.below ((o3.setCell (p := ⟨w.heap.size, 0, none⟩) (Nat.le_refl _) (.string ⟨#[]⟩)).setCell (p := ⟨w.heap.size, 1, none⟩) (Nat.le_refl _) (.string ⟨#[]⟩))).f
  have c0 := o1 0
  have c1 := o1 1
  have f0 := o2 0
  have f1 := o2 1
  have HB : Hid _ := o3
  clear o1 o2 o3 kk
  simp at c0 c1
  clear k1 k2 k4
  go_wp2_with fail
  go_region
  all_goals go_wp2
  all_goals refine bodyPost_ret (v := .tuple #[none2, fault s aF]) (by simp [results, Tryz.results69, go_sem, c0, c1]) rfl ⟨rfl, ?_⟩
  all_goals repeat' (first | exact HB.out | apply bl_drew | refine Below.setCell ?_ (by simp) _)

set_option maxHeartbeats 4000000 in
/-- a whole number by a natural -/
theorem parse_y2 (s : ByteArray) (z : Int) (n : Nat) (w : World) (hs : s.size ≤ 200000) (h1 : stroke s.data.toList = true) (h2 : bt (ahead s.data.toList) = W z) (h3 : bt (behind s.data.toList) = S n) (h4 : 1 < n) (h5 : Nat.gcd z.natAbs n = 1) :
    Calls Tryz.prog 69 #[.string s] w fun e w' => e = .returned (.tuple #[.agg #[.string (W z), .string (S n)], .nilIface]) ∧ Below w.heap.size w w' := by
  have HS : Hid _ := hs
  have H1 : Hid _ := h1
  have HL : Hid _ := ahead_le s
  have HM : Hid _ := behind_le s
  have HA : Hid _ := h2
  have HB' : Hid _ := h3
  have H2 : Hid (wh (W z) = true) := wh_W z
  have tz : tl z.natAbs ≤ 200000 := by have := tl_W z; have := HL.out; rw [h2] at this; omega
  have tn : tl n ≤ 200000 := by have := HM.out; rw [h3, S_size] at this; omega
  have HQ : Hid (sz (W z) = S z.natAbs) := sz_W z
  have HWs : Hid ((W z).size ≤ 200000) := by have := HL.out; rw [h2] at this; unfold Hid; omega
  have HAb : Hid (rt (behind s.data.toList) = true ∧ dv (behind s.data.toList) = n) := by
    have e := congrArg (fun b : ByteArray => b.data.toList) h3
    simp only [bt_data, S_data] at e
    unfold Hid; rw [e]; exact ⟨rt_tx n, dv_tx n⟩
  have H4 : Hid _ := h4
  have H5 : Hid _ := h5
  clear hs h1 h2 h3 h4 h5
  go_enter Tryz.func69, Tryz.ntmps69
  go_wp2_with fail
  refine (cut_any s _ (by have := HS.out; omega)).mono ?_
  rintro e w1 ⟨rfl, k1⟩
  rw [H1.out, HA.out]
  go_wp2_with fail
  refine (Rightw_is (W z) _ (by have := HWs.out; omega)).mono ?_
  rintro e w2 ⟨rfl, k2⟩
  rw [H2.out]
  go_wp2_with fail
  refine (aboveOne_any (behind s.data.toList) _ (by have := HS.out; have := HM.out; omega)).mono ?_
  rintro e w3 ⟨rfl, rfl⟩
  rw [HAb.out.1, HAb.out.2, decide_eq_true H4.out, HB'.out]
  go_wp2_with fail
  refine (size_any (W z) _ (by have := HWs.out; omega)).mono ?_
  rintro e w3 ⟨rfl, rfl⟩
  rw [HQ.out]
  go_wp2_with fail
  refine (gcd_S z.natAbs n _ (by omega) (by omega)).mono ?_
  rintro e w4 ⟨rfl, k4⟩
  rw [H5.out, S1]
  have kk := bl_trans (bl_trans k1 k2) k4
  obtain ⟨o1, o2, o3⟩ := own1 kk
  have c0 := o1 0
  have c1 := o1 1
  have f0 := o2 0
  have f1 := o2 1
  have HB : Hid _ := o3
  clear o1 o2 o3 kk
  simp at c0 c1
  clear k1 k2 k4
  go_wp2
  refine bodyPost_ret (v := .tuple #[.agg #[.string (W z), .string (S n)], .nilIface]) (by simp [results, Tryz.results69, go_sem, c0, c1]) rfl ⟨rfl, ?_⟩
  repeat' (first | exact HB.out | apply bl_drew | refine Below.setCell ?_ (by simp) _)

set_option maxHeartbeats 4000000 in
/-- a whole number -/
theorem parse_y1 (z : Int) (w : World) (hs : (W z).size ≤ 200000) :
    Calls Tryz.prog 69 #[.string (W z)] w fun e w' => e = .returned (.tuple #[.agg #[.string (W z), .string ⟨#[49]⟩], .nilIface]) ∧ Below w.heap.size w w' := by
  have h1 : stroke (W z).data.toList = false := stroke_none (no47_W z)
  have H1 : Hid _ := h1
  have HA : Hid (bt (ahead (W z).data.toList) = W z) := by unfold Hid; rw [ahead_none (none_of h1), bt_of]
  have H2 : Hid (wh (W z) = true) := wh_W z
  have HQ : Hid (sz (W z) = S z.natAbs) := sz_W z
  have tz : tl z.natAbs ≤ 200000 := by have := tl_W z; omega
  have HS : Hid _ := hs
  have EG : ∀ v : World, Calls Tryz.prog 83 #[.string (S z.natAbs), .string ⟨#[49]⟩] v fun e w' => e = .returned (.string ⟨#[49]⟩) ∧ Below v.heap.size v w' := fun v => by
    have := gcd_S z.natAbs 1 v (by omega) (by decide)
    rw [Nat.gcd_one_right, S1] at this; exact this
  clear hs h1
  go_enter Tryz.func69, Tryz.ntmps69
  go_wp2_with fail
  refine (cut_any (W z) _ (by have := HS.out; omega)).mono ?_
  rintro e w1 ⟨rfl, k1⟩
  rw [H1.out, HA.out]
  go_wp2_with fail
  refine (Rightw_is (W z) _ (by have := HS.out; omega)).mono ?_
  rintro e w2 ⟨rfl, k2⟩
  rw [H2.out]
  go_wp2_with fail
  refine (size_any (W z) _ (by have := HS.out; omega)).mono ?_
  rintro e w3 ⟨rfl, rfl⟩
  rw [HQ.out]
  go_wp2_with fail
  refine (EG _).mono ?_
  rintro e w4 ⟨rfl, k4⟩
  have kk := bl_trans (bl_trans k1 k2) k4
  obtain ⟨o1, o2, o3⟩ := own1 kk
  have c0 := o1 0
  have c1 := o1 1
  have f0 := o2 0
  have f1 := o2 1
  have HB : Hid _ := o3
  clear o1 o2 o3 kk
  simp at c0 c1
  clear k1 k2 k4
  go_wp2
  refine bodyPost_ret (v := .tuple #[.agg #[.string (W z), .string ⟨#[49]⟩], .nilIface]) (by simp [results, Tryz.results69, go_sem, c0, c1]) rfl ⟨rfl, ?_⟩
  repeat' (first | exact HB.out | apply bl_drew | refine Below.setCell ?_ (by simp) _)

/-- a rational -/
theorem parse_R (r : Rat) (w : World) (hr : (R r).size ≤ 200000) :
    Calls Tryz.prog 69 #[.string (R r)] w fun e w' => e = .returned (.tuple #[fr r, .nilIface]) ∧ Below w.heap.size w w' := by
  by_cases h : r.den = 1
  · have := parse_y1 r.num w (by rw [R_one h] at hr; exact hr)
    show Calls Tryz.prog 69 #[.string (R r)] w fun e w' => e = .returned (.tuple #[.agg #[.string (W r.num), .string (S r.den)], .nilIface]) ∧ Below w.heap.size w w'
    rw [R_one h, h, S1]; exact this
  · have e := R_more h
    refine parse_y2 (R r) r.num r.den w hr ?_ ?_ ?_ (by have := den_gt r; omega) r.reduced
    · rw [e]; exact stroke_app _ _
    · rw [e, ahead_app (no47_W _), bt_of]
    · rw [e, behind_app (no47_W _), S_bt (rt_tx _), dv_tx]
/-- no rational -/
theorem parse_not (s : ByteArray) (aF aZ : Addr) (w : World) (hs : s.size ≤ 200000) (hE : Er w aF aZ) (h : ra s = false) :
    Calls Tryz.prog 69 #[.string s] w fun e w' => e = .returned (.tuple #[none2, fault s aF]) ∧ Below w.heap.size w w' := by
  unfold ra at h
  cases h1 : stroke s.data.toList with
  | false => rw [h1] at h; exact parse_n1 s aF aZ w hs hE h1 (by simpa using h)
  | true =>
    rw [h1] at h
    simp only [if_true] at h
    cases h2 : wh (bt (ahead s.data.toList)) with
    | false => exact parse_n2 s aF aZ w hs hE h1 h2
    | true =>
      rw [h2, Bool.true_and] at h
      cases h3 : (rt (behind s.data.toList) && decide (1 < dv (behind s.data.toList))) with
      | false => exact parse_n3 s aF aZ w hs hE h1 h2 h3
      | true =>
        rw [← Bool.and_assoc, h3, Bool.true_and] at h
        obtain ⟨z, ez⟩ := W_of h2
        rw [ez, szn_W] at h
        rw [Bool.and_eq_true, decide_eq_true_eq] at h3
        exact parse_n4 s aF aZ z (dv (behind s.data.toList)) w hs hE h1 ez (S_bt h3.1) h3.2 (of_decide_eq_false h)
end
end Go.Proofs.YtadgnafafdfioaaGreatDoor
namespace Go.Proofs.YtadgnafafdfioaaGreatDoor
section
set_option maxRecDepth 100000
open Go.RowKit Nm
set_option linter.unusedVariables false

theorem cell_set {u : World} {p a : Addr} {x : Value} (h : a.block ≠ p.block) : (u.setCell p x).cell? a = u.cell? a := by
  unfold World.cell?; rw [Below.heap_setCell _ _ _ _ h]

end
end Go.Proofs.YtadgnafafdfioaaGreatDoor
