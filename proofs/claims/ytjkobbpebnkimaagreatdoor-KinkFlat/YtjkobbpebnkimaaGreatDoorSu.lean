/-
  SUMS: what a call of tensor.Sum gives. Conditions: sizes.
-/
import Derived.Test.YtjkobbpebnkimaaGreatDoorSc
namespace Go.Proofs.YtjkobbpebnkimaaGreatDoor.Tn
set_option maxRecDepth 100000
open Go.RowKit Nm
set_option linter.unusedVariables false

theorem mapR_at (qs : List Rat) {i : Nat} (h : i < qs.length) : (qs.map R).getD i ByteArray.empty = R (qs.getD i 0) := by simp [List.getD, h]
theorem mapR_len (qs : List Rat) : (qs.map R).length = qs.length := by simp
theorem take_snoc (qs : List Rat) {k : Nat} (h : k < qs.length) : qs.take (k + 1) = qs.take k ++ [qs.getD k 0] := by
  rw [List.take_succ_eq_append_getElem h]; simp [List.getD, h]

set_option maxHeartbeats 2000000 in
theorem sum_no (n1 c1 d1 m1 : Nat) (a1 b1 : Option Addr) (w : World)
    (hR1 : ∀ v, Below w.heap.size w v → Calls Tryz.prog 30 #[.agg #[.slice a1 m1 c1, .slice b1 n1 d1]] v fun e w' => e = .returned (.bool false) ∧ Below v.heap.size v w') :
    Calls Tryz.prog 28 #[.agg #[.slice a1 m1 c1, .slice b1 n1 d1]] w fun e w' => e = .returned (.tuple #[.string ⟨#[]⟩, .int .i64 1]) ∧ Below w.heap.size w w' := by
  have HB : Hid _ := (Below.refl w.heap.size w).alloc (Nat.le_refl _) (.cells #[.slice a1 m1 c1, .slice b1 n1 d1] 25)
  go_enter Tryz.func28, Tryz.ntmps28
  go_wp2_with fail
  refine (hR1 _ HB.out).mono ?_
  rintro e w1 ⟨rfl, hb⟩
  have HC : Hid _ := bl_trans HB.out hb
  clear hb
  go_wp2
  go_ret2
  exact ⟨rfl, HC.out⟩

set_option maxHeartbeats 2000000 in
theorem sum_yes (c1 d1 m1 : Nat) (a1 b1 : Option Addr) (qs : List Rat) (w : World) (hr : Row w b1 (txts (qs.map R))) (hn : qs.length ≤ 1000)
    (hs : ∀ k, k ≤ qs.length → (R (tot (qs.take k))).size ≤ 50000) (hq : ∀ k, k < qs.length → (R (qs.getD k 0)).size ≤ 50000)
    (hR1 : ∀ v, Below w.heap.size w v → Calls Tryz.prog 30 #[.agg #[.slice a1 m1 c1, .slice b1 (qs.map R).length d1]] v fun e w' => e = .returned (.bool true) ∧ Below v.heap.size v w') :
    Calls Tryz.prog 28 #[.agg #[.slice a1 m1 c1, .slice b1 (qs.map R).length d1]] w fun e w' => e = .returned (.tuple #[.string (R (tot qs)), .int .i64 0]) ∧ Below w.heap.size w w' := by
  have HRow : Hid _ := fun (v : World) (hb : Below w.heap.size w v) i (h : i < qs.length) => row_str (hr.below hb) (i := i) (by rw [mapR_len]; exact h)
  have HS : Hid _ := hs
  have HQ : Hid _ := hq
  rw [mapR_len] at hR1 ⊢
  obtain ⟨n, hn'⟩ : ∃ n, qs.length = n := ⟨_, rfl⟩
  rw [hn'] at HRow HS HQ hR1 hn ⊢
  have HL : Hid _ := hn'
  obtain ⟨Z, hZ⟩ : ∃ Z, R (tot qs) = Z := ⟨_, rfl⟩
  rw [hZ]
  have HZ : Hid _ := hZ
  clear hZ
  have HB : Hid _ := (Below.refl w.heap.size w).alloc (Nat.le_refl _) (.cells #[.slice a1 m1 c1, .slice b1 n d1] 25)
  clear hr hs hq hn'
  go_enter Tryz.func28, Tryz.ntmps28
  go_wp2_with fail
  refine (hR1 _ HB.out).mono ?_
  rintro e w1 ⟨rfl, hb⟩
  have ho := own1 (hb.trans (Below.refl _ _))
  have k1 := ho.1 1
  have HC : Hid _ := ho.2.2
  clear hb ho HB hR1
  simp only [List.getElem?_toArray, List.getElem?_cons_succ, List.getElem?_cons_zero] at k1
  go_wp2_with fail
  go_loopw [4, 6, 13] (fun t _ i wr => ∃ k : Nat, k ≤ n ∧ i = .int .i64 k ∧ t = .string (R (tot (qs.take k))) ∧ Below w.heap.size w wr) (fun _ _ i _ => n - (intOf i).toNat)
  case atStart => exact ⟨0, by omega, rfl, by rw [List.take_zero, tot_nil]; exact congrArg Value.string (show (⟨#[48]⟩ : ByteArray) = R 0 by decide +kernel), HC.out⟩
  case round =>
    obtain ⟨k, hk, rfl, rfl, hb⟩ := hrel
    by_cases h : k < n
    · obtain ⟨b, off, rfl, hc⟩ := HRow.out wr hb k h
      rw [mapR_at qs (by rw [HL.out]; exact h)] at hc
      have hA := Add_R (tot (qs.take k)) (qs.getD k 0) wr (HS.out k (by omega)) (HQ.out k h)
      have e1 : tot (qs.take k) + qs.getD k 0 = tot (qs.take (k + 1)) := by rw [take_snoc qs (by rw [HL.out]; exact h), tot_snoc]
      rw [e1] at hA
      have HD : Hid _ := hb
      clear hb e1 HC k1
      generalize R (tot (qs.take k)) = t at *
      generalize R (qs.getD k 0) = x at *
      obtain ⟨u, hu⟩ : ∃ u, R (tot (qs.take (k + 1))) = u := ⟨_, rfl⟩
      rw [hu] at hA
      have HU : Hid _ := hu
      clear hu
      go_wp2_with fail
      refine hA.mono ?_
      rintro e w2 ⟨rfl, hb2⟩
      have H2 : Hid _ := bl_trans HD.out hb2
      clear hb2 hA hc
      go_wp2
      go_roundw
      case rel => exact ⟨k + 1, by omega, by go_num, by rw [HU.out], H2.out⟩
      case measure => simp [intOf]; omega
    · have HD : Hid _ := hb
      clear hb k1 HC
      have ek : tot (qs.take k) = tot qs := by rw [List.take_of_length_le (by rw [HL.out]; omega)]
      rw [ek, HZ.out]
      go_wp2
      go_ret2
      exact ⟨rfl, HD.out⟩
end Go.Proofs.YtjkobbpebnkimaaGreatDoor.Tn
