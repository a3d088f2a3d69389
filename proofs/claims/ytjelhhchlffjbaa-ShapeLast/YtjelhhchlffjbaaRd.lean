/-
  WHAT A CALL OF EACH FUNCTION GIVES THAT ONLY READS: sizes, whether two are the same, counts. Conditions: each theorem's own.
-/
import Derived.Test.YtjelhhchlffjbaaRows
import Derived.Test.YtjelhhchlffjbaaSl
import Derived.WalkKit
import Derived.WalkSpells
import Derived.WalkLawsBesides
import Derived.BigRegion
namespace Go.Proofs.Ytjelhhchlffjbaa
set_option maxRecDepth 100000
open Go.RowKit
set_option linter.unusedVariables false

theorem ret_int {k : IntKind} {a b : Int} (h : a = b) : Ending.returned (.int k a) = .returned (.int k b) := by rw [h]
theorem ret_bool {a b : Bool} (h : a = b) : Ending.returned (.bool a) = .returned (.bool b) := by rw [h]

set_option maxHeartbeats 1000000 in
theorem size_any (ao : Option Addr) (zs : List Int) (cap : Nat) (w : World) (hl : zs.length ≤ 1000) (hS : Sl w ao zs) :
    Calls Try.prog 14 #[.slice ao zs.length cap] w fun e w' => e = .returned (.int .i64 (szI zs : Nat)) ∧ w' = w := by
  by_cases h4 : 4 < zs.length
  · have hno : szI zs = 0 := szI_no fun c => by have := c.out.1; omega
    rw [hno]
    go_enter Try.func14, Try.ntmps14
    go_wp2
    go_ret
    exact ⟨rfl, rfl⟩
  · go_enter Try.func14, Try.ntmps14
    go_wp2
    go_loop [3, 5, 11] (fun p x i => ∃ k q : Nat, k ≤ zs.length ∧ i = .int .i64 k ∧ p = .int .i64 q ∧ 1 ≤ q ∧ q ≤ 64 ∧ q = shz (nats (zs.take k)) ∧ Pf zs k) (fun _ _ i => zs.length - (intOf i).toNat)
    case atStart => exact ⟨0, 1, by omega, rfl, rfl, by omega, by omega, by simp [nats, shz], Pf.zero zs⟩
    case round =>
      obtain ⟨k, q, hk, rfl, rfl, q1, q2, hq, hp⟩ := hrel
      have HQ : Hid (q = shz (nats (zs.take k)) ∧ Pf zs k) := ⟨hq, hp⟩
      clear hq hp
      by_cases h : k < zs.length
      · obtain ⟨b, off, rfl, hc⟩ := hS k h
        obtain ⟨z, hz⟩ : ∃ z, zs.getD k 0 = z := ⟨_, rfl⟩
        rw [hz] at hc
        have HZ : Hid (zs.getD k 0 = z) := hz
        clear hz hS
        by_cases h1 : z < 1
        · go_wp2
          go_ret
          refine ⟨ret_int ?_, rfl⟩
          rw [szI_no fun c => by have := (c.at h).1; rw [HZ.out] at this; omega]; rfl
        · have hqd : (64 : Int).tdiv q = ((64 / q : Nat) : Int) := by rw [Int.tdiv_eq_ediv_of_nonneg (by omega)]; rfl
          obtain ⟨d, hd⟩ : ∃ d : Nat, 64 / q = d := ⟨_, rfl⟩
          have hd64 : d ≤ 64 := by rw [← hd]; exact Nat.div_le_self _ _
          have HD : Hid (64 / q = d) := hd
          rw [hd] at hqd
          have hq0 : ¬ (q : Int) = 0 := by omega
          clear hd
          by_cases h2 : (d : Int) < z
          · go_wp2
            go_ret
            refine ⟨ret_int ?_, rfl⟩
            rw [szI_no fun c => by
              have c2 := (c.at h).2
              rw [HZ.out, ← HQ.out.1] at c2
              have : z.toNat ≤ 64 / q := (Nat.le_div_iff_mul_le (by omega)).2 (by rw [Nat.mul_comm]; exact c2)
              rw [HD.out] at this
              omega]
            rfl
          · have hm : q * z.toNat ≤ 64 := by
              have : z.toNat ≤ 64 / q := by rw [HD.out]; omega
              have := (Nat.le_div_iff_mul_le (by omega)).1 this
              rw [Nat.mul_comm]; exact this
            have hm2 : (q : Int) * z = ((q * z.toNat : Nat) : Int) := by rw [Int.natCast_mul, Int.toNat_of_nonneg (by omega)]
            have hm3 : 1 ≤ q * z.toNat := Nat.mul_pos (by omega) (by omega)
            obtain ⟨m, hm4⟩ : ∃ m, q * z.toNat = m := ⟨_, rfl⟩
            rw [hm4] at hm hm2 hm3
            have HM : Hid (q * z.toNat = m) := hm4
            clear hm4
            go_wp2
            go_round
            case rel =>
              refine ⟨k + 1, m, by omega, by go_num, rfl, hm3, hm, ?_, ?_⟩
              · rw [size_more zs k h, HZ.out, ← HQ.out.1]; exact HM.out.symm
              · exact HQ.out.2.next h (by rw [HZ.out]; omega) (by rw [HZ.out, ← HQ.out.1, HM.out]; exact hm)
            case measure => simp [intOf]; omega
      · go_wp2
        go_ret
        refine ⟨ret_int ?_, rfl⟩
        obtain ⟨e1, e2⟩ := HQ.out
        have e3 : k = zs.length := by omega
        subst e3
        rw [szI_of (Rgt.of (by omega) e2), e1, List.take_length]

set_option maxHeartbeats 400000 in
theorem right_any (ao : Option Addr) (zs : List Int) (cap : Nat) (w : World) (hl : zs.length ≤ 1000) (hS : Sl w ao zs) :
    Calls Try.prog 13 #[.slice ao zs.length cap] w fun e w' => e = .returned (.bool (decide (Rgt zs))) ∧ w' = w := by
  have hc := size_any ao zs cap w hl hS
  have hp := szI_pos zs
  obtain ⟨d, hd⟩ : ∃ d, decide (Rgt zs) = d := ⟨_, rfl⟩
  rw [hd]
  have HD : Hid _ := hd
  have HP : Hid _ := hp
  clear hd
  obtain ⟨n, hn⟩ : ∃ n, szI zs = n := ⟨_, rfl⟩
  rw [hn] at hc HP
  clear hp
  go_enter Try.func13, Try.ntmps13
  go_wp2_with fail
  refine hc.mono ?_
  rintro e w1 ⟨rfl, rfl⟩
  by_cases h : 0 < n
  · have h' : (0 : Int) < n := by omega
    go_wp2
    go_ret
    exact ⟨ret_bool (by rw [← HD.out]; exact (decide_eq_true (HP.out.1 h)).symm), rfl⟩
  · have h' : ¬ (0 : Int) < n := by omega
    go_wp2
    go_ret
    exact ⟨ret_bool (by rw [← HD.out]; exact (decide_eq_false (mt HP.out.2 h)).symm), rfl⟩

set_option maxHeartbeats 1000000 in
theorem refRight_any (ao : Option Addr) (zs : List Int) (cap : Nat) (w : World) (hl : zs.length ≤ 1000) (hS : Sl w ao zs) :
    Calls Try.prog 11 #[.slice ao zs.length cap] w fun e w' => e = .returned (.bool (decide (Rgt zs))) ∧ w' = w := by
  by_cases h4 : 4 < zs.length
  · have hno : ¬ Rgt zs := fun c => by have := c.out.1; omega
    rw [decide_eq_false hno]
    clear hno
    go_enter Try.func11, Try.ntmps11
    go_wp2
    go_ret
    exact ⟨rfl, rfl⟩
  · go_enter Try.func11, Try.ntmps11
    go_wp2
    go_loop [3, 4] (fun p i => ∃ k q : Nat, k ≤ zs.length ∧ i = .int .i64 k ∧ p = .int .i64 q ∧ 1 ≤ q ∧ q ≤ 64 ∧ q = shz (nats (zs.take k)) ∧ Pf zs k) (fun _ i => zs.length - (intOf i).toNat)
    case atStart => exact ⟨0, 1, by omega, rfl, rfl, by omega, by omega, by simp [nats, shz], Pf.zero zs⟩
    case round =>
      obtain ⟨k, q, hk, rfl, rfl, q1, q2, hq, hp⟩ := hrel
      have HQ : Hid (q = shz (nats (zs.take k)) ∧ Pf zs k) := ⟨hq, hp⟩
      clear hq hp
      by_cases h : k < zs.length
      · obtain ⟨b, off, rfl, hc⟩ := hS k h
        obtain ⟨z, hz⟩ : ∃ z, zs.getD k 0 = z := ⟨_, rfl⟩
        rw [hz] at hc
        have HZ : Hid (zs.getD k 0 = z) := hz
        clear hz hS
        by_cases h1 : z < 1
        · go_wp2
          go_ret
          refine ⟨ret_bool ?_, rfl⟩
          simpa using (fun c => by have := (c.at h).1; rw [HZ.out] at this; omega : ¬ Rgt zs)
        · by_cases h64 : 64 < z
          · go_wp2
            go_ret
            refine ⟨ret_bool ?_, rfl⟩
            simpa using (fun c => by
              have := (c.at h).2
              rw [HZ.out, ← HQ.out.1] at this
              have := Nat.le_mul_of_pos_left z.toNat (show 0 < q by omega)
              omega : ¬ Rgt zs)
          · have hm2 : (q : Int) * z = ((q * z.toNat : Nat) : Int) := by rw [Int.natCast_mul, Int.toNat_of_nonneg (by omega)]
            have hm3 : 1 ≤ q * z.toNat := Nat.mul_pos (by omega) (by omega)
            have hm5 : q * z.toNat ≤ 64 * 64 := Nat.mul_le_mul q2 (by omega)
            obtain ⟨m, hm4⟩ : ∃ m, q * z.toNat = m := ⟨_, rfl⟩
            rw [hm4] at hm5 hm2 hm3
            have HM : Hid (q * z.toNat = m) := hm4
            clear hm4
            by_cases h2 : 64 < m
            · have h2' : (64 : Int) < m := by omega
              go_wp2
              go_ret
              refine ⟨ret_bool ?_, rfl⟩
              simpa using (fun c => by
                have := (c.at h).2
                rw [HZ.out, ← HQ.out.1, HM.out] at this
                omega : ¬ Rgt zs)
            · have h2' : ¬ (64 : Int) < m := by omega
              go_wp2
              go_round
              case rel =>
                refine ⟨k + 1, m, by omega, by go_num, rfl, hm3, by omega, ?_, ?_⟩
                · rw [size_more zs k h, HZ.out, ← HQ.out.1]; exact HM.out.symm
                · exact HQ.out.2.next h (by rw [HZ.out]; omega) (by rw [HZ.out, ← HQ.out.1, HM.out]; omega)
              case measure => simp [intOf]; omega
      · go_wp2
        go_ret
        refine ⟨ret_bool ?_, rfl⟩
        obtain ⟨e1, e2⟩ := HQ.out
        have e3 : k = zs.length := by omega
        subst e3
        simpa using Rgt.of (by omega) e2

set_option maxHeartbeats 1000000 in
theorem refSize_any (ao : Option Addr) (zs : List Int) (cap : Nat) (w : World) (hr : Rgt zs) (hS : Sl w ao zs) :
    Calls Try.prog 12 #[.slice ao zs.length cap] w fun e w' => e = .returned (.int .i64 (szI zs : Nat)) ∧ w' = w := by
  have h4 := hr.out.1
  have HR : Hid (Rgt zs) := hr
  clear hr
  go_enter Try.func12, Try.ntmps12
  go_wp2
  go_loop [3, 4] (fun p i => ∃ k q : Nat, k ≤ zs.length ∧ i = .int .i64 k ∧ p = .int .i64 q ∧ 1 ≤ q ∧ q ≤ 64 ∧ q = shz (nats (zs.take k))) (fun _ i => zs.length - (intOf i).toNat)
  case atStart => exact ⟨0, 1, by omega, rfl, rfl, by omega, by omega, by simp [nats, shz]⟩
  case round =>
    obtain ⟨k, q, hk, rfl, rfl, q1, q2, hq⟩ := hrel
    have HQ : Hid (q = shz (nats (zs.take k))) := hq
    clear hq
    by_cases h : k < zs.length
    · obtain ⟨b, off, rfl, hc⟩ := hS k h
      obtain ⟨z, hz⟩ : ∃ z, zs.getD k 0 = z := ⟨_, rfl⟩
      rw [hz] at hc
      have HZ : Hid (zs.getD k 0 = z) := hz
      have h1 := (HR.out.at h).1
      have hm := (HR.out.at h).2
      rw [hz] at h1 hm
      rw [← HQ.out] at hm
      clear hz hS
      have hm2 : (q : Int) * z = ((q * z.toNat : Nat) : Int) := by rw [Int.natCast_mul, Int.toNat_of_nonneg (by omega)]
      have hm3 : 1 ≤ q * z.toNat := Nat.mul_pos (by omega) (by omega)
      obtain ⟨m, hm4⟩ : ∃ m, q * z.toNat = m := ⟨_, rfl⟩
      rw [hm4] at hm hm2 hm3
      have HM : Hid (q * z.toNat = m) := hm4
      clear hm4
      go_wp2
      go_round
      case rel =>
        refine ⟨k + 1, m, by omega, by go_num, rfl, hm3, by omega, ?_⟩
        rw [size_more zs k h, HZ.out, ← HQ.out]; exact HM.out.symm
      case measure => simp [intOf]; omega
    · go_wp2
      go_ret
      refine ⟨ret_int ?_, rfl⟩
      have e3 : k = zs.length := by omega
      subst e3
      rw [szI_of HR.out, HQ.out, List.take_length]

set_option maxHeartbeats 1000000 in
theorem equal_any (a1 a2 : Option Addr) (xs ys : List Int) (c1 c2 : Nat) (w : World) (hl1 : xs.length ≤ 1000) (hl2 : ys.length ≤ 1000) (hS : Sl w a1 xs) (hT : Sl w a2 ys) :
    Calls Try.prog 20 #[.slice a1 xs.length c1, .slice a2 ys.length c2] w fun e w' => e = .returned (.bool (decide (xs = ys))) ∧ Sm w w' := by
  by_cases h0 : xs.length = ys.length
  · have hb : ((xs.length : Int) != ys.length) = false := by simp [h0]
    obtain ⟨n, hn⟩ : ∃ n, xs.length = n := ⟨_, rfl⟩
    have hm : ys.length = n := by omega
    have HN : Hid (xs.length = n ∧ ys.length = n) := ⟨hn, hm⟩
    have HS : Hid (Sl w a1 xs) := hS
    have HT : Hid (Sl w a2 ys) := hT
    rw [hn] at hl1
    rw [hn, hm]
    clear hn hm hS hT hl2 h0 hb
    go_enter Try.func20, Try.ntmps20
    go_wp2
    go_loopw [5, 13] (fun _ i wr => ∃ k : Nat, k ≤ n ∧ i = .int .i64 k ∧ (∀ j, j < k → xs.getD j 0 = ys.getD j 0) ∧ Sm w wr) (fun _ i _ => n - (intOf i).toNat)
    case atStart => exact ⟨0, by omega, rfl, fun j hj => by omega, Sm.refl _⟩
    case round =>
      obtain ⟨k, hk, rfl, hj, hs⟩ := hrel
      have HJ : Hid (∀ j, j < k → xs.getD j 0 = ys.getD j 0) := hj
      clear hj
      by_cases h : k < n
      · obtain ⟨b, off, rfl, hc⟩ := HS.out k (by rw [HN.out.1]; exact h)
        obtain ⟨b', off', rfl, hd⟩ := HT.out k (by rw [HN.out.2]; exact h)
        obtain ⟨x, hx⟩ : ∃ z, xs.getD k 0 = z := ⟨_, rfl⟩
        obtain ⟨y, hy⟩ : ∃ z, ys.getD k 0 = z := ⟨_, rfl⟩
        rw [hx, ← hs.cell] at hc
        rw [hy, ← hs.cell] at hd
        have HX : Hid (xs.getD k 0 = x ∧ ys.getD k 0 = y) := ⟨hx, hy⟩
        clear hx hy
        by_cases he : x = y
        · subst he
          go_wp2
          go_region
          go_wp2
          go_roundw
          case rel =>
            refine ⟨k + 1, by omega, by go_num, fun j hj => ?_, hs.trans (Sm.drew _)⟩
            by_cases e : j = k
            · rw [e, HX.out.1, HX.out.2]
            · exact HJ.out j (by omega)
          case measure => simp [intOf]; omega
        · have hne : (x != y) = true := by simp [he]
          go_wp2
          go_region
          go_wp2
          go_ret
          refine ⟨ret_bool ?_, hs.trans (Sm.drew _)⟩
          have : ¬ xs = ys := fun c => he (by rw [← HX.out.1, ← HX.out.2, c])
          simp [this]
      · go_wp2
        go_ret
        refine ⟨ret_bool ?_, hs⟩
        have : xs = ys := getD_ext (by rw [HN.out.1, HN.out.2]) (fun i hi => HJ.out i (by rw [HN.out.1] at hi; omega))
        simp [this]
  · have hb : ((xs.length : Int) != ys.length) = true := by simp; omega
    have hne : ¬ xs = ys := fun c => h0 (by rw [c])
    rw [decide_eq_false hne]
    clear hne h0
    go_enter Try.func20, Try.ntmps20
    go_wp2
    go_ret
    exact ⟨rfl, Sm.refl _⟩

set_option maxHeartbeats 1000000 in
theorem refSame_any (a1 a2 : Option Addr) (xs ys : List Int) (c1 c2 : Nat) (w : World) (hl1 : xs.length ≤ 1000) (hl2 : ys.length ≤ 1000) (hS : Sl w a1 xs) (hT : Sl w a2 ys) :
    Calls Try.prog 16 #[.slice a1 xs.length c1, .slice a2 ys.length c2] w fun e w' => e = .returned (.bool (decide (xs = ys))) ∧ Sm w w' := by
  by_cases h0 : xs.length = ys.length
  · have hb : ((xs.length : Int) != ys.length) = false := by simp [h0]
    obtain ⟨n, hn⟩ : ∃ n, xs.length = n := ⟨_, rfl⟩
    have hm : ys.length = n := by omega
    have HN : Hid (xs.length = n ∧ ys.length = n) := ⟨hn, hm⟩
    have HS : Hid (Sl w a1 xs) := hS
    have HT : Hid (Sl w a2 ys) := hT
    rw [hn] at hl1
    rw [hn, hm]
    clear hn hm hS hT hl2 h0 hb
    go_enter Try.func16, Try.ntmps16
    go_wp2
    go_loopw [5] (fun i wr => ∃ k : Nat, k ≤ n ∧ i = .int .i64 k ∧ (∀ j, j < k → xs.getD j 0 = ys.getD j 0) ∧ Sm w wr) (fun i _ => n - (intOf i).toNat)
    case atStart => exact ⟨0, by omega, rfl, fun j hj => by omega, Sm.refl _⟩
    case round =>
      obtain ⟨k, hk, rfl, hj, hs⟩ := hrel
      have HJ : Hid (∀ j, j < k → xs.getD j 0 = ys.getD j 0) := hj
      clear hj
      by_cases h : k < n
      · obtain ⟨b, off, rfl, hc⟩ := HS.out k (by rw [HN.out.1]; exact h)
        obtain ⟨b', off', rfl, hd⟩ := HT.out k (by rw [HN.out.2]; exact h)
        obtain ⟨x, hx⟩ : ∃ z, xs.getD k 0 = z := ⟨_, rfl⟩
        obtain ⟨y, hy⟩ : ∃ z, ys.getD k 0 = z := ⟨_, rfl⟩
        rw [hx, ← hs.cell] at hc
        rw [hy, ← hs.cell] at hd
        have HX : Hid (xs.getD k 0 = x ∧ ys.getD k 0 = y) := ⟨hx, hy⟩
        clear hx hy
        by_cases he : x = y
        · subst he
          go_wp2
          go_region
          go_wp2
          go_roundw
          case rel =>
            refine ⟨k + 1, by omega, by go_num, fun j hj => ?_, hs.trans (Sm.drew _)⟩
            by_cases e : j = k
            · rw [e, HX.out.1, HX.out.2]
            · exact HJ.out j (by omega)
          case measure => simp [intOf]; omega
        · have hne : (x != y) = true := by simp [he]
          go_wp2
          go_region
          go_wp2
          go_ret
          refine ⟨ret_bool ?_, hs.trans (Sm.drew _)⟩
          have : ¬ xs = ys := fun c => he (by rw [← HX.out.1, ← HX.out.2, c])
          simp [this]
      · go_wp2
        go_ret
        refine ⟨ret_bool ?_, hs⟩
        have : xs = ys := getD_ext (by rw [HN.out.1, HN.out.2]) (fun i hi => HJ.out i (by rw [HN.out.1] at hi; omega))
        simp [this]
  · have hb : ((xs.length : Int) != ys.length) = true := by simp; omega
    have hne : ¬ xs = ys := fun c => h0 (by rw [c])
    rw [decide_eq_false hne]
    clear hne h0
    go_enter Try.func16, Try.ntmps16
    go_wp2
    go_ret
    exact ⟨rfl, Sm.refl _⟩
end Go.Proofs.Ytjelhhchlffjbaa
