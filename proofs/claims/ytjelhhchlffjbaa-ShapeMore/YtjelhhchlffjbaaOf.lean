/-
  WHAT A CALL OF shape.Same AND OF shape.Offset GIVES. Conditions: each theorem's own.
-/
import Derived.Test.YtjelhhchlffjbaaRd
namespace Go.Proofs.Ytjelhhchlffjbaa
set_option maxRecDepth 100000
open Go.RowKit
set_option linter.unusedVariables false

set_option maxHeartbeats 400000 in
theorem same_any (a1 a2 : Option Addr) (xs ys : List Int) (c1 c2 : Nat) (w : World) (hl1 : xs.length ≤ 1000) (hl2 : ys.length ≤ 1000) (hS : Sl w a1 xs) (hT : Sl w a2 ys) :
    Calls Try.prog 15 #[.slice a1 xs.length c1, .slice a2 ys.length c2] w fun e w' => e = .returned (.bool (decide (xs = ys))) ∧ Sm w w' := by
  have hc := equal_any a1 a2 xs ys c1 c2 w hl1 hl2 hS hT
  generalize decide (xs = ys) = d at hc ⊢
  go_enter Try.func15, Try.ntmps15
  go_wp2_with fail
  refine hc.mono ?_
  rintro e w1 ⟨rfl, hs⟩
  have HS : Hid (Sm w w1) := hs
  clear hs
  go_wp2
  go_ret
  exact ⟨rfl, HS.out⟩

/-- the count of a place, and whether it is one -/
def offs (ss ts : List Int) : Nat := if Rgt ss ∧ Inn ss ts then cnt (nats ss) (nats ts) else 0

set_option maxHeartbeats 1000000 in
theorem offset_any (a1 a2 : Option Addr) (ss ts : List Int) (c1 c2 : Nat) (w : World) (hl1 : ss.length ≤ 1000) (hl2 : ts.length ≤ 1000) (hS : Sl w a1 ss) (hT : Sl w a2 ts) :
    Calls Try.prog 17 #[.slice a1 ss.length c1, .slice a2 ts.length c2] w fun e w' => e = .returned (.tuple #[.int .i64 (offs ss ts : Nat), .bool (decide (Rgt ss ∧ Inn ss ts))]) ∧ w' = w := by
  have hR := right_any a1 ss c1 w hl1 hS
  by_cases hr : Rgt ss
  · rw [decide_eq_true hr] at hR
    have HR : Hid (Rgt ss) := hr
    have hl3 : ss.length ≤ 4 := hr.out.1
    clear hr
    by_cases hl : ts.length = ss.length
    · have HS : Hid (Sl w a1 ss) := hS
      have HT : Hid (Sl w a2 ts) := hT
      obtain ⟨n, hn⟩ : ∃ n, ss.length = n := ⟨_, rfl⟩
      rw [hn] at hl hR hl3
      rw [hn, hl]
      have HN : Hid (ss.length = n ∧ ts.length = n) := ⟨hn, hl⟩
      clear hS hT hl1 hl2 hn hl
      go_enter Try.func17, Try.ntmps17
      go_wp2_with fail
      refine hR.mono ?_
      rintro e w1 ⟨rfl, rfl⟩
      clear hR
      go_wp2_with fail
      go_loop [6, 7, 8, 21] (fun c _ _ i => ∃ k q : Nat, k ≤ n ∧ i = .int .i64 k ∧ c = .int .i64 q ∧ q < 64 ∧ q = cnt (nats (ss.take k)) (nats (ts.take k)) ∧ Pl ss ts k) (fun _ _ _ i => n - (intOf i).toNat)
      case atStart => exact ⟨0, 0, by omega, rfl, rfl, by omega, by simp [nats, cnt], fun i hi => by omega⟩
      case round =>
        obtain ⟨k, q, hk, rfl, rfl, q1, hq, hp⟩ := hrel
        have HQ : Hid (q = cnt (nats (ss.take k)) (nats (ts.take k)) ∧ Pl ss ts k) := ⟨hq, hp⟩
        clear hq hp
        by_cases h : k < n
        · have hks : k < ss.length := by rw [HN.out.1]; exact h
          obtain ⟨b, off, rfl, hc⟩ := HS.out k hks
          obtain ⟨b', off', rfl, hd⟩ := HT.out k (by rw [HN.out.2]; exact h)
          have h1 := (HR.out.at hks).1
          have h64 : ss.getD k 0 ≤ 64 := by
            have := (HR.out.at hks).2
            have p := (HR.out.pf k).one_le
            have := Nat.le_mul_of_pos_left (ss.getD k 0).toNat p
            omega
          have HP : Hid (∀ x, (ts.getD k 0 = x) → 0 ≤ x → x < ss.getD k 0 → Pl ss ts (k + 1)) := fun x e a b => HQ.out.2.next (by rw [e]; exact a) (by rw [e]; exact b)
          have HC : Hid (cnt (nats (ss.take (k + 1))) (nats (ts.take (k + 1))) = cnt (nats (ss.take k)) (nats (ts.take k)) * (ss.getD k 0).toNat + (ts.getD k 0).toNat) := cnt_more (by rw [HN.out.1, HN.out.2]) hks
          obtain ⟨z, hz⟩ : ∃ z, ss.getD k 0 = z := ⟨_, rfl⟩
          obtain ⟨x, hx⟩ : ∃ x, ts.getD k 0 = x := ⟨_, rfl⟩
          have HX : Hid (ss.getD k 0 = z ∧ ts.getD k 0 = x) := ⟨hz, hx⟩
          rw [hz] at hc h1 h64
          rw [hx] at hd
          clear hz hx hks
          by_cases hx0 : x < 0
          · go_wp2
            go_ret2
            have : ¬ Inn ss ts := fun c => by have := (c.out.2 k (by rw [HN.out.1]; exact h)).1; rw [HX.out.2] at this; omega
            simp [offs, this]
            exact fun _ => by simpa using this
          · by_cases hxz : z ≤ x
            · go_wp2
              go_ret2
              have : ¬ Inn ss ts := fun c => by have := (c.out.2 k (by rw [HN.out.1]; exact h)).2; rw [HX.out.2, HX.out.1] at this; omega
              simp [offs, this]
              exact fun _ => by simpa using this
            · have hm2 : (q : Int) * z = ((q * z.toNat : Nat) : Int) := by rw [Int.natCast_mul, Int.toNat_of_nonneg (by omega)]
              have hm3 : q * z.toNat ≤ 64 * 64 := Nat.mul_le_mul (by omega) (by omega)
              obtain ⟨m, hm4⟩ : ∃ m, q * z.toNat = m := ⟨_, rfl⟩
              rw [hm4] at hm2 hm3
              have HM : Hid (q * z.toNat = m) := hm4
              clear hm4
              go_wp2
              go_round
              case rel =>
                have hpl := HP.out x HX.out.2 (by omega) (by rw [HX.out.1]; omega)
                have e : m + x.toNat = cnt (nats (ss.take (k + 1))) (nats (ts.take (k + 1))) := by rw [HC.out, HX.out.1, HX.out.2, ← HQ.out.1, HM.out]
                have hlt := hpl.lt (by rw [HN.out.1, HN.out.2]) (by rw [HN.out.1]; omega) HR.out
                refine ⟨k + 1, m + x.toNat, by omega, by go_num, ?_, by omega, e, hpl⟩
                go_num
              case measure => simp [intOf]; omega
        · go_wp2
          go_ret2
          have e3 : k = n := by omega
          subst e3
          have hi : Inn ss ts := Inn.put ⟨by rw [HN.out.1, HN.out.2], fun i hi => HQ.out.2 i (by rw [HN.out.1] at hi; exact hi)⟩
          have e1 := HQ.out.1
          rw [List.take_of_length_le (by rw [HN.out.1]; exact Nat.le_refl _), List.take_of_length_le (by rw [HN.out.2]; exact Nat.le_refl _)] at e1
          rw [e1]
          have hri : Rgt ss ∧ Inn ss ts := ⟨HR.out, hi⟩
          simp [offs, HR.out, hi]
          rw [if_pos hri]
    · have hb : ((ts.length : Int) != ss.length) = true := by simp; omega
      have hni : ¬ Inn ss ts := fun c => hl c.out.1
      have e1 : offs ss ts = 0 := by simp [offs, hni]
      have e2 : decide (Rgt ss ∧ Inn ss ts) = false := by simp [hni]
      rw [e1, e2]
      clear e1 e2 hni hl
      go_enter Try.func17, Try.ntmps17
      go_wp2_with fail
      refine hR.mono ?_
      rintro e w1 ⟨rfl, rfl⟩
      go_wp2
      go_ret2
      exact ⟨rfl, rfl⟩
  · rw [decide_eq_false hr] at hR
    have e1 : offs ss ts = 0 := by simp [offs, hr]
    have e2 : decide (Rgt ss ∧ Inn ss ts) = false := by simp [hr]
    rw [e1, e2]
    clear e1 e2 hr
    go_enter Try.func17, Try.ntmps17
    go_wp2_with fail
    refine hR.mono ?_
    rintro e w1 ⟨rfl, rfl⟩
    go_wp2
    go_ret2
    exact ⟨rfl, rfl⟩
end Go.Proofs.Ytjelhhchlffjbaa
