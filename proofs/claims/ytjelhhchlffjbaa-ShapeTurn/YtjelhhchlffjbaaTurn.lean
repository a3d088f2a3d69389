/-
  THE WALK OF ShapeTurn: the call gives true. Conditions: the theorem's own (what the argument holds).
-/
import Derived.Test.YtjelhhchlffjbaaAw
namespace Go.Proofs.Ytjelhhchlffjbaa
set_option maxRecDepth 100000
open Go.RowKit
set_option linter.unusedVariables false

theorem nats_rev (zs : List Int) : nats zs.reverse = (nats zs).reverse := by simp [nats]
theorem Rgt.rev (zs : List Int) : Rgt zs.reverse ↔ Rgt zs := by
  unfold Rgt rgt
  rw [nats_rev, shz_turn]
  simp
theorem szI_rev (zs : List Int) : szI zs.reverse = szI zs := by
  by_cases h : Rgt zs
  · rw [szI_of h, szI_of ((Rgt.rev zs).2 h), nats_rev, shz_turn]
  · rw [szI_no h, szI_no (fun c => h ((Rgt.rev zs).1 c))]
theorem drop_one (zs : List Int) (k : Nat) (h : k < zs.length) : (zs.drop k).reverse = (zs.drop (k + 1)).reverse ++ [zs.getD k 0] := by
  rw [List.drop_eq_getElem_cons h, List.reverse_cons]; simp [List.getD, h]

set_option maxHeartbeats 1000000 in
theorem shapeTurn_any (a1 : Option Addr) (ss : List Int) (c1 : Nat) (w : World) (hS : Sl w a1 ss) (hN : a1 = none → c1 = 0) :
    Calls Try.prog 9 #[.slice a1 ss.length c1] w fun e w' => e = .returned (.bool true) ∧ Below w.heap.size w w' := by
  clear hN
  by_cases hg : 100 < ss.length
  · clear hS
    generalize ss.length = n1 at *
    go_enter Try.func9, Try.ntmps9
    go_wp2_with fail
    refine (awake_any _).mono ?_
    rintro e w1 ⟨rfl, hB⟩
    go_wp2
    go_ret
    exact ⟨rfl, hB⟩
  · have hl1 : ss.length ≤ 100 := by omega
    clear hg
    obtain ⟨i0, hi, hz0, hz1, hz2⟩ := info_parts Try.info3
    have HS : Hid (Sl w a1 ss) := hS
    clear hS
    obtain ⟨n, hn⟩ : ∃ n, ss.length = n := ⟨_, rfl⟩
    have HN : Hid (ss.length = n) := hn
    rw [hn] at hl1
    rw [hn]
    clear hn
    go_enter Try.func9, Try.ntmps9
    go_wp2_with fail
    go_loopw [3, 4] (fun v i wr => ∃ k, k ≤ n ∧ i = .int .i64 ((k : Int) - 1) ∧ wr.ownsRow w.heap.size 3 1 v (n - k) (vals (ss.drop k).reverse) ∧ Below w.heap.size w wr) (fun _ i _ => (intOf i + 1).toNat)
    case atStart =>
      refine ⟨n, Nat.le_refl _, by go_num, ?_, Below.refl _ _⟩
      rw [List.drop_of_length_le (by rw [HN.out]; exact Nat.le_refl _), Nat.sub_self]
      exact World.ownsRow_nil w _ _ _
    case round =>
      obtain ⟨k, hk, rfl, hown, hB⟩ := hrel
      by_cases h : 0 < k
      · obtain ⟨k, rfl⟩ : ∃ k', k = k' + 1 := ⟨k - 1, by omega⟩
        have hks : k < ss.length := by rw [HN.out]; omega
        obtain ⟨b, off, rfl, hc⟩ := (HS.out.below hB) k hks
        obtain ⟨z, hz⟩ : ∃ z, ss.getD k 0 = z := ⟨_, rfl⟩
        have HZ : Hid ((ss.drop k).reverse = (ss.drop (k + 1)).reverse ++ [z]) := by have := drop_one ss k hks; rw [hz] at this; exact this
        rw [hz] at hc
        clear hz hks
        have ek : ((k + 1 : Nat) : Int) - 1 = (k : Int) := by omega
        rw [ek]
        have hsz := hB.size
        go_wp2_with (first | (at_builtin; refine wpList_append_any rfl _ _ 22 rfl w.heap.size 3 i0 (.int .i64 0) 8 Try.underlying22 hi hz0 hz1 hz2 rfl _ (n - (k + 1)) _ rfl (hown.alloc _) (some ⟨wr.heap.size, 0, none⟩) 1 1 [z] rfl rfl (Sl.one (by go_simp)) (fun h => by cases h) (by unfold maxLen; omega) (by omega) (by simp; omega) ?_))
        intro v' w2 hown2 hgrow
        have hB2 : Below w.heap.size w w2 := (hB.alloc hsz _).grown hgrow (by simp; omega) (fun k h => (hown.lt k h).1)
        rw [← HZ.out] at hown2
        have e2 : n - (k + 1) + 1 = n - k := by omega
        rw [e2] at hown2
        clear hown hgrow hB e2
        go_wp2
        go_roundw
        case rel => exact ⟨k, by omega, by go_num, hown2, hB2⟩
        case measure => simp [intOf]
      · obtain rfl : k = 0 := by omega
        rw [List.drop_zero, Nat.sub_zero] at hown
        obtain ⟨ao, cap, rfl, hSl, _, _, _⟩ := Sl.of_own hown (by rw [List.length_reverse, HN.out])
        have hrl : ss.reverse.length = n := by rw [List.length_reverse, HN.out]
        have k1 := right_any a1 ss c1 wr (by rw [HN.out]; omega) (HS.out.below hB)
        have k2 := right_any ao ss.reverse cap wr (by rw [hrl]; omega) hSl
        have k3 := size_any a1 ss c1 wr (by rw [HN.out]; omega) (HS.out.below hB)
        have k4 := size_any ao ss.reverse cap wr (by rw [hrl]; omega) hSl
        rw [HN.out] at k1 k3
        rw [szI_rev] at k4
        rw [hrl] at k2 k4 ⊢
        have e1 : decide (Rgt ss.reverse) = decide (Rgt ss) := by simp [Rgt.rev]
        rw [e1] at k2
        have HP := szI_pos ss
        generalize szI ss = q at *
        have HB : Hid (Below w.heap.size w wr) := hB
        clear hSl hown hB e1 hrl
        by_cases hr : Rgt ss
        · have hq : 0 < q := HP.2 hr
          have hq' : (0 : Int) < q := by omega
          rw [decide_eq_true hr] at k1 k2
          clear HP hr
          go_wp2_with fail
          refine k1.mono ?_
          rintro e w2 ⟨rfl, rfl⟩
          go_wp2_with fail
          refine k2.mono ?_
          rintro e w2 ⟨rfl, rfl⟩
          go_wp2_with fail
          refine k3.mono ?_
          rintro e w2 ⟨rfl, rfl⟩
          go_wp2_with fail
          refine k4.mono ?_
          rintro e w2 ⟨rfl, rfl⟩
          go_wp2_with fail
          refine k3.mono ?_
          rintro e w2 ⟨rfl, rfl⟩
          go_wp2_with fail
          refine k1.mono ?_
          rintro e w2 ⟨rfl, rfl⟩
          go_wp2_with fail
          refine (awake_any _).mono ?_
          rintro e w5 ⟨rfl, hB⟩
          have H5 : Hid (Below w.heap.size w w5) := HB.out.trans (hB.mono HB.out.size)
          clear hB
          go_wp2
          go_ret
          exact ⟨rfl, H5.out⟩
        · have hq : q = 0 := by
            rcases Nat.eq_zero_or_pos q with c | c
            · exact c
            · exact absurd (HP.1 c) hr
          subst hq
          rw [decide_eq_false hr] at k1 k2
          clear HP hr
          go_wp2_with fail
          refine k1.mono ?_
          rintro e w2 ⟨rfl, rfl⟩
          go_wp2_with fail
          refine k2.mono ?_
          rintro e w2 ⟨rfl, rfl⟩
          go_wp2_with fail
          refine k3.mono ?_
          rintro e w2 ⟨rfl, rfl⟩
          go_wp2_with fail
          refine k4.mono ?_
          rintro e w2 ⟨rfl, rfl⟩
          go_wp2_with fail
          refine k3.mono ?_
          rintro e w2 ⟨rfl, rfl⟩
          go_wp2_with fail
          refine k1.mono ?_
          rintro e w2 ⟨rfl, rfl⟩
          go_wp2_with fail
          refine (awake_any _).mono ?_
          rintro e w5 ⟨rfl, hB⟩
          have H5 : Hid (Below w.heap.size w w5) := HB.out.trans (hB.mono HB.out.size)
          clear hB
          go_wp2
          go_ret
          exact ⟨rfl, H5.out⟩
end Go.Proofs.Ytjelhhchlffjbaa
