/-
  THE PROGRAM's LINES AS THE DOCUMENT's; ARE LINES THE SAME? Conditions: each theorem's own.
-/
import Derived.Test.YtmiljcoejgdpaaaLi
namespace Go.Proofs.Ytmiljcoejgdpaaa
set_option maxRecDepth 100000
open Go.RowKit
set_option linter.unusedVariables false

theorem one_cell_ow {w : World} {u : Value} {ws : List Bt} (h : Ow w u ws) : u.oneCell' = true := one_cell_slice u ws h
theorem take_more {α : Type} (l : List α) (k : Nat) (x : α) (h : l[k]? = some x) : l.take (k + 1) = l.take k ++ [x] := by
  rw [List.take_add_one, h]; rfl
theorem getE {α : Type} (l : List α) (k : Nat) (h : k < l.length) : ∃ x, l[k]? = some x := ⟨l[k], List.getElem?_eq_getElem h⟩

theorem ref_any (v : Value) (us : List (Nat × Value)) (ls : List (Nat × List Bt)) (w : World) (base : Nat) (hL : Ls w base 33 v us ls) (hn : ls.length ≤ 200000) :
    Calls Try.prog 10 #[v] w fun e w' => ∃ v' us', e = .returned v' ∧ Ls w' w.heap.size 34 v' us' ls ∧ Below w.heap.size w w' := by
  obtain ⟨ao, cap, rfl, _, _⟩ := hL.form
  obtain ⟨i0, hi, hz0, hz1, hz2⟩ := info_parts inf34
  have HL : Hid (Ls w base 33 (.slice ao ls.length cap) us ls) := hL
  clear hL
  obtain ⟨N, hN⟩ : ∃ N, ls.length = N := ⟨_, rfl⟩
  have HN : Hid (ls.length = N) := hN
  rw [hN] at hn ⊢
  clear hN
  go_enter Try.func10, Try.ntmps10
  go_wp2_with fail
  go_loopw [3, 8] (fun o i wr => ∃ (k : Nat) (us' : List (Nat × Value)), k ≤ N ∧ i = .int .i64 (k : Int) ∧ Ls wr w.heap.size 34 o us' (ls.take k) ∧ Below w.heap.size w wr) (fun _ i _ => N - (intOf i).toNat)
  case atStart => exact ⟨0, [], Nat.zero_le _, rfl, Ls.nil _ _ _, Below.refl _ _⟩
  case round =>
    obtain ⟨k, us', hk, rfl, hO, hB⟩ := hrel
    by_cases hkn : k < N
    · obtain ⟨⟨n, ws⟩, hx⟩ := getE ls k (by rw [HN.out]; exact hkn)
      obtain ⟨g, cap', u, hv, hc1, hc2, how, hg⟩ := (HL.out.below hB).get hx
      obtain ⟨rfl, rfl⟩ : ao = some ⟨g, 0, none⟩ ∧ cap = cap' := by simpa using hv
      clear hv
      have HX : Hid (ls[k]? = some (n, ws)) := hx
      have HT : Hid (ls.take (k + 1) = ls.take k ++ [(n, ws)]) := take_more _ _ _ hx
      clear hx
      have hlk : (ls.take k).length = k := by rw [List.length_take, HN.out]; omega
      have hu1 := one_cell_ow how
      obtain ⟨ao2, cap2, rfl, _, _⟩ := how.form
      go_wp2_with (first | (at_builtin; refine wpList_append_own _ rfl _ _ 24 rfl w.heap.size 34 i0 _ 2 32 Try.underlying24 hi hz0 hz1 hz2 rfl (by decide) _ (ls.take k).length (flat us') rfl ((hO.own.alloc _).alloc _) ⟨wr.heap.size + 1, 0, none⟩ 1 1 [.int .i64 (n : Int), .slice ao2 ws.length cap2] rfl rfl ?_ ?_ ?_ ?_ ?_ ?_))
      · exact (Row.two (by go_simp) (by go_simp)).news
      · intro x hx
        rcases List.mem_cons.1 hx with rfl | hx
        · rfl
        · rw [List.mem_singleton.1 hx]; exact hu1
      · unfold maxLen; omega
      · omega
      · have := hB.size; simp; omega
      · intro v' w3 hown3 hgrow _
        have hown4 : w3.ownsRow w.heap.size 34 2 v' ((ls.take k).length + 1) (flat us' ++ [.int .i64 (n : Int), .slice ao2 ws.length cap2]) := by rw [hlk]; exact hown3
        have hA : ∀ o1 o2, Below wr.heap.size wr ((wr.alloc o1).alloc o2) := fun o1 o2 => ((Below.refl _ wr).alloc (Nat.le_refl _) o1).alloc (by simp) o2
        have hL3 := (hO.below (hA _ _)).snoc (how.below (hA _ _)) (by decide) (n := n) hown4 hgrow
        have hB3 : Below w.heap.size w w3 := ((hB.alloc hB.size _).alloc (by have := hB.size; simp; omega) _).grown hgrow (by have := hB.size; simp; omega) (fun x hx => (hO.own.lt x hx).1)
        rw [← HT.out] at hL3
        clear hown3 hown4 hgrow hA hO hB how hc1 hc2
        go_wp2
        go_roundw
        case rel => exact ⟨k + 1, _, by omega, by go_num, hL3, hB3⟩
        case measure => simp [intOf]; omega
    · obtain rfl : k = N := by omega
      have e : ls.take k = ls := List.take_of_length_le (by rw [HN.out]; exact Nat.le_refl _)
      rw [e] at hO
      clear e
      go_wp2
      go_ret
      exact ⟨_, _, rfl, hO, hB⟩
theorem arr_tx (x y : Bt) : ((⟨x.toArray⟩ : ByteArray) = ⟨y.toArray⟩) ↔ x = y := by
  constructor
  · intro h
    have := congrArg (fun b : ByteArray => b.data.toList) h
    simpa using this
  · rintro rfl; rfl
theorem eq_upto {la lb : List (Nat × List Bt)} (hl : la.length = lb.length) (h : ∀ (j : Nat) (x y : Nat × List Bt), la[j]? = some x → lb[j]? = some y → x = y) : la = lb := by
  apply List.ext_getElem? 
  intro j
  by_cases c : j < la.length
  · obtain ⟨x, hx⟩ := getE la j c
    obtain ⟨y, hy⟩ := getE lb j (by omega)
    rw [hx, hy, h j x y hx hy]
  · rw [List.getElem?_eq_none (by omega), List.getElem?_eq_none (by omega)]

set_option maxHeartbeats 1000000 in
theorem equal_any (va vb : Value) (ua ub : List (Nat × Value)) (la lb : List (Nat × List Bt)) (w : World) (ba bb : Nat) (hA : Ls w ba 34 va ua la) (hB : Ls w bb 34 vb ub lb) (hna : la.length ≤ 1000000) (hwa : ∀ x ∈ la, x.2.length ≤ 1000000) :
    Calls Try.prog 9 #[va, vb] w fun e w' => e = .returned (.bool (decide (la = lb))) ∧ Below w.heap.size w w' := by
  obtain ⟨aa, ca, rfl, _, _⟩ := hA.form
  obtain ⟨ab, cb, rfl, _, _⟩ := hB.form
  have HA : Hid (Ls w ba 34 (.slice aa la.length ca) ua la) := hA
  have HB : Hid (Ls w bb 34 (.slice ab lb.length cb) ub lb) := hB
  have HW : Hid (∀ x ∈ la, x.2.length ≤ 1000000) := hwa
  clear hA hB hwa
  obtain ⟨r, hr⟩ : ∃ r, decide (la = lb) = r := ⟨_, rfl⟩
  have HR : Hid (decide (la = lb) = r) := hr
  rw [hr]
  clear hr
  obtain ⟨N, hN⟩ : ∃ N, la.length = N := ⟨_, rfl⟩
  have HN : Hid (la.length = N) := hN
  obtain ⟨M, hM⟩ : ∃ M, lb.length = M := ⟨_, rfl⟩
  have HM : Hid (lb.length = M) := hM
  rw [hN] at hna ⊢
  rw [hM]
  clear hN hM
  by_cases hnm : N = M
  · subst hnm
    go_enter Try.func9, Try.ntmps9
    go_wp2_with fail
    go_loopw [5] (fun i wr => ∃ k : Nat, k ≤ N ∧ i = .int .i64 (k : Int) ∧ (∀ j x y, j < k → la[j]? = some x → lb[j]? = some y → x = y) ∧ Below w.heap.size w wr) (fun i _ => N - (intOf i).toNat)
    case atStart => exact ⟨0, Nat.zero_le _, rfl, fun j _ _ h => absurd h (by omega), Below.refl _ _⟩
    case round =>
      obtain ⟨k, hk, rfl, heq, hB⟩ := hrel
      have HE : Hid (∀ j x y, j < k → la[j]? = some x → lb[j]? = some y → x = y) := heq
      clear heq
      by_cases hkn : k < N
      · obtain ⟨⟨n1, w1⟩, hx⟩ := getE la k (by rw [HN.out]; exact hkn)
        obtain ⟨⟨n2, w2⟩, hy⟩ := getE lb k (by rw [HM.out]; exact hkn)
        obtain ⟨g1, cap1, u1, hv1, hc1, hd1, how1, hg1⟩ := (HA.out.below hB).get hx
        obtain ⟨g2, cap2, u2, hv2, hc2, hd2, how2, hg2⟩ := (HB.out.below hB).get hy
        obtain ⟨rfl, rfl⟩ : aa = some ⟨g1, 0, none⟩ ∧ ca = cap1 := by simpa using hv1
        obtain ⟨rfl, rfl⟩ : ab = some ⟨g2, 0, none⟩ ∧ cb = cap2 := by simpa using hv2
        clear hv1 hv2
        have hwl := HW.out _ (List.mem_of_getElem? hx)
        simp only at hwl
        have HX : Hid (la[k]? = some (n1, w1)) := hx
        have HY : Hid (lb[k]? = some (n2, w2)) := hy
        clear hx hy
        obtain ⟨a1, p1, rfl, _, _⟩ := how1.form
        obtain ⟨a2, p2, rfl, _, _⟩ := how2.form
        have no : (n1, w1) ≠ (n2, w2) → r = false := fun h => by
          rw [← HR.out]
          refine decide_eq_false fun e => h ?_
          have := HX.out
          rw [e, HY.out] at this
          exact (Option.some.inj this).symm
        have NO : Hid ((n1, w1) ≠ (n2, w2) → r = false) := no
        clear no
        by_cases hn : n1 = n2
        · subst hn
          by_cases hwe : w1.length = w2.length
          · have q1 : (0 : Int) ≤ (k : Int) := by omega
            have q2 : (k : Int) < (N : Int) := by omega
            have HO1 : Hid (Ow wr (.slice a1 w1.length p1) w1) := how1
            have HO2 : Hid (Ow wr (.slice a2 w2.length p2) w2) := how2
            obtain ⟨L, hL⟩ : ∃ L, w1.length = L := ⟨_, rfl⟩
            have H1 : Hid (w1.length = L) := hL
            have H2 : Hid (w2.length = L) := hwe ▸ hL
            rw [← hwe] at hd2
            rw [hL] at hd1 hd2 hwl
            clear how1 how2 hwe hL
            obtain ⟨W, rfl⟩ : ∃ W, W = wr := ⟨_, rfl⟩
            go_wp2_with fail
            go_region
            go_wp2_with fail
            go_loopw [6] (fun i wx => ∃ m : Nat, m ≤ L ∧ i = .int .i64 (m : Int) ∧ (∀ (j : Nat) (x y : Bt), j < m → w1[j]? = some x → w2[j]? = some y → x = y) ∧ Below W.heap.size W wx) (fun i _ => L - (intOf i).toNat)
            case atStart => exact ⟨0, Nat.zero_le _, rfl, fun j _ _ h => absurd h (by omega), (Below.refl _ W).drew⟩
            case round =>
              obtain ⟨m, hm, rfl, heq, hBx⟩ := hrel
              have HI : Hid (∀ (j : Nat) (x y : Bt), j < m → w1[j]? = some x → w2[j]? = some y → x = y) := heq
              clear heq
              have hd1' : wr.cell? ⟨g1, k * 2 + 1, none⟩ = some (.slice a1 L p1) := by rw [hBx.cell (p := ⟨g1, k * 2 + 1, none⟩) hg1]; exact hd1
              have hd2' : wr.cell? ⟨g2, k * 2 + 1, none⟩ = some (.slice a2 L p2) := by rw [hBx.cell (p := ⟨g2, k * 2 + 1, none⟩) hg2]; exact hd2
              have hBw : Below w.heap.size w wr := hB.trans (hBx.mono hB.size)
              by_cases hml : m < L
              · obtain ⟨x, hx⟩ := getE w1 m (by rw [H1.out]; exact hml)
                obtain ⟨y, hy⟩ := getE w2 m (by rw [H2.out]; exact hml)
                obtain ⟨f1, s1, hv1, hx1, _⟩ := (HO1.out.below hBx).get hx
                obtain ⟨f2, s2, hv2, hy1, _⟩ := (HO2.out.below hBx).get hy
                obtain ⟨rfl, rfl⟩ : a1 = some ⟨f1, 0, none⟩ ∧ p1 = s1 := by simpa using hv1
                obtain ⟨rfl, rfl⟩ : a2 = some ⟨f2, 0, none⟩ ∧ p2 = s2 := by simpa using hv2
                clear hv1 hv2
                have HX1 : Hid (w1[m]? = some x) := hx
                have HY1 : Hid (w2[m]? = some y) := hy
                clear hx hy
                have m1 : (0 : Int) ≤ (m : Int) := by omega
                have m2 : (m : Int) < (L : Int) := by omega
                by_cases hxy : x = y
                · subst hxy
                  clear hd1 hd2 hc1 hc2
                  go_wp2_with fail
                  go_region
                  go_wp2
                  go_roundw
                  case rel =>
                    refine ⟨m + 1, by omega, by go_num, fun j a b hj ha hb => ?_, hBx.drew⟩
                    rcases Nat.lt_or_ge j m with c | c
                    · exact HI.out j a b c ha hb
                    · obtain rfl : j = m := by omega
                      rw [HX1.out] at ha
                      rw [HY1.out] at hb
                      cases ha
                      cases hb
                      rfl
                  case measure => simp [intOf]; omega
                · obtain rfl : r = false := NO.out (fun e => hxy (by have e1 := (Prod.mk.inj e).2; have := HX1.out; rw [e1, HY1.out] at this; exact (Option.some.inj this).symm))
                  have hne : (x == y) = false := by simpa using hxy
                  clear hd1 hd2 hc1 hc2
                  go_wp2_with fail
                  go_region
                  go_wp2
                  go_ret
                  exact ⟨rfl, hBw.drew⟩
              · obtain rfl : m = L := by omega
                have hww : (n1, w1) = (n1, w2) := by
                  congr 1
                  apply List.ext_getElem?
                  intro j
                  by_cases c : j < m
                  · obtain ⟨x, hx⟩ := getE w1 j (by rw [H1.out]; exact c)
                    obtain ⟨y, hy⟩ := getE w2 j (by rw [H2.out]; exact c)
                    rw [hx, hy, HI.out j x y c hx hy]
                  · rw [List.getElem?_eq_none (by rw [H1.out]; omega), List.getElem?_eq_none (by rw [H2.out]; omega)]
                have HWW : Hid ((n1, w1) = (n1, w2)) := hww
                clear hww hd1 hd2 hc1 hc2
                go_wp2
                go_roundw
                case rel =>
                  refine ⟨k + 1, by omega, by go_num, fun j x y hj hx hy => ?_, hBw⟩
                  rcases Nat.lt_or_ge j k with c | c
                  · exact HE.out j x y c hx hy
                  · obtain rfl : j = k := by omega
                    rw [HX.out] at hx
                    rw [HY.out] at hy
                    cases hx
                    cases hy
                    exact HWW.out
                case measure => simp [intOf]; omega
          · obtain rfl : r = false := NO.out (fun e => hwe (by rw [(Prod.mk.inj e).2]))
            have q1 : (0 : Int) ≤ (k : Int) := by omega
            have q2 : (k : Int) < (N : Int) := by omega
            have q3 : ¬ ((w1.length : Int) = (w2.length : Int)) := by omega
            go_wp2_with fail
            go_region
            go_wp2
            go_ret
            exact ⟨rfl, hB.drew⟩
        · obtain rfl : r = false := NO.out (fun e => hn (Prod.mk.inj e).1)
          have q1 : (0 : Int) ≤ (k : Int) := by omega
          have q2 : (k : Int) < (N : Int) := by omega
          have q3 : ((n1 : Int) != (n2 : Int)) = true := bne_iff_ne.2 (by omega)
          go_wp2_with fail
          go_region
          go_wp2
          go_ret
          exact ⟨rfl, hB.drew⟩
      · obtain rfl : k = N := by omega
        obtain rfl : r = true := by
          rw [← HR.out]
          exact decide_eq_true (eq_upto (by rw [HN.out, HM.out]) (fun j x y hx hy => HE.out j x y (by have := (List.getElem?_eq_some_iff.1 hx).1; rw [HN.out] at this; exact this) hx hy))
        go_wp2
        go_ret
        exact ⟨rfl, hB⟩
  · obtain rfl : r = false := by
      rw [← HR.out]
      exact decide_eq_false fun e => hnm (by rw [← HN.out, ← HM.out, e])
    have h1 : ¬ ((N : Int) = (M : Int)) := by omega
    go_enter Try.func9, Try.ntmps9
    go_wp2
    go_ret
    exact ⟨rfl, Below.refl _ _⟩
end Go.Proofs.Ytmiljcoejgdpaaa
