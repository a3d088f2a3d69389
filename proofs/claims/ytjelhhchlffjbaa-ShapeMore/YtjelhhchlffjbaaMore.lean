/-
  THE WALK OF ShapeMore: the call gives true. Conditions: the theorem's own (what the arguments hold).
-/
import Derived.Test.YtjelhhchlffjbaaAw
namespace Go.Proofs.Ytjelhhchlffjbaa
set_option maxRecDepth 100000
open Go.RowKit
set_option linter.unusedVariables false

theorem szI_ahead {ss : List Int} (h : Rgt ss) : szI (1 :: ss) = if ss.length = 4 then 0 else szI ss := by
  have e : nats (1 :: ss) = 1 :: nats ss := rfl
  split
  · exact szI_no fun c => by have := c.out.1; simp at this; omega
  · have : Rgt (1 :: ss) := Rgt.put ⟨by have := h.out.1; simp; omega, fun z hz => by
      rcases List.mem_cons.1 hz with c | c
      · omega
      · exact h.out.2.1 z c, by rw [e, shz_one]; exact h.out.2.2⟩
    rw [szI_of this, szI_of h, e, shz_one]
theorem szI_behind {ss : List Int} (h : Rgt ss) {k : Nat} (hk : 1 ≤ k) : szI (ss ++ [(k : Int)]) = if ss.length = 4 then 0 else if szI ss * k ≤ 64 then szI ss * k else 0 := by
  have e : nats (ss ++ [(k : Int)]) = nats ss ++ [k] := by rw [nats_app]; rfl
  split
  · exact szI_no fun c => by have := c.out.1; simp at this; omega
  · rw [szI_of h]
    split
    · rename_i h64
      have : Rgt (ss ++ [(k : Int)]) := Rgt.put ⟨by have := h.out.1; simp; omega, fun z hz => by
        rcases List.mem_append.1 hz with c | c
        · exact h.out.2.1 z c
        · rw [List.mem_singleton.1 c]; omega, by rw [e, shz_snoc]; exact h64⟩
      rw [szI_of this, e, shz_snoc]
    · rename_i h64
      exact szI_no fun c => by have := c.out.2.2; rw [e, shz_snoc] at this; omega
theorem own_one (w : World) (x : Int) : (w.alloc (.cells #[.int .i64 x] 3)).ownsRow w.heap.size 3 1 (.slice (some ⟨w.heap.size, 0, none⟩) 1 1) 1 (vals [x]) :=
  ⟨by simp [vals], .inr ⟨w.heap.size, 1, #[.int .i64 x], rfl, Nat.le_refl _, heap_alloc_new w _, Nat.le_refl _, by unfold maxLen; omega, by simp, by simp [vals]⟩⟩

set_option maxHeartbeats 1000000 in
theorem shapeMore_any (a1 : Option Addr) (ss : List Int) (c1 : Nat) (x : Int) (w : World) (hS : Sl w a1 ss) (hN : a1 = none → c1 = 0) (hw : (Lit.int .u8 x).wf = true) :
    Calls Try.prog 5 #[.slice a1 ss.length c1, .int .u8 x] w fun e w' => e = .returned (.bool true) ∧ Below w.heap.size w w' := by
  by_cases hg : 100 < ss.length
  · clear hS hN hw
    generalize ss.length = n1 at *
    go_enter Try.func5, Try.ntmps5
    go_wp2_with fail
    refine (awake_any _).mono ?_
    rintro e w1 ⟨rfl, hB⟩
    go_wp2
    go_ret
    exact ⟨rfl, hB⟩
  have hl1 : ss.length ≤ 100 := by omega
  clear hg
  have k1 := right_any a1 ss c1 w (by omega) hS
  by_cases hr : Rgt ss
  · rw [decide_eq_true hr] at k1
    have hx : 0 ≤ x ∧ x ≤ 255 := by
      have h1 : IntKind.u8.min = 0 := rfl
      have h2 : IntKind.u8.max = 255 := rfl
      simp only [Lit.wf, Bool.and_eq_true, decide_eq_true_eq] at hw
      omega
    obtain ⟨y, rfl⟩ : ∃ y : Nat, x = y := ⟨x.toNat, by omega⟩
    obtain ⟨i0, hi, hz0, hz1, hz2⟩ := info_parts Try.info3
    obtain ⟨k, hk⟩ : ∃ k, 1 + y % 70 = k := ⟨_, rfl⟩
    have hk1 : 1 ≤ k := by omega
    have hk2 : k ≤ 70 := by omega
    have g1 := szI_ahead hr
    have g2 := szI_behind hr hk1
    have HS : Hid (Sl w a1 ss) := hS
    have hNm : a1 = none → ss.length = 0 ∧ c1 = 0 := by
      intro h
      refine ⟨?_, hN h⟩
      rcases Nat.eq_zero_or_pos ss.length with c | c
      · exact c
      · obtain ⟨b, off, e, _⟩ := hS 0 c
        rw [h] at e; cases e
    have m1 : (w.alloc (.cells #[.int .i64 1] 3)).ownsRow w.heap.size 3 1 (.slice (some ⟨w.heap.size, 0, none⟩) 1 1) 1 (vals [1]) := own_one w 1
    have hS1 : Sl (w.alloc (.cells #[.int .i64 1] 3)) a1 ss := hS.below ((Below.refl _ _).alloc (Nat.le_refl _) _)
    obtain ⟨n, hn⟩ : ∃ n, ss.length = n := ⟨_, rfl⟩
    have hn4 := hr.out.1
    have h64 := szI_le ss
    have hq1 := (szI_pos ss).2 hr
    have kk := fun w1 (h : Below w.heap.size w w1) => size_any a1 ss c1 w1 (by omega) (hS.below h)
    obtain ⟨q, hq⟩ : ∃ q, szI ss = q := ⟨_, rfl⟩
    simp only [hq, hn] at kk
    rw [hq] at g1 g2 h64 hq1
    rw [hn] at hl1 hn4 k1 g1 g2 hNm
    rw [hn]
    have HN : Hid (ss.length = n) := hn
    have HG : Hid ((szI (1 :: ss) = if n = 4 then 0 else q) ∧ szI (ss ++ [(k : Int)]) = if n = 4 then 0 else if q * k ≤ 64 then q * k else 0) := ⟨g1, g2⟩
    have HK : Hid (1 + y % 70 = k) := hk
    have ek : (1 : Int) + (y : Int) % 70 = (k : Int) := by omega
    clear hS hN hw hr hn g1 g2 hq hk HK hx
    go_enter Try.func5, Try.ntmps5
    go_wp2_with fail
    refine k1.mono ?_
    rintro e w1 ⟨rfl, rfl⟩
    clear k1
    go_wp2_with (first | (at_builtin; refine wpList_append_any rfl _ _ 22 rfl w1.heap.size 3 i0 (.int .i64 0) 8 Try.underlying22 hi hz0 hz1 hz2 rfl _ 1 [1] rfl m1 a1 n c1 ss rfl HN.out hS1 hNm (by unfold maxLen; omega) (by omega) (by simp) ?_))
    intro v w2 hown hgrow
    have hB2 : Below w1.heap.size w1 w2 := ((Below.refl _ _).alloc (Nat.le_refl _) _).grown hgrow (by simp) (fun k h => by simp [Value.ownBlock] at h; omega)
    have hlen1 : ((1 : Int) :: ss).length = 1 + n := by rw [List.length_cons, HN.out, Nat.add_comm]
    have hown : w2.ownsRow w1.heap.size 3 1 v (1 + n) (vals (1 :: ss)) := hown
    obtain ⟨ao, cap, rfl, hSl, _, _, _⟩ := Sl.of_own hown hlen1.symm
    rw [hlen1]
    have k2 := size_any ao (1 :: ss) cap w2 (by omega) hSl
    rw [hlen1, HG.out.1] at k2
    obtain ⟨r1, hr1⟩ : ∃ r, (if n = 4 then 0 else q) = r := ⟨_, rfl⟩
    rw [hr1] at k2
    have HR1 : Hid ((if n = 4 then 0 else q) = r1) := hr1
    clear hown hgrow hSl m1 hS1 hr1 hlen1
    have m2 : (w2.alloc (.cells #[] 3)).ownsRow w2.heap.size 3 1 (.slice (some ⟨w2.heap.size, 0, none⟩) 0 0) 0 (vals []) := World.ownsRow_made w2 #[] 0 (Nat.le_refl _) (by simp) (by simp)
    have hS2 : Sl (w2.alloc (.cells #[] 3)) a1 ss := (HS.out.below hB2).below ((Below.refl _ _).alloc (Nat.le_refl _) _)
    have HB2 : Hid (Below w1.heap.size w1 w2) := hB2
    clear hB2
    go_wp2_with fail
    refine k2.mono ?_
    rintro e w3 ⟨rfl, rfl⟩
    clear k2
    go_wp2_with (first | (at_builtin; refine wpList_append_any rfl _ _ 22 rfl w3.heap.size 3 i0 (.int .i64 0) 8 Try.underlying22 hi hz0 hz1 hz2 rfl _ 0 [] rfl m2 a1 n c1 ss rfl HN.out hS2 hNm (by unfold maxLen; omega) (by omega) (by simp) ?_))
    intro v w4 hown hgrow
    have hB4 : Below w3.heap.size w3 w4 := ((Below.refl _ _).alloc (Nat.le_refl _) _).grown hgrow (by simp) (fun k h => by simp [Value.ownBlock] at h; omega)
    have HB4 : Hid (Below w3.heap.size w3 w4) := hB4
    have hsz := hB4.size
    clear hgrow m2 hS2 hB4
    go_wp2_with (first | (at_builtin; refine wpList_append_any rfl _ _ 22 rfl w3.heap.size 3 i0 (.int .i64 0) 8 Try.underlying22 hi hz0 hz1 hz2 rfl _ n ss rfl (hown.alloc _) (some ⟨w4.heap.size, 0, none⟩) 1 1 [(k : Int)] rfl rfl (Sl.one (by go_simp)) (fun h => by cases h) (by unfold maxLen; omega) (by omega) (by simp; omega) ?_))
    intro v' w5 hown5 hgrow5
    have hB5 : Below w3.heap.size w3 w5 := (HB4.out.alloc hsz _).grown hgrow5 (by simp; omega) (fun k h => (hown.lt k h).1)
    have hlen2 : (ss ++ [(k : Int)]).length = n + 1 := by rw [List.length_append, HN.out]; rfl
    obtain ⟨ao5, cap5, rfl, hSl5, _, _, _⟩ := Sl.of_own hown5 hlen2.symm
    rw [hlen2]
    have k3 := size_any ao5 (ss ++ [(k : Int)]) cap5 w5 (by omega) hSl5
    rw [hlen2, HG.out.2] at k3
    obtain ⟨r2, hr2⟩ : ∃ r, (if n = 4 then 0 else if q * k ≤ 64 then q * k else 0) = r := ⟨_, rfl⟩
    rw [hr2] at k3
    have HR2 : Hid ((if n = 4 then 0 else if q * k ≤ 64 then q * k else 0) = r2) := hr2
    have HB5 : Hid (Below w1.heap.size w1 w5) := HB2.out.trans (hB5.mono HB2.out.size)
    have kk := kk w5 HB5.out
    clear hown hown5 hgrow5 hSl5 hr2 hlen2 hB5 hsz HB4 HB2
    go_wp2_with fail
    refine k3.mono ?_
    rintro e w6 ⟨rfl, rfl⟩
    go_wp2_with fail
    refine kk.mono ?_
    rintro e w7 ⟨rfl, rfl⟩
    clear k3 kk
    by_cases h4 : n = 4
    · have e1 := HR1.out
      have e2 := HR2.out
      rw [if_pos h4] at e1 e2
      subst h4 e1 e2
      go_wp2_with fail
      refine (awake_any _).mono ?_
      rintro e w8 ⟨rfl, hB⟩
      have H8 : Hid (Below w1.heap.size w1 w8) := HB5.out.trans (hB.mono HB5.out.size)
      clear hB
      go_wp2
      go_ret
      exact ⟨rfl, H8.out⟩
    · have e1 := HR1.out
      have e2 := HR2.out
      rw [if_neg h4] at e1 e2
      subst e1
      have h4' : ((n : Int) == 4) = false := by simp; omega
      obtain ⟨m, hm⟩ : ∃ m, q * k = m := ⟨_, rfl⟩
      have hm2 : (q : Int) * (k : Int) = (m : Int) := by rw [← hm]; exact (Int.natCast_mul q k).symm
      have hm3 : m ≤ 64 * 70 := by rw [← hm]; exact Nat.mul_le_mul h64 hk2
      rw [hm] at e2
      by_cases h6 : m ≤ 64
      · rw [if_pos h6] at e2
        subst e2
        have h6' : (m : Int) ≤ 64 := by omega
        clear hm
        go_wp2_with fail
        refine (awake_any _).mono ?_
        rintro e w8 ⟨rfl, hB⟩
        have H8 : Hid (Below w1.heap.size w1 w8) := HB5.out.trans (hB.mono HB5.out.size)
        clear hB
        go_wp2
        go_ret
        exact ⟨rfl, H8.out⟩
      · rw [if_neg h6] at e2
        subst e2
        have h6' : (64 : Int) < m := by omega
        have h7 : decide ((m : Int) ≤ 64) = false := by simp; omega
        have h8 : decide ((64 : Int) < m) = true := by simp; omega
        clear hm h6 h6'
        go_wp2_with fail
        refine (awake_any _).mono ?_
        rintro e w8 ⟨rfl, hB⟩
        have H8 : Hid (Below w1.heap.size w1 w8) := HB5.out.trans (hB.mono HB5.out.size)
        clear hB
        go_wp2
        go_ret
        exact ⟨rfl, H8.out⟩
  · rw [decide_eq_false hr] at k1
    clear hS hN hw hr
    generalize ss.length = n1 at *
    go_enter Try.func5, Try.ntmps5
    go_wp2_with fail
    refine k1.mono ?_
    rintro e w1 ⟨rfl, rfl⟩
    go_wp2_with fail
    refine (awake_any _).mono ?_
    rintro e w1 ⟨rfl, hB⟩
    go_wp2
    go_ret
    exact ⟨rfl, hB⟩
end Go.Proofs.Ytjelhhchlffjbaa
