/-
  THE WALK OF ShapeSame: the call gives true. Conditions: the theorem's own (what the arguments hold).
-/
import Derived.Test.YtjelhhchlffjbaaMore
namespace Go.Proofs.Ytjelhhchlffjbaa
set_option maxRecDepth 100000
open Go.RowKit
set_option linter.unusedVariables false

/-- the same where the operation is guarded, and its guard says yes -/
theorem wpList_append_if {P : Program} {w : World} {ops : Array Oper} {rest : List Oper} {o : Oper} {a : Act} {Q : Exit → Act → World → Prop} (s x : Operand) (t : TypeId)
    (ho : o.op = .call { callee := .builtin .append, args := #[s, x], argTypes := #[t, t] })
    (base : Nat) (e : TypeId) (i : TypeInfo) (z : Value) (bytes : Nat) (ht : P.underlying t = some (.slice e)) (hi : P.info? e = some i) (hz : i.zero = some z)
    (hsize : i.size = 1) (hby : i.bytes = bytes) (hzs : z.cells.size = 1)
    (v : Value) (n : Nat) (xs : List Int) (hs : a.eval s = v) (hown : w.ownsRow base e 1 v n (vals xs))
    (ao : Option Addr) (m c : Nat) (zs : List Int) (hx : a.eval x = .slice ao m c) (hl : zs.length = m) (hS : Sl w ao zs) (hN : ao = none → m = 0 ∧ c = 0)
    (h63 : n + m ≤ maxLen) (hbytes : (n + m) * bytes ≤ 140737488355328) (hbase : base ≤ w.heap.size) (hwant : Region.wanted o (yielded ops a.tmps) = true)
    (h : ∀ v' w', w'.ownsRow base e 1 v' (n + m) (vals (xs ++ zs)) → w.grownBy w' v.ownBlock → wpList P ops Q rest (a.put o.dst v') w') : wpList P ops Q (o :: rest) a w := by
  unfold wpList
  rw [if_pos hwant]
  left
  cases ao with
  | some ad =>
    exact wp_append_own w s x t ho base e i z 1 bytes ht hi hz hsize hby hzs (by decide) v n (vals xs) hs hown ad m c (vals zs) hx (by rw [vals_len]; omega) hS.news (vals_one zs) h63 hbytes hbase
      (fun v' w' h1 h2 _ => h v' w' (by rw [vals_app]; exact h1) h2)
  | none =>
    obtain ⟨rfl, rfl⟩ := hN rfl
    obtain rfl : zs = [] := List.eq_nil_of_length_eq_zero hl
    have hrun := run_append_owned_none (P := P) w base t o.type e i 1 ht hi v n (vals xs) hown
    unfold Oper.wp
    simp [execOp, ho, resolve, invoke, builtin, hs, hx, hrun, Result.andThen]
    exact h v w (by simpa using hown) (World.grownBy.refl _ _)

theorem app_ne (xs : List Int) (n : Int) : decide (xs = xs ++ [n]) = false := by simp

set_option maxHeartbeats 1000000 in
theorem shapeSame_any (a1 a2 : Option Addr) (xs ys : List Int) (c1 c2 : Nat) (x : Int) (w : World) (hS : Sl w a1 xs) (hT : Sl w a2 ys) (hN : a1 = none → c1 = 0) (hN2 : a2 = none → c2 = 0) (hw : (Lit.int .i64 x).wf = true) :
    Calls Try.prog 7 #[.slice a1 xs.length c1, .slice a2 ys.length c2, .int .i64 x] w fun e w' => e = .returned (.bool true) ∧ Below w.heap.size w w' := by
  by_cases hg : 100 < xs.length ∨ 100 < ys.length
  · have HG : Hid (100 < xs.length ∨ 100 < ys.length) := hg
    clear hS hT hg hN hN2 hw
    generalize xs.length = n1 at *
    generalize ys.length = n2 at *
    go_enter Try.func7, Try.ntmps7
    by_cases h : 100 < n1
    · go_wp2_with fail
      refine (awake_any _).mono ?_
      rintro e w1 ⟨rfl, hB⟩
      go_wp2
      go_ret
      exact ⟨rfl, hB⟩
    · have h' : 100 < n2 := by have := HG.out; omega
      go_wp2_with fail
      refine (awake_any _).mono ?_
      rintro e w1 ⟨rfl, hB⟩
      go_wp2
      go_ret
      exact ⟨rfl, hB⟩
  have hl1 : xs.length ≤ 100 := by omega
  have hl2 : ys.length ≤ 100 := by omega
  clear hg hN2 hw
  have k1 := same_any a1 a2 xs ys c1 c2 w (by omega) (by omega) hS hT
  have k2 := fun w1 (h : Below w.heap.size w w1) => same_any a2 a1 ys xs c2 c1 w1 (by omega) (by omega) (hT.below h) (hS.below h)
  have k3 := fun w1 (h : Below w.heap.size w w1) => same_any a1 a1 xs xs c1 c1 w1 (by omega) (by omega) (hS.below h) (hS.below h)
  have e1 : decide (ys = xs) = decide (xs = ys) := by simp [eq_comm]
  have e2 : decide (xs = xs) = true := by simp
  rw [e1] at k2
  rw [e2] at k3
  have HS : Hid (Sl w a1 xs) := hS
  obtain ⟨n1, hn⟩ : ∃ n, xs.length = n := ⟨_, rfl⟩
  have hNm : a1 = none → n1 = 0 ∧ c1 = 0 := by
    intro h
    refine ⟨?_, hN h⟩
    rcases Nat.eq_zero_or_pos n1 with c | c
    · exact c
    · obtain ⟨b, off, e, _⟩ := hS 0 (by omega)
      rw [h] at e; cases e
  have HN : Hid (xs.length = n1) := hn
  obtain ⟨i0, hi, hz0, hz1, hz2⟩ := info_parts Try.info3
  simp only [hn] at k1 k2 k3
  rw [hn] at hl1
  rw [hn]
  generalize decide (xs = ys) = d at k1 k2
  generalize ys.length = n2 at *
  clear e1 e2 hS hT hN hn
  go_enter Try.func7, Try.ntmps7
  go_wp2_with fail
  refine k1.mono ?_
  rintro e w1 ⟨rfl, hm⟩
  have H1 : Hid (Sm w w1) := hm
  have k2 := k2 w1 (hm.below _)
  clear hm k1
  go_wp2_with fail
  refine k2.mono ?_
  rintro e w2 ⟨rfl, hm⟩
  have H2 : Hid (Sm w w2) := H1.out.trans hm
  have k3 := k3 w2 (H2.out.below _)
  clear hm k2 H1
  have hdd : (d == d) = true := by simp
  go_wp2_with fail
  refine k3.mono ?_
  rintro e w3 ⟨rfl, hm⟩
  have H3 : Hid (Sm w w3) := H2.out.trans hm
  clear hm k3 H2
  have m2 : (w3.alloc (.cells #[] 3)).ownsRow w3.heap.size 3 1 (.slice (some ⟨w3.heap.size, 0, none⟩) 0 0) 0 (vals []) := World.ownsRow_made w3 #[] 0 (Nat.le_refl _) (by simp) (by simp)
  have hS2 : Sl (w3.alloc (.cells #[] 3)) a1 xs := (HS.out.below (H3.out.below _)).below ((Below.refl _ _).alloc (Nat.le_refl _) _)
  go_wp2_with (first | (at_builtin; refine wpList_append_if _ _ 22 rfl w3.heap.size 3 i0 (.int .i64 0) 8 Try.underlying22 hi hz0 hz1 hz2 rfl _ 0 [] rfl m2 a1 n1 c1 xs rfl HN.out hS2 hNm (by unfold maxLen; omega) (by omega) (by simp) (by first | rfl | go_simp) ?_))
  intro v w4 hown hgrow
  have hB4 : Below w3.heap.size w3 w4 := ((Below.refl _ _).alloc (Nat.le_refl _) _).grown hgrow (by simp) (fun k h => by simp [Value.ownBlock] at h; omega)
  have HB4 : Hid (Below w3.heap.size w3 w4) := hB4
  have hsz := hB4.size
  clear hgrow m2 hS2 hB4
  go_wp2_with (first | (at_builtin; refine wpList_append_if _ _ 22 rfl w3.heap.size 3 i0 (.int .i64 0) 8 Try.underlying22 hi hz0 hz1 hz2 rfl _ n1 xs rfl (hown.alloc _) (some ⟨w4.heap.size, 0, none⟩) 1 1 [x] rfl rfl (Sl.one (by go_simp)) (fun h => by cases h) (by unfold maxLen; omega) (by omega) (by simp; omega) (by first | rfl | go_simp) ?_))
  intro v' w5 hown5 hgrow5
  have hB5 : Below w3.heap.size w3 w5 := (HB4.out.alloc hsz _).grown hgrow5 (by simp; omega) (fun k h => (hown.lt k h).1)
  have hlen2 : (xs ++ [x]).length = n1 + 1 := by rw [List.length_append, HN.out]; rfl
  obtain ⟨ao5, cap5, rfl, hSl5, _, _, _⟩ := Sl.of_own hown5 hlen2.symm
  rw [hlen2]
  have HB5 : Hid (Below w.heap.size w w5) := (H3.out.below _).trans (hB5.mono (by rw [H3.out.heap]; exact Nat.le_refl _))
  have k4 := same_any a1 ao5 xs (xs ++ [x]) c1 cap5 w5 (by rw [HN.out]; omega) (by omega) (HS.out.below HB5.out) hSl5
  rw [hlen2, HN.out, app_ne] at k4
  clear hown hown5 hgrow5 hSl5 hlen2 hB5 hsz HB4
  go_wp2_with fail
  refine k4.mono ?_
  rintro e w6 ⟨rfl, hm⟩
  have H6 : Hid (Below w.heap.size w w6) := HB5.out.trans (hm.below _)
  clear hm k4
  go_wp2_with fail
  refine (awake_any _).mono ?_
  rintro e w8 ⟨rfl, hB⟩
  have H8 : Hid (Below w.heap.size w w8) := H6.out.trans (hB.mono H6.out.size)
  clear hB
  go_wp2
  go_ret
  exact ⟨rfl, H8.out⟩
end Go.Proofs.Ytjelhhchlffjbaa
