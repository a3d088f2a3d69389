/-
  WHAT EACH LAW ASKS BESIDE: one fixed text, and names. No conditions.
-/
import Derived.Test.YtmiljcoejgdpaaaDl
namespace Go.Proofs.Ytmiljcoejgdpaaa
set_option maxRecDepth 100000
open Go.RowKit
set_option linter.unusedVariables false

def fixed : ByteArray := ⟨#[10, 97, 32, 32, 98, 32, 35, 32, 99]⟩
theorem fixed_lns : lns fixed.data.toList = [(2, [[97], [98]])] := by decide +kernel
theorem fixed_yes : nm (⟨#[119, 49]⟩ : ByteArray).data.toList = true := by decide +kernel
theorem fixed_no : nm (⟨#[49, 119]⟩ : ByteArray).data.toList = false := by decide +kernel

theorem awake_any (w : World) : Calls Try.prog 8 #[] w fun e w' => e = .returned (.bool true) ∧ Below w.heap.size w w' := by
  have k1 := lines_any fixed w (by decide)
  unfold fixed at k1
  rw [show (⟨#[10, 97, 32, 32, 98, 32, 35, 32, 99]⟩ : ByteArray) = fixed from rfl, fixed_lns] at k1
  unfold fixed at k1
  have y := fixed_yes
  have n := fixed_no
  go_enter Try.func8, Try.ntmps8
  go_wp2_with fail
  refine k1.mono ?_
  rintro e w1 ⟨v, us, rfl, hL, hB⟩
  obtain ⟨g, cap, u, rfl, hc1, hc2, how, hg⟩ := hL.get (i := 0) rfl
  obtain ⟨g2, cap2, rfl, hx, hg2⟩ := how.get (k := 1) rfl
  clear hL how
  go_wp2_with fail
  refine (name_any _ _).mono ?_
  rintro e w2 ⟨rfl, rfl⟩
  rw [y]
  go_wp2_with fail
  refine (name_any _ _).mono ?_
  rintro e w2 ⟨rfl, rfl⟩
  rw [n]
  go_wp2
  go_ret
  exact ⟨rfl, hB⟩

theorem tl_words : ∀ (s : Bt) (n : Nat) (W : List Bt) (w : Bt) (off : Bool), ∀ x ∈ tl n W w off s, x.2.length ≤ W.length + 1 + s.length
  | [], n, W, w, off, x, h => by
    rw [tl] at h
    unfold ln1 at h
    split at h
    · simp at h
    · simp at h; subst h
      have : (fl w).length ≤ 1 := by unfold fl; split <;> simp
      simp only [List.length_append, List.length_nil]; omega
  | b :: s, n, W, w, off, x, h => by
    have h1 : (fl w).length ≤ 1 := by unfold fl; split <;> simp
    rw [tl] at h
    split at h
    · rcases List.mem_append.1 h with h | h
      · unfold ln1 at h
        split at h
        · simp at h
        · simp at h; subst h
          simp only [List.length_append, List.length_cons]; omega
      · have := tl_words s (n + 1) [] [] false x h
        simp only [List.length_nil, List.length_cons] at *; omega
    · split at h
      · have := tl_words s n (W ++ fl w) [] (off || b == 35) x h
        simp only [List.length_append, List.length_cons] at *; omega
      · have := tl_words s n W (w ++ [b]) off x h
        simp only [List.length_cons]; omega
theorem lns_len (s : ByteArray) : (lns s.data.toList).length ≤ s.size + 1 := tl_len _ _ _ _ _
theorem lns_words (s : ByteArray) : ∀ x ∈ lns s.data.toList, x.2.length ≤ 1 + s.size := fun x hx => by
  have := tl_words s.data.toList 1 [] [] false x hx
  have h1 : s.data.toList.length = s.size := rfl
  simp only [List.length_nil] at this
  omega

/-- the program's lines, as the document's: as one step -/
theorem both_any (s : ByteArray) (w : World) (hs : s.size ≤ 100000) : Calls Try.prog 11 #[.string s] w fun e w1 => ∃ v, e = .returned v ∧ Below w.heap.size w w1 ∧ ∀ w2, Below w1.heap.size w1 w2 → Calls Try.prog 10 #[v] w2 fun e w' => ∃ v' us', e = .returned v' ∧ Ls w' w2.heap.size 34 v' us' (lns s.data.toList) ∧ Below w2.heap.size w2 w' := by
  refine (lines_any s w hs).mono ?_
  rintro e w1 ⟨v, us, rfl, hL, hB⟩
  refine ⟨v, rfl, hB, fun w2 h2 => ?_⟩
  exact ref_any v us _ w2 _ (hL.below h2) (by have := lns_len s; omega)
theorem same_any (va vb : Value) (ua ub : List (Nat × Value)) (s : ByteArray) (lb : List (Nat × List Bt)) (w : World) (ba bb : Nat) (hs : s.size ≤ 100000) (hA : Ls w ba 34 va ua (lns s.data.toList)) (hB : Ls w bb 34 vb ub lb) (he : lns s.data.toList = lb) :
    Calls Try.prog 9 #[va, vb] w fun e w' => e = .returned (.bool true) ∧ Below w.heap.size w w' := by
  have k := equal_any va vb ua ub _ lb w ba bb hA hB (by have := lns_len s; omega) (fun x hx => by have := lns_words s x hx; omega)
  rw [decide_eq_true he] at k
  exact k

theorem lexLines_any (s : ByteArray) (w : World) : Calls Try.prog 3 #[.string s] w fun e w' => e = .returned (.bool true) ∧ Below w.heap.size w w' := by
  by_cases hg : 2048 < s.size
  · go_enter Try.func3, Try.ntmps3
    go_wp2_with fail
    refine (awake_any _).mono ?_
    rintro e w1 ⟨rfl, hB⟩
    go_wp2
    go_ret
    exact ⟨rfl, hB⟩
  · have k1 := both_any s w (by omega)
    have k2 : ∀ w, Calls Try.prog 12 #[.string s] w _ := fun w => refLines_any s w (by omega)
    have k3 : ∀ w, Calls Try.prog 14 #[.string s] w _ := fun w => refName_any s w (by omega)
    have k4 : ∀ va vb ua ub w ba bb, Ls w ba 34 va ua (lns s.data.toList) → Ls w bb 34 vb ub (lns s.data.toList) → Calls Try.prog 9 #[va, vb] w fun e w' => e = .returned (.bool true) ∧ Below w.heap.size w w' :=
      fun va vb ua ub w ba bb hA hB => same_any va vb ua ub s _ w ba bb (by omega) hA hB rfl
    go_enter Try.func3, Try.ntmps3
    go_wp2_with fail
    refine k1.mono ?_
    rintro e w1 ⟨v, rfl, hB1, h1⟩
    go_wp2_with fail
    refine (h1 _ (Below.refl _ _)).mono ?_
    rintro e w2 ⟨va, ua, rfl, hA, hB2⟩
    clear h1
    go_wp2_with fail
    refine (k2 _).mono ?_
    rintro e w3 ⟨vb, ub, rfl, hL, hB3⟩
    go_wp2_with fail
    refine (k4 va vb ua ub _ _ _ (hA.below hB3) hL).mono ?_
    rintro e w4 ⟨rfl, hB4⟩
    clear hA hL k4 k2 k1
    go_wp2_with fail
    refine (name_any _ _).mono ?_
    rintro e w5 ⟨rfl, rfl⟩
    go_wp2_with fail
    refine (k3 _).mono ?_
    rintro e w6 ⟨rfl, rfl⟩
    clear k3
    go_wp2_with fail
    refine (awake_any _).mono ?_
    rintro e w7 ⟨rfl, hB5⟩
    go_wp2
    go_ret
    exact ⟨by simp, hB1.trans ((hB2.trans ((hB3.trans ((hB4.trans (hB5.mono hB4.size)).mono hB3.size)).mono hB2.size)).mono hB1.size)⟩
end Go.Proofs.Ytmiljcoejgdpaaa
