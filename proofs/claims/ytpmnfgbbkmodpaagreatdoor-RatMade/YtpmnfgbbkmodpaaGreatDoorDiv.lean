/-
  QUOTIENTS OF TEXTS: what a call of divide and of Div gives, whatever the divisor. Conditions: sizes; the divisor is above 0.
-/
import Derived.Test.YtpmnfgbbkmodpaaGreatDoorLong
import Derived.Test.YtpmnfgbbkmodpaaGreatDoorAwake
namespace Go.Proofs.YtpmnfgbbkmodpaaGreatDoor
set_option maxRecDepth 100000
open Go.RowKit Nm
set_option linter.unusedVariables false

set_option maxHeartbeats 1000000 in
theorem divide_long (b1 n1 c1 b2 m c2 : Nat) (f g : Nat → Nat) (w : World) (hn1 : n1 ≤ 10000) (h1 : Rw w b1 0 f n1) (h2 : Rw w b2 0 g (m + 2)) (hf : Nrm f n1) (hg : Nrm g (m + 2)) (hle : lv g (m + 2) ≤ lv f n1) :
    Calls Tryz.prog 106 #[.slice (some ⟨b1, 0, none⟩) n1 c1, .slice (some ⟨b2, 0, none⟩) (m + 2) c2] w fun e w' => Quo w (lv f n1) (lv g (m + 2)) e w' := by
  have hsg : ¬ sg (lv f n1 : Nat) (lv g (m + 2) : Nat) < 0 := sg_nonneg (by omega)
  have h12 : m + 2 ≤ n1 := hg.len_le hf hle
  have hne : (((m : Int) + 2) == 1) = false := by simp; omega
  go_enter Tryz.func106, Tryz.ntmps106
  go_wp2_with fail
  refine (compare_any b1 0 n1 c1 b2 0 (m + 2) c2 f g _ (by omega) (by omega) h1 h2 hf hg).mono ?_
  rintro e w1 ⟨rfl, hS⟩
  have h1' := h1.sm hS
  have h2' := h2.sm hS
  go_wp2_with fail
  refine (divideLong_any b1 n1 c1 b2 m c2 f g _ hn1 h1' h2' hf hg hle).mono ?_
  rintro e w2 ⟨ao, m3, c3, q, g4, n, c4, r, rfl, hq, hqn, hqv, hm, hO, hnc, hrn, hrv, hn, hg4, hB, hSh⟩
  go_wp2
  go_ret2
  exact ⟨ao, m3, c3, q, g4, n, c4, r, rfl, hq, hqn, hqv, hm, hO, hnc, hrn, hrv, hn, by rw [← hS.heap]; exact hg4, (hS.below w.heap.size).trans (hB.mono (by rw [hS.heap]; exact Nat.le_refl _)), hSh⟩

theorem divide_any (b1 n1 c1 b2 n2 c2 : Nat) (f g : Nat → Nat) (w : World) (hn1 : n1 ≤ 10000) (hn2 : n2 ≤ 10000) (h1 : Rw w b1 0 f n1) (h2 : Rw w b2 0 g n2) (hf : Nrm f n1) (hg : Nrm g n2) (h0 : 0 < lv g n2) :
    Calls Tryz.prog 106 #[.slice (some ⟨b1, 0, none⟩) n1 c1, .slice (some ⟨b2, 0, none⟩) n2 c2] w fun e w' => Quo w (lv f n1) (lv g n2) e w' := by
  by_cases hlt : lv f n1 < lv g n2
  · exact divide_lt b1 0 n1 c1 b2 0 n2 c2 f g w (by omega) (by omega) h1 h2 hf hg hlt
  · rcases Nat.lt_trichotomy n2 1 with c | c | c
    · have : n2 = 0 := by omega
      subst this; simp [lv] at h0
    · subst c; exact divide_one b1 0 n1 c1 b2 0 c2 f g w (by omega) h1 h2 hf hg (by omega)
    · obtain ⟨m, rfl⟩ : ∃ m, n2 = m + 2 := ⟨n2 - 2, by omega⟩
      exact divide_long b1 n1 c1 b2 m c2 f g w hn1 h1 h2 hf hg (by omega)

theorem Div_any (x y : Nat) (w : World) (hx : tl x ≤ 10000) (hy : tl y ≤ 10000) (h0 : 0 < y) :
    Calls Tryz.prog 82 #[.string (S x), .string (S y)] w fun e w' => e = .returned (.tuple #[.string (S (x / y)), .string (S (x % y)), .int .i64 0]) ∧ Below w.heap.size w w' := by
  refine Div_of x y w hx hy h0 ?_
  intro b1 n1 c1 b2 n2 c2 f g w' hn1 hn2 h1 h2 hf hg e1 e2
  subst e1; subst e2
  exact divide_any b1 n1 c1 b2 n2 c2 f g w' hn1 hn2 h1 h2 hf hg h0
end Go.Proofs.YtpmnfgbbkmodpaaGreatDoor
