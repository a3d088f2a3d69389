/-
  PRODUCTS OF LIMBS: what a call of multiply gives. Conditions: sizes; the limbs' form.
-/
import Derived.Test.YtpmnfgbbkmodpaaGreatDoorSum
import Derived.Test.YtpmnfgbbkmodpaaGreatDoorNmMul
namespace Go.Proofs.YtpmnfgbbkmodpaaGreatDoor
set_option maxRecDepth 100000
open Go.RowKit Nm
set_option linter.unusedVariables false
set_option maxHeartbeats 1000000 in
theorem multiply_any (b1 o1 n1 c1 b2 o2 n2 c2 : Nat) (f g : Nat → Nat) (w : World) (hn1 : n1 ≤ 20000) (hn2 : n2 ≤ 20000) (h1 : Rw w b1 o1 f n1) (h2 : Rw w b2 o2 g n2) (hf : ∀ i, i < n1 → f i < 1000000000) (hg : ∀ i, i < n2 → g i < 1000000000) :
    Calls Tryz.prog 132 #[.slice (some ⟨b1, o1, none⟩) n1 c1, .slice (some ⟨b2, o2, none⟩) n2 c2] w fun e w' => Res w (lv f n1 * lv g n2) e w' := by
  obtain ⟨i0, hi, hz0, hz1, hz2⟩ := info_parts Tryz.info2
  go_enter Tryz.func132, Tryz.ntmps132
  go_wp2_with (first | (at_make; refine wpList_make_full _ rfl _ _ 114 rfl w.heap.size 2 i0 (.int .i64 0) 1 Tryz.underlying114 hi hz0 hz1 _ _ _ _ (n1 + n2) rfl rfl (by omega) (by omega) (by rw [hz2]; omega) (by unfold maxLen; omega) (Nat.le_refl _) ?_))
  intro w1 hown1 hgrow1
  go_wp2_with fail
  have hO1 := Ow.of_own hown1
  have hB1 : Below w.heap.size w w1 := (Below.refl _ _).grown hgrow1 (Nat.le_refl _) (fun k h => by cases h)
  clear hown1 hgrow1
  go_loopw [20] (fun i wr => ∃ k p, k ≤ n1 ∧ i = .int .i64 (k : Nat) ∧ Ow wr .i64 w.heap.size p (n1 + n2) ∧ MulI p f (n1 + n2) n2 (lv g n2) k ∧ Below w.heap.size w wr) (fun i _ => n1 - (intOf i).toNat)
  case atStart => exact ⟨0, fun _ => 0, by omega, rfl, hO1, MulI.start, hB1⟩
  case round =>
    obtain ⟨k, P, hk, rfl, hO, hI, hB⟩ := hrel
    clear hO1 hB1
    by_cases hlt : k < n1
    · have r1 := (h1.below' hB) k hlt
      have x1 := hf k hlt
      go_wp2_with fail
      obtain ⟨wo, hwo⟩ : ∃ wo : World, wo = wr := ⟨_, rfl⟩
      subst hwo
      go_loopw [8, 27] (fun c i wr => ∃ j p q, j ≤ n2 ∧ i = .int .i64 (j : Nat) ∧ c = .int .i64 (q : Nat) ∧ Ow wr .i64 w.heap.size p (n1 + n2) ∧ MulJ p P g (n1 + n2) k j q (f k) ∧ Below w.heap.size w wr) (fun _ i _ => n2 - (intOf i).toNat)
      case atStart => exact ⟨0, P, 0, by omega, rfl, rfl, hO, MulJ.start hI.lim, hB⟩
      case round =>
        obtain ⟨j, p, q, hj, rfl, rfl, hO', hJ, hB'⟩ := hrel
        have hq := hJ.car
        by_cases hlt2 : j < n2
        · have r2 := (h2.below' hB') j hlt2
          have x2 := hg j hlt2
          have hb := mul_bd x1 x2
          have hcl := hO'.cell (k + j) (by omega)
          have hfz := hO'.frz (k + j)
          have hpl := hJ.lim (k + j) (by omega)
          have hst := hJ.step (by omega) x1 x2
          have hm0 : (0 : Int) ≤ (f k : Int) * (g j : Int) := by omega
          have hm1 : (f k : Int) * (g j : Int) ≤ 999999998000000001 := by omega
          have hst2 := hO'.store (j := k + j) (by omega) ((p (k + j) + f k * g j + q) % 1000000000)
          go_wp2
          go_roundw
          case rel =>
            refine ⟨j + 1, _, _, by omega, by go_num, ?_, ?_, hst, hB'.setCell (Nat.le_refl _) _⟩
            · simp
            · simpa using hst2
          case measure => simp [intOf]; omega
        · obtain rfl : j = n2 := by omega
          have hcl := hO'.cell (k + j) (by omega)
          have hfz := hO'.frz (k + j)
          have hst := hI.step hJ (by omega)
          have hst2 := hO'.store (j := k + j) (by omega) q
          go_wp2
          go_roundw
          case rel => exact ⟨k + 1, _, by omega, by go_num, hst2, hst, hB'.setCell (Nat.le_refl _) _⟩
          case measure => simp [intOf]; omega
    · obtain rfl : k = n1 := by omega
      go_wp2_with fail
      refine (trim_any w.heap.size 0 (k + n2) (k + n2) _ _ (by omega) (Nat.le_refl _) (by omega) hO.rw).mono ?_
      rintro e w2 ⟨⟨n, hn, hzero, htop, rfl⟩, rfl⟩
      go_wp2
      go_ret
      exact ⟨w.heap.size, n, k + n2, _, rfl, ⟨fun i hi => hO.cell i (by omega), hO.frz, hO.lt⟩, hn, by omega, Nat.le_refl _, ⟨fun i hi => hI.lim i (by omega), htop⟩, by rw [← lv_cut hn hzero, hI.val], hB⟩
end Go.Proofs.YtpmnfgbbkmodpaaGreatDoor
