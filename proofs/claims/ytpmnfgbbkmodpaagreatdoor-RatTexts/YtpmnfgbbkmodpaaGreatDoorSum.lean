/-
  SUMS AND DIFFERENCES OF LIMBS: what a call of add and subtract gives. Conditions: each theorem's own (sizes; the limbs' form).
-/
import Derived.Test.YtpmnfgbbkmodpaaGreatDoorShow
namespace Go.Proofs.YtpmnfgbbkmodpaaGreatDoor
set_option maxRecDepth 100000
open Go.RowKit Nm
set_option linter.unusedVariables false

/-- what a function of limbs hands back: a row of its own, in the form of limbs, with a value -/
def Res (w : World) (v : Nat) (e : Ending) (w' : World) : Prop :=
  ∃ g n cap f, e = .returned (.slice (some ⟨g, 0, none⟩) n cap) ∧ Ow w' .i64 g f n ∧ n ≤ cap ∧ cap ≤ 100000 ∧ w.heap.size ≤ g ∧ Nrm f n ∧ lv f n = v ∧ Below w.heap.size w w'

set_option maxHeartbeats 1000000 in
theorem add_lt (b1 o1 n1 c1 b2 o2 n2 c2 : Nat) (f g : Nat → Nat) (w : World) (hle : n1 < n2) (hn1 : n1 ≤ 20000) (hn2 : n2 ≤ 20000) (h1 : Rw w b1 o1 f n1) (h2 : Rw w b2 o2 g n2) (hf : ∀ i, i < n1 → f i < 1000000000) (hg : ∀ i, i < n2 → g i < 1000000000) :
    Calls Tryz.prog 146 #[.slice (some ⟨b1, o1, none⟩) n1 c1, .slice (some ⟨b2, o2, none⟩) n2 c2] w fun e w' => Res w (lv f n1 + lv g n2) e w' := by
  obtain ⟨i0, hi, hz0, hz1, hz2⟩ := info_parts Tryz.info2
  go_enter Tryz.func146, Tryz.ntmps146
  go_wp2_with (first | (at_make; refine wpList_make_full _ rfl _ _ 114 rfl w.heap.size 2 i0 (.int .i64 0) 1 Tryz.underlying114 hi hz0 hz1 _ _ _ _ (n2 + 1) rfl rfl (by omega) (by omega) (by rw [hz2]; omega) (by unfold maxLen; omega) (Nat.le_refl _) ?_))
  intro w1 hown1 hgrow1
  go_wp2_with fail
  have hO1 := Ow.of_own hown1
  have hB1 : Below w.heap.size w w1 := (Below.refl _ _).grown hgrow1 (Nat.le_refl _) (fun k h => by cases h)
  clear hown1 hgrow1
  go_loopw [7, 18] (fun c i wr => ∃ k o q, k ≤ n2 ∧ i = .int .i64 (k : Nat) ∧ c = .int .i64 (q : Nat) ∧ Ow wr .i64 w.heap.size o (n2 + 1) ∧ AddI o (ext f n1) (ext g n2) k q ∧ Below w.heap.size w wr) (fun _ i _ => n2 - (intOf i).toNat)
  case atStart => exact ⟨0, fun _ => 0, 0, by omega, rfl, rfl, hO1, ⟨fun i h => by omega, by omega, rfl⟩, hB1⟩
  case round =>
    obtain ⟨k, o, q, hk, rfl, rfl, hO, hA, hB⟩ := hrel
    clear hO1 hB1
    have hq := hA.car
    by_cases hlt : k < n2
    · have r1 := h1.below' hB
      have r2 := h2.below' hB
      have x1 := ext_lt hf k
      have x2 := ext_lt hg k
      have hcl := hO.cell k (by omega)
      have hfz := hO.frz k
      go_wp2_with fail
      refine (at_any b1 o1 n1 c1 k f _ (by omega) r1).mono ?_
      rintro e w2 ⟨rfl, rfl⟩
      go_wp2_with fail
      refine (at_any b2 o2 n2 c2 k g _ (by omega) r2).mono ?_
      rintro e w2 ⟨rfl, rfl⟩
      have hst := hA.step x1 x2
      generalize ext f n1 k = x at *
      generalize ext g n2 k = y at *
      go_wp2_with fail
      refine (split_any _ _ (by omega) (by omega)).mono ?_
      rintro e w2 ⟨rfl, rfl⟩
      have hst2 := hO.store (j := k) (by omega) ((x + y + q) % 1000000000)
      clear hcl
      have hcl2 := hO.cell k (by omega)
      go_wp2
      go_roundw
      case rel =>
        refine ⟨k + 1, _, _, by omega, by go_num, ?_, ?_, hst, hB.setCell (Nat.le_refl _) _⟩
        · go_num
        · simpa using hst2
      case measure => simp [intOf]; omega
    · obtain rfl : k = n2 := by omega
      have hcl := hO.cell k (by omega)
      have hfz := hO.frz k
      have hst2 := hO.store (j := k) (by omega) q
      have hB2 := hB.setCell (p := ⟨w.heap.size, k, none⟩) (Nat.le_refl _) (.int .i64 (q : Nat))
      go_wp2_with fail
      refine (trim_any w.heap.size 0 (k + 1) (k + 1) _ _ (by omega) (Nat.le_refl _) (by omega) hst2.rw).mono ?_
      rintro e w2 ⟨⟨n, hn, hzero, htop, rfl⟩, rfl⟩
      go_wp2
      go_ret
      refine ⟨w.heap.size, n, k + 1, _, rfl, ⟨fun i hi => hst2.cell i (by omega), hst2.frz, hst2.lt⟩, hn, by omega, Nat.le_refl _, ⟨fun i hi => ?_, htop⟩, ?_, hB2⟩
      · by_cases e : i = k
        · subst e; rw [up_same]; omega
        · rw [up_other _ _ e]; exact hA.lim i (by omega)
      · rw [← lv_cut hn hzero, lv_succ, up_same, lv_up (Nat.le_refl _), hA.val, lv_ext (by omega), lv_ext (by omega)]

set_option maxHeartbeats 1000000 in
theorem add_ge (b1 o1 n1 c1 b2 o2 n2 c2 : Nat) (f g : Nat → Nat) (w : World) (hle : n2 ≤ n1) (hn1 : n1 ≤ 20000) (hn2 : n2 ≤ 20000) (h1 : Rw w b1 o1 f n1) (h2 : Rw w b2 o2 g n2) (hf : ∀ i, i < n1 → f i < 1000000000) (hg : ∀ i, i < n2 → g i < 1000000000) :
    Calls Tryz.prog 146 #[.slice (some ⟨b1, o1, none⟩) n1 c1, .slice (some ⟨b2, o2, none⟩) n2 c2] w fun e w' => Res w (lv f n1 + lv g n2) e w' := by
  obtain ⟨i0, hi, hz0, hz1, hz2⟩ := info_parts Tryz.info2
  go_enter Tryz.func146, Tryz.ntmps146
  go_wp2_with (first | (at_make; refine wpList_make_full _ rfl _ _ 114 rfl w.heap.size 2 i0 (.int .i64 0) 1 Tryz.underlying114 hi hz0 hz1 _ _ _ _ (n1 + 1) rfl rfl (by omega) (by omega) (by rw [hz2]; omega) (by unfold maxLen; omega) (Nat.le_refl _) ?_))
  intro w1 hown1 hgrow1
  go_wp2_with fail
  have hO1 := Ow.of_own hown1
  have hB1 : Below w.heap.size w w1 := (Below.refl _ _).grown hgrow1 (Nat.le_refl _) (fun k h => by cases h)
  clear hown1 hgrow1
  go_loopw [7, 18] (fun c i wr => ∃ k o q, k ≤ n1 ∧ i = .int .i64 (k : Nat) ∧ c = .int .i64 (q : Nat) ∧ Ow wr .i64 w.heap.size o (n1 + 1) ∧ AddI o (ext f n1) (ext g n2) k q ∧ Below w.heap.size w wr) (fun _ i _ => n1 - (intOf i).toNat)
  case atStart => exact ⟨0, fun _ => 0, 0, by omega, rfl, rfl, hO1, ⟨fun i h => by omega, by omega, rfl⟩, hB1⟩
  case round =>
    obtain ⟨k, o, q, hk, rfl, rfl, hO, hA, hB⟩ := hrel
    clear hO1 hB1
    have hq := hA.car
    by_cases hlt : k < n1
    · have r1 := h1.below' hB
      have r2 := h2.below' hB
      have x1 := ext_lt hf k
      have x2 := ext_lt hg k
      have hcl := hO.cell k (by omega)
      have hfz := hO.frz k
      go_wp2_with fail
      refine (at_any b1 o1 n1 c1 k f _ (by omega) r1).mono ?_
      rintro e w2 ⟨rfl, rfl⟩
      go_wp2_with fail
      refine (at_any b2 o2 n2 c2 k g _ (by omega) r2).mono ?_
      rintro e w2 ⟨rfl, rfl⟩
      have hst := hA.step x1 x2
      generalize ext f n1 k = x at *
      generalize ext g n2 k = y at *
      go_wp2_with fail
      refine (split_any _ _ (by omega) (by omega)).mono ?_
      rintro e w2 ⟨rfl, rfl⟩
      have hst2 := hO.store (j := k) (by omega) ((x + y + q) % 1000000000)
      clear hcl
      have hcl2 := hO.cell k (by omega)
      go_wp2
      go_roundw
      case rel =>
        refine ⟨k + 1, _, _, by omega, by go_num, ?_, ?_, hst, hB.setCell (Nat.le_refl _) _⟩
        · go_num
        · simpa using hst2
      case measure => simp [intOf]; omega
    · obtain rfl : k = n1 := by omega
      have hcl := hO.cell k (by omega)
      have hfz := hO.frz k
      have hst2 := hO.store (j := k) (by omega) q
      have hB2 := hB.setCell (p := ⟨w.heap.size, k, none⟩) (Nat.le_refl _) (.int .i64 (q : Nat))
      go_wp2_with fail
      refine (trim_any w.heap.size 0 (k + 1) (k + 1) _ _ (by omega) (Nat.le_refl _) (by omega) hst2.rw).mono ?_
      rintro e w2 ⟨⟨n, hn, hzero, htop, rfl⟩, rfl⟩
      go_wp2
      go_ret
      refine ⟨w.heap.size, n, k + 1, _, rfl, ⟨fun i hi => hst2.cell i (by omega), hst2.frz, hst2.lt⟩, hn, by omega, Nat.le_refl _, ⟨fun i hi => ?_, htop⟩, ?_, hB2⟩
      · by_cases e : i = k
        · subst e; rw [up_same]; omega
        · rw [up_other _ _ e]; exact hA.lim i (by omega)
      · rw [← lv_cut hn hzero, lv_succ, up_same, lv_up (Nat.le_refl _), hA.val, lv_ext (by omega), lv_ext (by omega)]

theorem add_any (b1 o1 n1 c1 b2 o2 n2 c2 : Nat) (f g : Nat → Nat) (w : World) (hn1 : n1 ≤ 20000) (hn2 : n2 ≤ 20000) (h1 : Rw w b1 o1 f n1) (h2 : Rw w b2 o2 g n2) (hf : ∀ i, i < n1 → f i < 1000000000) (hg : ∀ i, i < n2 → g i < 1000000000) :
    Calls Tryz.prog 146 #[.slice (some ⟨b1, o1, none⟩) n1 c1, .slice (some ⟨b2, o2, none⟩) n2 c2] w fun e w' => Res w (lv f n1 + lv g n2) e w' := by
  by_cases h : n1 < n2
  · exact add_lt b1 o1 n1 c1 b2 o2 n2 c2 f g w h hn1 hn2 h1 h2 hf hg
  · exact add_ge b1 o1 n1 c1 b2 o2 n2 c2 f g w (by omega) hn1 hn2 h1 h2 hf hg
end Go.Proofs.YtpmnfgbbkmodpaaGreatDoor
