/-
  DIFFERENCES OF LIMBS: what a call of subtract gives. Conditions: sizes; the limbs' form; the second number is at most the first.
-/
import Derived.Test.YtpmnfgbbkmodpaaGreatDoorSum
import Derived.Deep.RegionWith
namespace Go.Proofs.YtpmnfgbbkmodpaaGreatDoor
set_option maxRecDepth 100000
open Go.RowKit Nm
set_option linter.unusedVariables false
set_option maxHeartbeats 1000000 in
theorem subtract_any (b1 o1 n1 c1 b2 o2 n2 c2 : Nat) (f g : Nat → Nat) (w : World) (hn1 : n1 ≤ 20000) (hn2 : n2 ≤ n1) (h1 : Rw w b1 o1 f n1) (h2 : Rw w b2 o2 g n2) (hf : ∀ i, i < n1 → f i < 1000000000) (hg : ∀ i, i < n2 → g i < 1000000000) (hle : lv g n2 ≤ lv f n1) :
    Calls Tryz.prog 147 #[.slice (some ⟨b1, o1, none⟩) n1 c1, .slice (some ⟨b2, o2, none⟩) n2 c2] w fun e w' => Res w (lv f n1 - lv g n2) e w' := by
  obtain ⟨i0, hi, hz0, hz1, hz2⟩ := info_parts Tryz.info2
  go_enter Tryz.func147, Tryz.ntmps147
  go_wp2_with (first | (at_make; refine wpList_make_full _ rfl _ _ 114 rfl w.heap.size 2 i0 (.int .i64 0) 1 Tryz.underlying114 hi hz0 hz1 _ _ _ _ n1 rfl rfl (by omega) (by omega) (by rw [hz2]; omega) (by unfold maxLen; omega) (Nat.le_refl _) ?_))
  intro w1 hown1 hgrow1
  go_wp2_with fail
  have hO1 := Ow.of_own hown1
  have hB1 : Below w.heap.size w w1 := (Below.refl _ _).grown hgrow1 (Nat.le_refl _) (fun k h => by cases h)
  clear hown1 hgrow1
  go_loopw [6, 13] (fun c i wr => ∃ k o q, k ≤ n1 ∧ i = .int .i64 (k : Nat) ∧ c = .int .i64 (-((q : Nat) : Int)) ∧ Ow wr .i64 w.heap.size o n1 ∧ SubI o f (ext g n2) k q ∧ Below w.heap.size w wr) (fun _ i _ => n1 - (intOf i).toNat)
  case atStart => exact ⟨0, fun _ => 0, 0, by omega, rfl, rfl, hO1, ⟨fun i h => by omega, by omega, rfl⟩, hB1⟩
  case round =>
    obtain ⟨k, o, q, hk, rfl, rfl, hO, hA, hB⟩ := hrel
    clear hO1 hB1
    have hq := hA.car
    by_cases hlt : k < n1
    · have r1 := (h1.below' hB) k hlt
      have r2 := h2.below' hB
      have x1 := hf k hlt
      have x2 := ext_lt hg k
      have hcl := hO.cell k (by omega)
      have hfz := hO.frz k
      obtain ⟨l, d, hl, hd, hst⟩ := hA.step x1 x2
      have HL : Hid _ := hl
      have HE : Hid _ := hd
      clear hl hd
      have hw1 : IntKind.i64.wrap ((f k : Int) - (ext g n2 k : Int)) = (f k : Int) - (ext g n2 k : Int) := by rw [IntKind.wrap_i64]; omega
      have hw2 : IntKind.i64.wrap ((f k : Int) - (ext g n2 k : Int) + -(q : Int)) = (f k : Int) - (ext g n2 k : Int) + -(q : Int) := by rw [IntKind.wrap_i64]; omega
      have hst2 := hO.store (j := k) (by omega) l
      go_wp2_with fail
      go_region_with (first | (go_at_call 141; refine (at_any b2 o2 n2 c2 k g _ (by omega) (by exact r2)).mono ?_; rintro e w2 ⟨rfl, rfl⟩) | (go_at_call 140; refine (split_any _ _ (by omega) (by omega)).mono ?_; rintro e w2 ⟨rfl, rfl⟩))
      all_goals (go_wp2_with fail)
      all_goals go_roundw
      case rel =>
        refine ⟨k + 1, _, d, by omega, by go_num, ?_, ?_, hst, ?_⟩
        · rw [HE.out]
        · rw [HL.out]; exact hst2.drew
        · exact (hB.drew.setCell (Nat.le_refl _) _)
      case measure => simp [intOf]; omega
      case rel =>
        refine ⟨k + 1, _, d, by omega, by go_num, ?_, ?_, hst, ?_⟩
        · rw [HE.out]
        · rw [HL.out]; exact hst2.drew
        · exact (hB.drew.setCell (Nat.le_refl _) _)
      case measure => simp [intOf]; omega
    · obtain rfl : k = n1 := by omega
      go_wp2_with fail
      refine (trim_any w.heap.size 0 k k _ _ (by omega) (Nat.le_refl _) (by omega) hO.rw).mono ?_
      rintro e w2 ⟨⟨n, hn, hzero, htop, rfl⟩, rfl⟩
      go_wp2
      go_ret
      exact ⟨w.heap.size, n, k, _, rfl, ⟨fun i hi => hO.cell i (by omega), hO.frz, hO.lt⟩, hn, by omega, Nat.le_refl _, ⟨fun i hi => hA.lim i (by omega), htop⟩, by rw [← lv_cut hn hzero, hA.done hn2 hle], hB⟩
end Go.Proofs.YtpmnfgbbkmodpaaGreatDoor
