/-
  THE PARTS OF A LONG DIVISION: what a call of timesLimb, takeOff and putBack gives. Conditions: sizes; the limbs' form.
-/
import Derived.Test.YtpmnfgbbkmodpaaGreatDoorShort
import Derived.Test.YtpmnfgbbkmodpaaGreatDoorNmLong
namespace Go.Proofs.YtpmnfgbbkmodpaaGreatDoor
set_option maxRecDepth 100000
open Go.RowKit Nm
set_option linter.unusedVariables false

set_option maxHeartbeats 1000000 in
theorem timesLimb_any (b off n cap d : Nat) (f : Nat → Nat) (w : World) (hn : n ≤ 40000) (hd : d < 1000000000) (hR : Rw w b off f n) (hf : ∀ i, i < n → f i < 1000000000) :
    Calls Tryz.prog 142 #[.slice (some ⟨b, off, none⟩) n cap, .int .i64 d] w fun e w' => ∃ o, e = .returned (.slice (some ⟨w.heap.size, 0, none⟩) (n + 1) (n + 1)) ∧ Ow w' .i64 w.heap.size o (n + 1) ∧ (∀ i, i < n + 1 → o i < 1000000000) ∧ lv o (n + 1) = lv f n * d ∧ Below w.heap.size w w' := by
  obtain ⟨i0, hi, hz0, hz1, hz2⟩ := info_parts Tryz.info2
  go_enter Tryz.func142, Tryz.ntmps142
  go_wp2_with (first | (at_make; refine wpList_make_full _ rfl _ _ 114 rfl w.heap.size 2 i0 (.int .i64 0) 1 Tryz.underlying114 hi hz0 hz1 _ _ _ _ (n + 1) rfl rfl (by omega) (by omega) (by rw [hz2]; omega) (by unfold maxLen; omega) (Nat.le_refl _) ?_))
  intro w1 hown1 hgrow1
  go_wp2_with fail
  have hO1 := Ow.of_own hown1
  have hB1 : Below w.heap.size w w1 := (Below.refl _ _).grown hgrow1 (Nat.le_refl _) (fun k h => by cases h)
  clear hown1 hgrow1
  go_loopw [6, 15] (fun c i wr => ∃ k o q, k ≤ n ∧ i = .int .i64 (k : Nat) ∧ c = .int .i64 (q : Nat) ∧ Ow wr .i64 w.heap.size o (n + 1) ∧ TmI o f d k q ∧ Below w.heap.size w wr) (fun _ i _ => n - (intOf i).toNat)
  case atStart => exact ⟨0, fun _ => 0, 0, by omega, rfl, rfl, hO1, ⟨fun i h => by omega, by omega, by simp [lv]⟩, hB1⟩
  case round =>
    obtain ⟨k, o, q, hk, rfl, rfl, hO, hA, hB⟩ := hrel
    clear hO1 hB1
    have hq := hA.car
    by_cases hlt : k < n
    · have r1 := (hR.below' hB) k hlt
      have x1 := hf k hlt
      have hcl := hO.cell k (by omega)
      have hfz := hO.frz k
      have hb := mul_bd x1 hd
      have hm0 : (0 : Int) ≤ (f k : Int) * (d : Int) := by omega
      have hm1 : (f k : Int) * (d : Int) ≤ 999999998000000001 := by omega
      have hst := hA.step x1 hd
      have hst2 := hO.store (j := k) (by omega) ((f k * d + q) % 1000000000)
      go_wp2_with fail
      refine (split_any _ _ (by omega) (by omega)).mono ?_
      rintro e w2 ⟨rfl, rfl⟩
      go_wp2
      go_roundw
      case rel =>
        refine ⟨k + 1, _, _, by omega, by go_num, ?_, ?_, hst, hB.setCell (Nat.le_refl _) _⟩
        · simp
        · simpa using hst2
      case measure => simp [intOf]; omega
    · obtain rfl : k = n := by omega
      have hcl := hO.cell k (by omega)
      have hfz := hO.frz k
      have hst2 := hO.store (j := k) (by omega) q
      have hB2 := hB.setCell (p := ⟨w.heap.size, k, none⟩) (Nat.le_refl _) (.int .i64 (q : Nat))
      go_wp2
      go_ret
      refine ⟨_, rfl, hst2, fun i hi => ?_, ?_, hB2⟩
      · by_cases e : i = k
        · subst e; rw [up_same]; exact hq
        · rw [up_other _ _ e]; exact hA.lim i (by omega)
      · rw [lv_succ, up_same, lv_up (Nat.le_refl _), hA.val]

set_option maxHeartbeats 1000000 in
theorem takeOff_any (b i n N cp b2 o2 c2 q : Nat) (R v : Nat → Nat) (w : World) (hn : n ≤ 40000) (hi : i ≤ 40000) (hN : i + n < N) (hNN : N ≤ 100000) (hq : q < 1000000000) (hcp : n + 1 ≤ cp)
    (hO : Ow w .i64 b R N) (hR : ∀ t, t < N → R t < 1000000000) (hv : Rw w b2 o2 v n) (hvl : ∀ t, t < n → v t < 1000000000) (hne : b2 ≠ b) :
    Calls Tryz.prog 144 #[.slice (some ⟨b, i, none⟩) (n + 1) cp, .slice (some ⟨b2, o2, none⟩) n c2, .int .i64 q] w fun e w' => ∃ S m, e = .returned (.bool (decide (m = 1))) ∧ m ≤ 1 ∧ Ow w' .i64 b S N ∧ (∀ t, t < N → S t < 1000000000) ∧ (∀ t, t < i ∨ i + (n + 1) ≤ t → S t = R t) ∧
      lv (sh S i) (n + 1) + q * lv v n = lv (sh R i) (n + 1) + m * 1000000000 ^ (n + 1) ∧ Wr w w' b := by
  go_enter Tryz.func144, Tryz.ntmps144
  go_wp2_with fail
  go_loopw [8, 15] (fun c j wr => ∃ k S m, k ≤ n ∧ j = .int .i64 (k : Nat) ∧ c = .int .i64 (-((m : Nat) : Int)) ∧ Ow wr .i64 b S N ∧ TkI S R v N i q k m ∧ Wr w wr b) (fun _ j _ => n - (intOf j).toNat)
  case atStart => exact ⟨0, R, 0, by omega, rfl, rfl, hO, ⟨hR, fun _ _ => rfl, by omega, by simp [lv]⟩, Wr.refl _ _⟩
  case round =>
    obtain ⟨k, S, m, hk, rfl, rfl, hOr, hI, hW⟩ := hrel
    have hm := hI.car
    by_cases hlt : k < n
    · have r1 := (hv.kept hW hne) k hlt
      have x1 := hvl k hlt
      have hb := mul_bd x1 hq
      have hm0 : (0 : Int) ≤ (v k : Int) * (q : Int) := by omega
      have hm1 : (v k : Int) * (q : Int) ≤ 999999998000000001 := by omega
      have hcl := hOr.cell (i + k) (by omega)
      have hfz := hOr.frz (i + k)
      have hlim := hI.lim (i + k) (by omega)
      obtain ⟨l, m', e1, e2, e3, hst⟩ := hI.step (by omega) x1 hq
      have E1 : Hid _ := e1
      have E2 : Hid _ := e2
      clear e1 e2
      have hst2 := hOr.store (j := i + k) (by omega) l
      go_wp2_with fail
      refine (split_any _ _ (by omega) (by omega)).mono ?_
      rintro e w2 ⟨rfl, rfl⟩
      rw [E1.out, E2.out]
      go_wp2
      go_roundw
      case rel => exact ⟨k + 1, _, m', by omega, by go_num, rfl, hst2, hst, hW.setCell _ _⟩
      case measure => simp [intOf]; omega
    · obtain rfl : k = n := by omega
      have hcl := hOr.cell (i + k) (by omega)
      have hfz := hOr.frz (i + k)
      have hlim := hI.lim (i + k) (by omega)
      obtain ⟨l, m', e1, e2, e3, e4, e5, e6, e7⟩ := hI.last (by omega)
      have E1 : Hid _ := e1
      have E2 : Hid _ := e2
      have E7 : Hid _ := e7
      clear e1 e2 e7
      have hst2 := hOr.store (j := i + k) (by omega) l
      go_wp2_with fail
      refine (split_any _ _ (by omega) (by omega)).mono ?_
      rintro e w2 ⟨rfl, rfl⟩
      rw [E1.out, E2.out]
      go_wp2
      go_ret
      refine ⟨_, m', ?_, e4, hst2, e5, e6, E7.out, hW.setCell _ _⟩
      by_cases c : m' = 1
      · subst c; rfl
      · have : m' = 0 := by omega
        subst this; rfl

set_option maxHeartbeats 1000000 in
theorem putBack_any (b i n N cp b2 o2 c2 : Nat) (R v : Nat → Nat) (w : World) (hn : n ≤ 40000) (hi : i ≤ 40000) (hN : i + n < N) (hNN : N ≤ 100000) (hcp : n + 1 ≤ cp)
    (hO : Ow w .i64 b R N) (hR : ∀ t, t < N → R t < 1000000000) (hv : Rw w b2 o2 v n) (hvl : ∀ t, t < n → v t < 1000000000) (hne : b2 ≠ b) :
    Calls Tryz.prog 145 #[.slice (some ⟨b, i, none⟩) (n + 1) cp, .slice (some ⟨b2, o2, none⟩) n c2] w fun e w' => ∃ S c, e = .returned (.tuple #[]) ∧ Ow w' .i64 b S N ∧ (∀ t, t < N → S t < 1000000000) ∧ (∀ t, t < i ∨ i + (n + 1) ≤ t → S t = R t) ∧
      lv (sh S i) (n + 1) + c * 1000000000 ^ (n + 1) = lv (sh R i) (n + 1) + lv v n ∧ Wr w w' b := by
  go_enter Tryz.func145, Tryz.ntmps145
  go_wp2_with fail
  go_loopw [5, 12] (fun c j wr => ∃ k S m, k ≤ n ∧ j = .int .i64 (k : Nat) ∧ c = .int .i64 (m : Nat) ∧ Ow wr .i64 b S N ∧ PbI S R v N i k m ∧ Wr w wr b) (fun _ j _ => n - (intOf j).toNat)
  case atStart => exact ⟨0, R, 0, by omega, rfl, rfl, hO, ⟨hR, fun _ _ => rfl, by omega, by simp [lv]⟩, Wr.refl _ _⟩
  case round =>
    obtain ⟨k, S, m, hk, rfl, rfl, hOr, hI, hW⟩ := hrel
    have hm := hI.car
    by_cases hlt : k < n
    · have r1 := (hv.kept hW hne) k hlt
      have x1 := hvl k hlt
      have hcl := hOr.cell (i + k) (by omega)
      have hfz := hOr.frz (i + k)
      have hlim := hI.lim (i + k) (by omega)
      have hst := hI.step (by omega) x1
      have hst2 := hOr.store (j := i + k) (by omega) ((S (i + k) + v k + m) % 1000000000)
      go_wp2_with fail
      refine (split_any _ _ (by omega) (by omega)).mono ?_
      rintro e w2 ⟨rfl, rfl⟩
      go_wp2
      go_roundw
      case rel =>
        refine ⟨k + 1, _, _, by omega, by go_num, ?_, ?_, hst, hW.setCell _ _⟩
        · simp
        · simpa using hst2
      case measure => simp [intOf]; omega
    · obtain rfl : k = n := by omega
      have hcl := hOr.cell (i + k) (by omega)
      have hfz := hOr.frz (i + k)
      have hlim := hI.lim (i + k) (by omega)
      obtain ⟨e5, e6, e7⟩ := hI.last (by omega)
      have E7 : Hid _ := e7
      clear e7
      have hst2 := hOr.store (j := i + k) (by omega) ((S (i + k) + m) % 1000000000)
      go_wp2_with fail
      refine (split_any _ _ (by omega) (by omega)).mono ?_
      rintro e w2 ⟨rfl, rfl⟩
      go_wp2
      go_end0
      refine ⟨_, _, rfl, ?_, e5, e6, E7.out, hW.setCell _ _⟩
      simpa using hst2
end Go.Proofs.YtpmnfgbbkmodpaaGreatDoor
