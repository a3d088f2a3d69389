/-
  THE TEXT OF LIMBS: what a call of text gives. Conditions: each theorem's own (sizes; the limbs' form).
-/
import Derived.Test.YtpmnfgbbkmodpaaGreatDoorText
import Derived.Laws.BytesArg
namespace Go.Proofs.YtpmnfgbbkmodpaaGreatDoor
set_option maxRecDepth 100000
open Go.RowKit Nm
set_option linter.unusedVariables false

theorem Tryz.info5 : (Tryz.prog.info? 5).map (fun i => (i.zero, i.size, i.bytes)) = some (some (.int .u8 0), 1, 1) := by kernel_rfl

theorem S_zero : S 0 = ⟨#[48]⟩ := by
  have : tx 0 = [48] := tx_of (by decide) (by decide)
  simp [S, this]

set_option maxHeartbeats 400000 in
theorem text_none (ao : Option Addr) (cap : Nat) (w : World) :
    Calls Tryz.prog 105 #[.slice ao 0 cap] w fun e w' => e = .returned (.string (S 0)) ∧ w' = w := by
  rw [S_zero]
  go_enter Tryz.func105, Tryz.ntmps105
  go_wp2
  go_ret
  exact ⟨rfl, rfl⟩

/-- what the bytes hold when k limbs are written -/
structure Txt (o f : Nat → Nat) (n k : Nat) : Prop where
  dig : ∀ i, 9 * n - 9 * k ≤ i → i < 9 * n → 48 ≤ o i ∧ o i ≤ 57
  val : bd o (9 * n - 9 * k) (9 * k) = lv f k

theorem Txt.step {o f : Nat → Nat} {n k : Nat} (h : Txt o f n k) (hk : k < n) (hf : f k < 1000000000) : Txt (wl o (9 * n - 9 * k - 9) (f k) 0) f n (k + 1) := by
  have e1 : ∀ i, 9 * n - 9 * k ≤ i → wl o (9 * n - 9 * k - 9) (f k) 0 i = o i := fun i hi => by unfold wl; rw [if_neg (by omega)]
  have e2 : ∀ i, 9 * n - 9 * k - 9 ≤ i → i < 9 * n - 9 * k - 9 + 9 → wl o (9 * n - 9 * k - 9) (f k) 0 i = 48 + f k / 10 ^ (9 * n - 9 * k - 9 + 8 - i) % 10 := fun i a b => by unfold wl; rw [if_pos (by omega)]
  refine ⟨fun i a b => ?_, ?_⟩
  · by_cases c : 9 * n - 9 * k ≤ i
    · rw [e1 i c]; exact h.dig i c b
    · rw [e2 i (by omega) (by omega)]; omega
  · rw [show 9 * n - 9 * (k + 1) = 9 * n - 9 * k - 9 by omega, show 9 * (k + 1) = 9 + 9 * k by omega, bd_limb hf e2, show 9 * n - 9 * k - 9 + 9 = 9 * n - 9 * k by omega, bd_congr (fun i a b => e1 i a), h.val, lv_succ, Nat.pow_mul]
    rw [show (10 ^ 9 : Nat) = 1000000000 by decide]
    omega

set_option maxHeartbeats 1000000 in
theorem text_any (b off n cap : Nat) (f : Nat → Nat) (w : World) (hn : n ≤ 100000) (h0 : 0 < n) (hR : Rw w b off f n) (hN : Nrm f n) :
    Calls Tryz.prog 105 #[.slice (some ⟨b, off, none⟩) n cap] w fun e w' => e = .returned (.string (S (lv f n))) ∧ Below w.heap.size w w' := by
  obtain ⟨i0, hi, hz0, hz1, hz2⟩ := info_parts Tryz.info5
  have hb : b < w.heap.size := cell_lt (hR 0 h0)
  go_enter Tryz.func105, Tryz.ntmps105
  go_wp2_with (first | (at_make; refine wpList_make_full _ rfl _ _ 80 rfl w.heap.size 5 i0 (.int .u8 0) 1 Tryz.underlying80 hi hz0 hz1 _ _ _ _ (n * 9) rfl rfl (by omega) (by omega) (by rw [hz2]; omega) (by unfold maxLen; omega) (Nat.le_refl _) ?_))
  intro w1 hown1 hgrow1
  go_wp2_with fail
  have hO1 := Ow.of_own hown1
  have hB1 : Below w.heap.size w w1 := (Below.refl _ _).grown hgrow1 (Nat.le_refl _) (fun k h => by cases h)
  clear hown1 hgrow1
  go_loopw [17] (fun i wr => ∃ k o, k ≤ n ∧ i = .int .i64 (k : Nat) ∧ Ow wr .u8 w.heap.size o (n * 9) ∧ Txt o f n k ∧ Below w.heap.size w wr) (fun i _ => n - (intOf i).toNat)
  case atStart => exact ⟨0, fun _ => 0, by omega, rfl, hO1, ⟨fun i a b => by omega, rfl⟩, hB1⟩
  case round =>
    obtain ⟨k, o, hk, rfl, hO, hT, hB⟩ := hrel
    clear hO1 hB1
    by_cases hlt : k < n
    · have hc := (hR.below hB hb) k hlt
      have hf := hN.1 k hlt
      go_wp2_with fail
      rw [show n * 9 - k * 9 - (n * 9 - k * 9 - 9) = 9 by omega, show n * 9 - k * 9 - 9 = 9 * n - 9 * k - 9 by omega]
      refine (writeLimb_any w.heap.size (9 * n - 9 * k - 9) _ (f k) (n * 9) o _ hf (by omega) (by omega) (by omega) (by omega) hO).mono ?_
      rintro e w2 ⟨rfl, hO2, hW2⟩
      have hT2 := hT.step hlt hf
      have hB2 := hB.trans (hW2.below (Nat.le_refl _))
      clear hO hT hB hc
      go_wp2
      go_roundw
      case rel => exact ⟨k + 1, _, by omega, by go_num, hO2, hT2, hB2⟩
      case measure => simp [intOf]; omega
    · have hkn : k = n := by omega
      have HK : Hid (k = n) := hkn
      clear hkn
      have hpos : 0 < bd o 0 (n * 9) := by
        have h1 := hT.val
        rw [HK.out, Nat.sub_self, Nat.mul_comm 9 n] at h1
        rw [h1]
        have := hN.hi h0
        have := posB (n - 1)
        omega
      go_wp2_with fail
      go_loop [7] (fun i => ∃ p : Nat, p ≤ n * 9 ∧ i = .int .i64 (p : Nat) ∧ ∀ i, i < p → o i = 48) (fun i => n * 9 - (intOf i).toNat)
      case atStart => exact ⟨0, by omega, rfl, fun i h => by omega⟩
      case round =>
        obtain ⟨p, hp, rfl, hz⟩ := hrel
        have hlt2 : p < n * 9 := by
          rcases Nat.lt_or_ge p (n * 9) with c | c
          · exact c
          · exfalso
            have := bd_zeros (o := o) (k := n * 9) (m := 0) (p := 0) (fun i a b => hz i (by omega))
            simp only [Nat.add_zero] at this
            rw [this] at hpos
            simp [bd] at hpos
        have hc := hO.cell p hlt2
        by_cases hq : o p = 48
        · rw [hq] at hc
          go_wp2
          go_round
          case rel =>
            refine ⟨p + 1, by omega, by go_num, fun i hi => ?_⟩
            by_cases e : i = p
            · rw [e]; exact hq
            · exact hz i (by omega)
          case measure => simp [intOf]; omega
        · have hne : (((o p : Nat) : Int) == 48) = false := by simp; omega
          obtain ⟨xs, hxs⟩ : ∃ xs : List Int, xs = (List.range (n * 9 - p)).map fun i => ((o (p + i) : Nat) : Int) := ⟨_, rfl⟩
          have hcv := run_convert_bytes_arg (P := Tryz.prog) wr 80 5 Tryz.underlying80 Tryz.underlying5 w.heap.size p (n * 9 - p) (n * 9 - p) xs (by rw [hxs]; simp) (fun i hi => by rw [hO.cell (p + i) (by omega), hxs]; simp [hi]) 9 Tryz.underlying9
          have HX : Hid (xs = (List.range (n * 9 - p)).map fun i => ((o (p + i) : Nat) : Int)) := hxs
          clear hxs
          go_wp2
          go_ret
          have hfin : strOfNums xs = S (lv f n) := by
            have hdig : ∀ i, i < 9 * n → 48 ≤ o i ∧ o i ≤ 57 := fun i hi => hT.dig i (by rw [HK.out]; omega) hi
            have hl : (strOfNums xs).data.toList = (List.range (n * 9 - p)).map fun i => UInt8.ofNat (o (p + i)) := by
              rw [strOfNums_data, HX.out, List.map_map]
              apply List.map_congr_left
              intro i _
              simp
            have hr : rt (strOfNums xs).data.toList = true := by
              rw [hl]
              exact rt_row (by omega) (fun i a b => hdig i (by omega)) hq
            have hv : dv (strOfNums xs).data.toList = lv f n := by
              rw [hl, dv_bd (fun i a b => by have := hdig i (by omega); omega)]
              have h1 := hT.val
              rw [HK.out, Nat.sub_self, Nat.mul_comm 9 n] at h1
              rw [← h1]
              have h2 := bd_zeros (o := o) (k := p) (m := n * 9 - p) (p := 0) (fun i a b => hz i (by omega))
              rw [show p + (n * 9 - p) = n * 9 by omega, Nat.zero_add] at h2
              exact h2.symm
            rw [S_of hr, hv]
          exact ⟨by rw [← hfin]; rfl, hB⟩
end Go.Proofs.YtpmnfgbbkmodpaaGreatDoor
