/-
  THE SMALLEST FUNCTIONS: what a call of each gives. Conditions: each theorem's own.
-/
import Derived.Test.YtpmnfgbbkmodpaaGreatDoorRows
import Derived.Test.YtpmnfgbbkmodpaaGreatDoorMem
import Derived.WalkKit
import Derived.WalkSpells
import Derived.WalkLawsBesides
namespace Go.Proofs.YtpmnfgbbkmodpaaGreatDoor
set_option maxRecDepth 100000
open Go.RowKit Nm
set_option linter.unusedVariables false

theorem tmod_neg (n : Int) (h : n < 0) : n.tmod 1000000000 = -((-n) % 1000000000) ∧ n.tdiv 1000000000 = -((-n) / 1000000000) := by
  have a := Int.neg_tmod (-n) 1000000000
  have b := Int.neg_tdiv (-n) 1000000000
  rw [Int.neg_neg] at a b
  rw [a, b, Int.tmod_eq_emod_of_nonneg (by omega), Int.tdiv_eq_ediv_of_nonneg (by omega)]
  exact ⟨rfl, rfl⟩

theorem ret2_int {k : IntKind} {a b c d : Int} (h : a = c) (h' : b = d) : Ending.returned (.tuple #[.int k a, .int k b]) = .returned (.tuple #[.int k c, .int k d]) := by rw [h, h']
theorem ret_int {k : IntKind} {a b : Int} (h : a = b) : Ending.returned (.int k a) = .returned (.int k b) := by rw [h]

set_option maxHeartbeats 400000 in
theorem split_any (n : Int) (w : World) (h1 : -4000000000000000000 ≤ n) (h2 : n ≤ 4000000000000000000) :
    Calls Tryz.prog 140 #[.int .i64 n] w fun e w' => e = .returned (.tuple #[.int .i64 (n % 1000000000), .int .i64 (n / 1000000000)]) ∧ w' = w := by
  by_cases h : 0 ≤ n
  · go_enter Tryz.func140, Tryz.ntmps140
    go_wp2
    all_goals go_ret2
    all_goals exact ⟨rfl, rfl⟩
  · have ht := tmod_neg n (by omega)
    have hb1 : -1000000000 < n.tmod 1000000000 := by omega
    have hb2 : n.tmod 1000000000 ≤ 0 := by omega
    have hb3 : -4000000000 ≤ n.tdiv 1000000000 := by omega
    have hb4 : n.tdiv 1000000000 ≤ 0 := by omega
    have H : Hid (n.tmod 1000000000 = -((-n) % 1000000000) ∧ n.tdiv 1000000000 = -((-n) / 1000000000)) := ht
    clear ht
    go_enter Tryz.func140, Tryz.ntmps140
    go_wp2
    · have hx : n.tmod 1000000000 < 0 := by assumption
      go_ret2
      have := H.out
      exact ⟨ret2_int (by omega) (by omega), rfl⟩
    · have hx : 0 ≤ n.tmod 1000000000 := by assumption
      go_ret2
      have := H.out
      exact ⟨ret2_int (by omega) (by omega), rfl⟩

set_option maxHeartbeats 400000 in
theorem at_in (b off len cap i : Nat) (f : Nat → Nat) (w : World) (hl : len ≤ 1000000) (hR : Rw w b off f len) (hi : i < len) :
    Calls Tryz.prog 141 #[.slice (some ⟨b, off, none⟩) len cap, .int .i64 i] w fun e w' => e = .returned (.int .i64 (f i : Nat)) ∧ w' = w := by
  have hc := hR i hi
  go_enter Tryz.func141, Tryz.ntmps141
  go_wp2
  go_ret
  exact ⟨rfl, rfl⟩

set_option maxHeartbeats 400000 in
theorem at_out (ao : Option Addr) (len cap i : Nat) (w : World) (hl : len ≤ 1000000) (hi : ¬ i < len) :
    Calls Tryz.prog 141 #[.slice ao len cap, .int .i64 i] w fun e w' => e = .returned (.int .i64 0) ∧ w' = w := by
  go_enter Tryz.func141, Tryz.ntmps141
  go_wp2
  go_ret
  exact ⟨rfl, rfl⟩

theorem at_any (b off len cap i : Nat) (f : Nat → Nat) (w : World) (hl : len ≤ 1000000) (hR : Rw w b off f len) :
    Calls Tryz.prog 141 #[.slice (some ⟨b, off, none⟩) len cap, .int .i64 i] w fun e w' => e = .returned (.int .i64 (ext f len i : Nat)) ∧ w' = w := by
  by_cases h : i < len
  · refine (at_in b off len cap i f w hl hR h).mono ?_
    rintro e w' ⟨rfl, rfl⟩
    simp [ext, h]
  · refine (at_out (some ⟨b, off, none⟩) len cap i w hl h).mono ?_
    rintro e w' ⟨rfl, rfl⟩
    simp [ext, h]

set_option maxHeartbeats 400000 in
theorem trim_any (b off len cap : Nat) (f : Nat → Nat) (w : World) (hl : len ≤ 1000000) (hlc : len ≤ cap) (hcap : cap ≤ 2000000) (hR : Rw w b off f len) :
    Calls Tryz.prog 125 #[.slice (some ⟨b, off, none⟩) len cap] w fun e w' => (∃ n, n ≤ len ∧ (∀ i, n ≤ i → i < len → f i = 0) ∧ (n = 0 ∨ f (n - 1) ≠ 0) ∧ e = .returned (.slice (some ⟨b, off, none⟩) n cap)) ∧ w' = w := by
  go_enter Tryz.func125, Tryz.ntmps125
  go_wp2
  go_loop [3] (fun i => ∃ k : Nat, k ≤ len ∧ i = .int .i64 k ∧ (∀ i, k ≤ i → i < len → f i = 0)) (fun i => (intOf i).toNat)
  case atStart => exact ⟨len, Nat.le_refl _, rfl, fun i a b => by omega⟩
  case round =>
    obtain ⟨k, hk, rfl, hz⟩ := hrel
    by_cases h0 : 0 < k
    · have hc := hR (k - 1) (by omega)
      by_cases hf : f (k - 1) = 0
      · rw [hf] at hc
        go_wp2
        go_round
        case rel =>
          refine ⟨k - 1, by omega, by go_num, fun i a b => ?_⟩
          by_cases e : i = k - 1
          · rw [e]; exact hf
          · exact hz i (by omega) b
        case measure => simp [intOf]; omega
      · have hne : (((f (k - 1) : Nat) : Int) == 0) = false := by simp [hf]
        go_wp2
        go_ret
        exact ⟨⟨k, hk, hz, Or.inr hf, rfl⟩, rfl⟩
    · go_wp2
      go_ret
      exact ⟨⟨k, hk, hz, Or.inl (by omega), rfl⟩, rfl⟩

theorem take_snoc (s : ByteArray) (k : Nat) (h : k < s.size) : s.data.toList.take (k + 1) = s.data.toList.take k ++ [s[k]] := by
  rw [List.take_succ_eq_append_getElem (by simpa using h)]; rfl

theorem mem_at (s : ByteArray) (k : Nat) (h : k < s.size) : s[k] ∈ s.data.toList := by
  have : s[k] = s.data.toList[k]'(by simpa using h) := rfl
  rw [this]; exact List.getElem_mem _

set_option maxHeartbeats 400000 in
theorem parseLimb_any (s : ByteArray) (w : World) (hs : s.size ≤ 9) (hd : Dg s.data.toList) :
    Calls Tryz.prog 124 #[.string s] w fun e w' => e = .returned (.int .i64 (dv s.data.toList : Nat)) ∧ w' = w := by
  go_enter Tryz.func124, Tryz.ntmps124
  go_wp2
  go_loop [3, 7] (fun n i => ∃ k : Nat, k ≤ s.size ∧ i = .int .i64 k ∧ n = .int .i64 (dv (s.data.toList.take k) : Nat)) (fun _ i => s.size - (intOf i).toNat)
  case atStart => exact ⟨0, Nat.zero_le _, rfl, rfl⟩
  case round =>
    obtain ⟨k, hk, rfl, rfl⟩ := hrel
    by_cases hlt : k < s.size
    · have hl : (s.data.toList.take k).length ≤ k := List.length_take_le _ _
      have h1 := dv_lt (l := s.data.toList.take k) (fun c hc => hd c (List.mem_of_mem_take hc))
      have h2 : 10 ^ (s.data.toList.take k).length ≤ 10 ^ 8 := Nat.pow_le_pow_right (by omega) (by omega)
      have hbd : dv (s.data.toList.take k) < 100000000 := by omega
      have hdig := hd _ (mem_at s k hlt)
      have hd1 : 48 ≤ s[k].toNat := hdig.1
      have hd2 : s[k].toNat ≤ 57 := hdig.2
      have hsn := dv_snoc (s.data.toList.take k) s[k]
      rw [← take_snoc s k hlt] at hsn
      have HS : Hid (dv (s.data.toList.take (k + 1)) = dv (s.data.toList.take k) * 10 + (s[k].toNat - 48)) := hsn
      clear hsn h1 h2 hl hdig
      go_wp2
      go_round
      case rel => exact ⟨k + 1, by omega, by go_num, by rw [HS.out]; congr 1; omega⟩
      case measure => simp [intOf]; omega
    · go_wp2
      go_ret
      exact ⟨ret_int (by rw [List.take_of_length_le (by simp; omega)]), rfl⟩

end Go.Proofs.YtpmnfgbbkmodpaaGreatDoor
