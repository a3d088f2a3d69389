/-
  NAMES: the program's and the document's answer. Conditions: each theorem's own.
-/
import Derived.Test.YtadgnafafdfioaaGreatDoorChecked
import Derived.Test.YtadgnafafdfioaaGreatDoorLx
import Derived.Test.YtadgnafafdfioaaGreatDoorTs
import Derived.WalkKit
import Derived.WalkSpells
import Derived.WalkLawsBesides
namespace Go.Proofs.YtadgnafafdfioaaGreatDoor.Lx
set_option maxRecDepth 100000
open Go.RowKit
set_option linter.unusedVariables false

theorem letter_any (b : UInt8) (w : World) : Calls Tryz.prog 67 #[.int .u8 (b.toNat : Int)] w fun e w' => e = .returned (.bool (ltr b)) ∧ w' = w := by
  have e : ltr b = (decide (97 ≤ (b.toNat : Int)) && decide ((b.toNat : Int) ≤ 122)) := by
    unfold ltr
    rw [show decide (97 ≤ (b.toNat : Int)) = decide (97 ≤ b.toNat) by congr 1; exact propext (by omega), show decide ((b.toNat : Int) ≤ 122) = decide (b.toNat ≤ 122) by congr 1; exact propext (by omega)]
  rw [e]
  clear e
  by_cases c : (97 : Int) ≤ (b.toNat : Int)
  · by_cases d : (b.toNat : Int) ≤ 122
    · rw [decide_eq_true c, decide_eq_true d]
      go_enter Tryz.func67, Tryz.ntmps67
      go_wp2
      go_ret
      exact ⟨rfl, rfl⟩
    · rw [decide_eq_true c, decide_eq_false d]
      go_enter Tryz.func67, Tryz.ntmps67
      go_wp2
      go_ret
      exact ⟨rfl, rfl⟩
  · rw [decide_eq_false c]
    go_enter Tryz.func67, Tryz.ntmps67
    go_wp2
    go_ret
    exact ⟨rfl, rfl⟩
theorem digit_any (b : UInt8) (w : World) : Calls Tryz.prog 68 #[.int .u8 (b.toNat : Int)] w fun e w' => e = .returned (.bool (dgt b)) ∧ w' = w := by
  have e : dgt b = (decide (48 ≤ (b.toNat : Int)) && decide ((b.toNat : Int) ≤ 57)) := by
    unfold dgt
    rw [show decide (48 ≤ (b.toNat : Int)) = decide (48 ≤ b.toNat) by congr 1; exact propext (by omega), show decide ((b.toNat : Int) ≤ 57) = decide (b.toNat ≤ 57) by congr 1; exact propext (by omega)]
  rw [e]
  clear e
  by_cases c : (48 : Int) ≤ (b.toNat : Int)
  · by_cases d : (b.toNat : Int) ≤ 57
    · rw [decide_eq_true c, decide_eq_true d]
      go_enter Tryz.func68, Tryz.ntmps68
      go_wp2
      go_ret
      exact ⟨rfl, rfl⟩
    · rw [decide_eq_true c, decide_eq_false d]
      go_enter Tryz.func68, Tryz.ntmps68
      go_wp2
      go_ret
      exact ⟨rfl, rfl⟩
  · rw [decide_eq_false c]
    go_enter Tryz.func68, Tryz.ntmps68
    go_wp2
    go_ret
    exact ⟨rfl, rfl⟩
theorem len_data (s : ByteArray) : s.data.toList.length = s.size := rfl
theorem at_data (s : ByteArray) (k : Nat) (h : k < s.size) : s.data.toList.getD k 0 = s[k] := by
  have h' : k < s.data.toList.length := h
  rw [List.getD_eq_getElem?_getD, List.getElem?_eq_getElem h']
  rfl
theorem nm_iff (l : Bt) : nm l = true ↔ (0 < l.length ∧ l.length ≤ 8 ∧ ltr (l.getD 0 0) = true ∧ ∀ i, i < l.length → ok (l.getD i 0) = true) := by
  cases l with
  | nil => simp [nm]
  | cons b t =>
    simp only [nm, Bool.and_eq_true, decide_eq_true_eq, List.all_eq_true]
    constructor
    · rintro ⟨⟨h1, h2⟩, h3⟩
      refine ⟨by simp, by simp; omega, by simpa using h1, fun i hi => ?_⟩
      cases i with
      | zero => simpa using ok_ltr h1
      | succ i =>
        have hi' : i < t.length := by simpa using hi
        have := h2 (t.getD i 0) (by rw [List.getD_eq_getElem?_getD, List.getElem?_eq_getElem hi']; simp)
        simpa using this
    · rintro ⟨_, h2, h3, h4⟩
      refine ⟨⟨by simpa using h3, fun x hx => ?_⟩, by simp at h2; omega⟩
      obtain ⟨i, hi, rfl⟩ := List.getElem_of_mem hx
      have := h4 (i + 1) (by simp; omega)
      simpa [List.getD_eq_getElem?_getD, List.getElem?_eq_getElem hi] using this
theorem nm_no {s : ByteArray} {k : Nat} (h : k < s.size) (hk : ok s[k] = false) : nm s.data.toList = false := by
  cases hn : nm s.data.toList with
  | false => rfl
  | true =>
    have := ((nm_iff _).1 hn).2.2.2 k h
    rw [at_data s k h, hk] at this
    cases this
theorem nm_long {s : ByteArray} (h : 8 < s.size) : nm s.data.toList = false := by
  cases hn : nm s.data.toList with
  | false => rfl
  | true =>
    have := ((nm_iff _).1 hn).2.1
    rw [len_data] at this
    omega
theorem nm_none {s : ByteArray} (h : s.size < 1) : nm s.data.toList = false := by
  cases hn : nm s.data.toList with
  | false => rfl
  | true =>
    have := ((nm_iff _).1 hn).1
    rw [len_data] at this
    omega
theorem nm_head {s : ByteArray} (h : 0 < s.size) (hk : ltr s[0] = false) : nm s.data.toList = false := by
  cases hn : nm s.data.toList with
  | false => rfl
  | true =>
    have := ((nm_iff _).1 hn).2.2.1
    rw [at_data s 0 h, hk] at this
    cases this
theorem nm_yes {s : ByteArray} (h : 0 < s.size) (h8 : s.size ≤ 8) (hl : ltr s[0] = true) (ha : ∀ i, (hi : i < s.size) → ok s[i] = true) : nm s.data.toList = true :=
  (nm_iff _).2 ⟨h, h8, by rw [at_data s 0 h]; exact hl, fun i hi => by rw [at_data s i hi]; exact ha i hi⟩

theorem name_any (s : ByteArray) (w : World) : Calls Tryz.prog 49 #[.string s] w fun e w' => e = .returned (.bool (nm s.data.toList)) ∧ w' = w := by
  generalize hn : nm s.data.toList = r
  have HN : Hid (nm s.data.toList = r) := hn
  clear hn
  by_cases c : s.size < 1
  · obtain rfl : r = false := HN.out.symm.trans (nm_none c)
    go_enter Tryz.func49, Tryz.ntmps49
    go_wp2
    go_ret
    exact ⟨rfl, rfl⟩
  · by_cases d : 8 < s.size
    · obtain rfl : r = false := HN.out.symm.trans (nm_long d)
      go_enter Tryz.func49, Tryz.ntmps49
      go_wp2
      go_ret
      exact ⟨rfl, rfl⟩
    · have h0 : 0 < s.size := by omega
      by_cases hl : ltr s[0] = true
      · go_enter Tryz.func49, Tryz.ntmps49
        go_wp2_with fail
        refine (letter_any _ _).mono ?_
        rintro e w' ⟨rfl, rfl⟩
        rw [hl]
        go_wp2_with fail
        go_loop [20] (fun i => ∃ k : Nat, i = .int .i64 (k : Int) ∧ k ≤ s.size ∧ ∀ j, (hj : j < s.size) → j < k → ok s[j] = true) (fun i => s.size - (intOf i).toNat)
        case atStart => exact ⟨0, rfl, by omega, fun j _ h => absurd h (by omega)⟩
        case round =>
          obtain ⟨k, rfl, hk, ha⟩ := hrel
          have HA : Hid (∀ j, (hj : j < s.size) → j < k → ok s[j] = true) := ha
          clear ha
          by_cases hks : k < s.size
          · go_wp2_with fail
            refine (letter_any _ _).mono ?_
            rintro e w' ⟨rfl, rfl⟩
            obtain ⟨L, hL⟩ : ∃ L, ltr s[k] = L := ⟨_, rfl⟩
            have HL : Hid (ltr s[k] = L) := hL
            rw [hL]
            clear hL
            cases L with
            | true =>
              go_wp2
              go_round
              case rel =>
                refine ⟨k + 1, by go_num, by omega, fun j hj hjk => ?_⟩
                rcases Nat.lt_or_ge j k with h | h
                · exact HA.out j hj h
                · obtain rfl : j = k := by omega
                  exact ok_ltr HL.out
              case measure => simp [intOf]; omega
            | false =>
              go_wp2_with fail
              refine (digit_any _ _).mono ?_
              rintro e w' ⟨rfl, rfl⟩
              obtain ⟨D, hD⟩ : ∃ D, dgt s[k] = D := ⟨_, rfl⟩
              have HD : Hid (dgt s[k] = D) := hD
              rw [hD]
              clear hD
              cases D with
              | true =>
                go_wp2
                go_round
                case rel =>
                  refine ⟨k + 1, by go_num, by omega, fun j hj hjk => ?_⟩
                  rcases Nat.lt_or_ge j k with h | h
                  · exact HA.out j hj h
                  · obtain rfl : j = k := by omega
                    unfold ok; rw [HD.out]; simp
                case measure => simp [intOf]; omega
              | false =>
                obtain rfl : r = false := HN.out.symm.trans (nm_no hks (by unfold ok; rw [HD.out, HL.out]; rfl))
                go_wp2
                go_ret
                exact ⟨rfl, rfl⟩
          · obtain rfl : k = s.size := by omega
            obtain rfl : r = true := HN.out.symm.trans (nm_yes h0 (by omega) hl (fun i hi => HA.out i hi hi))
            go_wp2
            go_ret
            exact ⟨rfl, rfl⟩
      · have hl' : ltr s[0] = false := by simpa using hl
        obtain rfl : r = false := HN.out.symm.trans (nm_head h0 hl')
        go_enter Tryz.func49, Tryz.ntmps49
        go_wp2_with fail
        refine (letter_any _ _).mono ?_
        rintro e w' ⟨rfl, rfl⟩
        rw [hl']
        go_wp2
        go_ret
        exact ⟨rfl, rfl⟩

theorem ltr_yes {b : UInt8} (h : (97 : Int) ≤ (b.toNat : Int)) (h2 : (b.toNat : Int) ≤ 122) : ltr b = true := by
  unfold ltr; rw [decide_eq_true (by omega), decide_eq_true (by omega)]; rfl
theorem ltr_low {b : UInt8} (h : ¬ (97 : Int) ≤ (b.toNat : Int)) : ltr b = false := by
  unfold ltr; rw [decide_eq_false (by omega)]; rfl
theorem ltr_high {b : UInt8} (h : ¬ (b.toNat : Int) ≤ 122) : ltr b = false := by
  unfold ltr; rw [decide_eq_false (p := b.toNat ≤ 122) (by omega), Bool.and_false]
theorem dgt_yes {b : UInt8} (h : ¬ (b.toNat : Int) < 48) (h2 : ¬ (57 : Int) < (b.toNat : Int)) : dgt b = true := by
  unfold dgt; rw [decide_eq_true (by omega), decide_eq_true (by omega)]; rfl
theorem dgt_low {b : UInt8} (h : (b.toNat : Int) < 48) : dgt b = false := by
  unfold dgt; rw [decide_eq_false (by omega)]; rfl
theorem dgt_high {b : UInt8} (h : (57 : Int) < (b.toNat : Int)) : dgt b = false := by
  unfold dgt; rw [decide_eq_false (p := b.toNat ≤ 57) (by omega), Bool.and_false]
theorem ok_no {b : UInt8} (h : ltr b = false) (h2 : dgt b = false) : ok b = false := by unfold ok; rw [h, h2]; rfl
theorem ok_dgt {b : UInt8} (h2 : dgt b = true) : ok b = true := by unfold ok; rw [h2, Bool.or_true]

theorem refName_any (s : ByteArray) (w : World) (hs : s.size ≤ 1000000) : Calls Tryz.prog 25 #[.string s] w fun e w' => e = .returned (.bool (nm s.data.toList)) ∧ w' = w := by
  generalize hn : nm s.data.toList = r
  have HN : Hid (nm s.data.toList = r) := hn
  clear hn
  go_enter Tryz.func25, Tryz.ntmps25
  go_wp2_with fail
  go_loop [3] (fun i => ∃ k : Nat, i = .int .i64 (k : Int) ∧ k ≤ s.size ∧ (∀ h : 0 < s.size, 0 < k → ltr s[0] = true) ∧ ∀ j, (hj : j < s.size) → j < k → ok s[j] = true) (fun i => s.size - (intOf i).toNat)
  case atStart => exact ⟨0, rfl, by omega, fun h h0 => absurd h0 (by omega), fun j _ h => absurd h (by omega)⟩
  case round =>
    obtain ⟨k, rfl, hk, h1, ha⟩ := hrel
    have H1 : Hid (∀ h : 0 < s.size, 0 < k → ltr s[0] = true) := h1
    have HA : Hid (∀ j, (hj : j < s.size) → j < k → ok s[j] = true) := ha
    clear ha h1
    by_cases hks : k < s.size
    · have next : ok s[k] = true → (k = 0 → ltr s[k] = true) → k + 1 ≤ s.size ∧ (∀ h : 0 < s.size, 0 < k + 1 → ltr s[0] = true) ∧ ∀ j, (hj : j < s.size) → j < k + 1 → ok s[j] = true := by
        intro ho hl
        refine ⟨by omega, fun h _ => ?_, fun j hj hjk => ?_⟩
        · rcases Nat.eq_zero_or_pos k with e | e
          · subst e; exact hl rfl
          · exact H1.out h e
        · rcases Nat.lt_or_ge j k with h | h
          · exact HA.out j hj h
          · obtain rfl : j = k := by omega
            exact ho
      have NX : Hid _ := next
      clear next
      obtain ⟨b, hb⟩ : ∃ b, s[k] = b := ⟨_, rfl⟩
      have HB : Hid (s[k] = b) := hb
      by_cases c : (97 : Int) ≤ (b.toNat : Int)
      · by_cases d : (b.toNat : Int) ≤ 122
        · go_wp2_with fail
          go_round
          case rel =>
            refine ⟨k + 1, by go_num, NX.out (by rw [HB.out]; exact ok_ltr (ltr_yes c d)) (fun _ => by rw [HB.out]; exact ltr_yes c d)⟩
          case measure => simp [intOf]; omega
        · have hlf := ltr_high d
          by_cases e0 : k = 0
          · obtain rfl : r = false := HN.out.symm.trans (by subst e0; exact nm_head (by omega) (by rw [HB.out]; exact hlf))
            subst e0
            go_wp2
            go_ret
            exact ⟨rfl, rfl⟩
          · have g : (57 : Int) < (b.toNat : Int) := by omega
            obtain rfl : r = false := HN.out.symm.trans (nm_no hks (by rw [HB.out]; exact ok_no hlf (dgt_high g)))
            go_wp2
            go_ret
            exact ⟨rfl, rfl⟩
      · have hlf := ltr_low c
        by_cases e0 : k = 0
        · obtain rfl : r = false := HN.out.symm.trans (by subst e0; exact nm_head (by omega) (by rw [HB.out]; exact hlf))
          subst e0
          go_wp2
          go_ret
          exact ⟨rfl, rfl⟩
        · by_cases f : (b.toNat : Int) < 48
          · obtain rfl : r = false := HN.out.symm.trans (nm_no hks (by rw [HB.out]; exact ok_no hlf (dgt_low f)))
            go_wp2
            go_ret
            exact ⟨rfl, rfl⟩
          · by_cases g : (57 : Int) < (b.toNat : Int)
            · obtain rfl : r = false := HN.out.symm.trans (nm_no hks (by rw [HB.out]; exact ok_no hlf (dgt_high g)))
              go_wp2
              go_ret
              exact ⟨rfl, rfl⟩
            · go_wp2_with fail
              go_round
              case rel =>
                refine ⟨k + 1, by go_num, NX.out (by rw [HB.out]; exact ok_dgt (dgt_yes f g)) (fun h => absurd h e0)⟩
              case measure => simp [intOf]; omega
    · obtain rfl : k = s.size := by omega
      by_cases z : s.size = 0
      · obtain rfl : r = false := HN.out.symm.trans (nm_none (by omega))
        go_wp2
        go_ret
        exact ⟨rfl, rfl⟩
      · by_cases y : s.size < 9
        · obtain rfl : r = true := HN.out.symm.trans (nm_yes (by omega) (by omega) (H1.out (by omega) (by omega)) (fun i hi => HA.out i hi hi))
          go_wp2
          go_ret
          exact ⟨by have y1 : (s.size : Int) < 9 := (by omega); simp [y1], rfl⟩
        · obtain rfl : r = false := HN.out.symm.trans (nm_long (by omega))
          go_wp2
          go_ret
          exact ⟨by have y1 : ¬ (s.size : Int) < 9 := (by omega); simp [y1], rfl⟩
end Go.Proofs.YtadgnafafdfioaaGreatDoor.Lx
