/-
  NUMBERS, DIMS, OPERATIONS' NAMES, LISTS OF WORDS: the program's calls of package read that stand lowest. Conditions: each theorem's own.
-/
import Derived.Test.YtadgnafafdfioaaGreatDoorChecked
import Derived.Test.YtadgnafafdfioaaGreatDoorPn
import Derived.Test.YtadgnafafdfioaaGreatDoorTs
import Derived.Test.YtadgnafafdfioaaGreatDoorNam
import Derived.Test.YtadgnafafdfioaaGreatDoorApi
import Derived.Lib.SliceRun
import Derived.WalkKit
import Derived.WalkSpells
import Derived.WalkLawsBesides
namespace Go.Proofs.YtadgnafafdfioaaGreatDoor.Rd
set_option maxRecDepth 100000
open Go.RowKit Nm
set_option linter.unusedVariables false

def numv (l : List UInt8) : Nat := (num l).getD 0
def nok (l : List UInt8) : Bool := (num l).isSome
theorem num_nil : num [] = none := rfl
theorem num_one (a : UInt8) : num [a] = if Lx.dgt a then some (a.toNat - 48) else none := rfl
theorem num_two (a b : UInt8) : num [a, b] = if a ≠ 48 ∧ Lx.dgt a = true ∧ Lx.dgt b = true then some (10 * (a.toNat - 48) + (b.toNat - 48)) else none := rfl
theorem num_more {l : List UInt8} (h : 2 < l.length) : num l = none := by
  match l, h with
  | [], h => simp at h
  | [a], h => simp at h
  | [a, b], h => simp at h
  | a :: b :: c :: l, h => rfl
theorem size_zero {s : ByteArray} (h : s.size = 0) : s.data.toList = [] := List.eq_nil_of_length_eq_zero h
theorem size_one {s : ByteArray} (h : s.size = 1) : s.data.toList = [s[0]] := by
  obtain ⟨a, ha⟩ := List.length_eq_one_iff.1 (show s.data.toList.length = 1 from h)
  have := Lx.at_data s 0 (by omega)
  rw [ha] at this ⊢
  simp at this
  rw [this]
theorem size_two {s : ByteArray} (h : s.size = 2) : s.data.toList = [s[0], s[1]] := by
  have hl : s.data.toList.length = 2 := h
  obtain ⟨a, b, ha⟩ : ∃ a b, s.data.toList = [a, b] := by
    match s.data.toList, hl with
    | [a, b], _ => exact ⟨a, b, rfl⟩
  have h0 := Lx.at_data s 0 (by omega)
  have h1 := Lx.at_data s 1 (by omega)
  rw [ha] at h0 h1 ⊢
  simp at h0 h1
  rw [h0, h1]
/-- so far a number -/
def Nu (s : ByteArray) (k n : Nat) : Prop :=
  (k = 0 ∧ n = 0) ∨ (k = 1 ∧ ∃ h : 0 < s.size, Lx.dgt s[0] = true ∧ n = s[0].toNat - 48) ∨ (k = 2 ∧ ∃ h : 1 < s.size, Lx.dgt s[0] = true ∧ Lx.dgt s[1] = true ∧ n = 10 * (s[0].toNat - 48) + (s[1].toNat - 48))
theorem dgt_bd {b : UInt8} (h : Lx.dgt b = true) : 48 ≤ b.toNat ∧ b.toNat ≤ 57 := by
  unfold Lx.dgt at h
  simpa using h
theorem Nu.le {s : ByteArray} {k n : Nat} (h : Nu s k n) : k ≤ 2 ∧ (k = 0 → n = 0) ∧ (k ≤ 1 → n ≤ 9) ∧ n ≤ 99 := by
  rcases h with ⟨rfl, rfl⟩ | ⟨rfl, h, h1, rfl⟩ | ⟨rfl, h, h1, h2, rfl⟩
  · omega
  · have := dgt_bd h1; omega
  · have := dgt_bd h1; have := dgt_bd h2; omega
theorem Nu.next {s : ByteArray} {k n : Nat} (h : Nu s k n) (hk : k < s.size) (h2 : s.size ≤ 2) (hd : Lx.dgt s[k] = true) : Nu s (k + 1) (10 * n + (s[k].toNat - 48)) := by
  rcases h with ⟨rfl, rfl⟩ | ⟨rfl, h, h1, rfl⟩ | ⟨rfl, h, h1, h3, rfl⟩
  · exact Or.inr (Or.inl ⟨rfl, hk, hd, by omega⟩)
  · exact Or.inr (Or.inr ⟨rfl, hk, h1, hd, rfl⟩)
  · omega
/-- what the whole word is -/
theorem Nu.num {s : ByteArray} {n : Nat} (h : Nu s s.size n) (h0 : 0 < s.size) (hz : s.size = 2 → s[0] ≠ 48) : num s.data.toList = some n := by
  rcases h with ⟨e, rfl⟩ | ⟨e, h, h1, rfl⟩ | ⟨e, h, h1, h2, rfl⟩
  · omega
  · rw [size_one e, num_one, if_pos h1]
  · rw [size_two e, num_two, if_pos ⟨hz e, h1, h2⟩]
theorem num_bad {s : ByteArray} {k : Nat} (hk : k < s.size) (hd : Lx.dgt s[k] = false) : num s.data.toList = none := by
  by_cases h : 2 < s.size
  · exact num_more h
  · by_cases h1 : s.size = 1
    · obtain rfl : k = 0 := by omega
      rw [size_one h1, num_one, if_neg (by rw [hd]; simp)]
    · have h2 : s.size = 2 := by omega
      rw [size_two h2, num_two, if_neg]
      rintro ⟨_, a, b⟩
      match k, hk, hd with
      | 0, _, hd => rw [hd] at a; cases a
      | 1, _, hd => rw [hd] at b; cases b
      | k + 2, hk, _ => omega
theorem num_zero {s : ByteArray} (h2 : s.size = 2) (hz : s[0] = 48) : num s.data.toList = none := by
  rw [size_two h2, num_two, if_neg]
  rintro ⟨a, _⟩
  exact a hz
theorem is_empty {s : ByteArray} (h : 0 < s.size) : (s.toList == []) = false := by
  rw [toList_data]
  apply beq_false_of_ne
  intro e
  have := congrArg List.length e
  have h1 : s.data.toList.length = s.size := rfl
  simp only [List.length_nil] at this
  omega
theorem numv_of {l : List UInt8} {n : Nat} (h : num l = some n) : numv l = n ∧ nok l = true := by unfold numv nok; rw [h]; exact ⟨rfl, rfl⟩
theorem numv_no {l : List UInt8} (h : num l = none) : numv l = 0 ∧ nok l = false := by unfold numv nok; rw [h]; exact ⟨rfl, rfl⟩

theorem number_any (s : ByteArray) (w : World) : Calls Tryz.prog 91 #[.string s] w fun e w' => e = .returned (.tuple #[.int .i64 (numv s.data.toList : Nat), .bool (nok s.data.toList)]) ∧ w' = w := by
  by_cases h0 : s.size = 0
  · have e0 := size_zero h0
    have e1 : s = ⟨#[]⟩ := by cases s; simp at e0; rw [e0]
    subst e1
    go_enter Tryz.func91, Tryz.ntmps91
    go_wp2
    go_ret2
    exact ⟨rfl, rfl⟩
  · have he := is_empty (s := s) (by omega)
    generalize hv : numv s.data.toList = v
    generalize ho : nok s.data.toList = o
    have HO : Hid (numv s.data.toList = v ∧ nok s.data.toList = o) := ⟨hv, ho⟩
    have no : num s.data.toList = none → v = 0 ∧ o = false := fun h => by rw [← hv, ← ho]; exact numv_no h
    have ys : ∀ n, num s.data.toList = some n → v = n ∧ o = true := fun n h => by rw [← hv, ← ho]; exact numv_of h
    have NO : Hid _ := no
    have YS : Hid _ := ys
    clear hv ho no ys
    by_cases h2 : 2 < s.size
    · obtain ⟨rfl, rfl⟩ := NO.out (num_more h2)
      go_enter Tryz.func91, Tryz.ntmps91
      go_wp2
      go_ret2
      exact ⟨rfl, rfl⟩
    · have h1 : 0 < s.size := by omega
      by_cases hz : s.size = 2 ∧ s[0] = 48
      · obtain ⟨rfl, rfl⟩ := NO.out (num_zero hz.1 hz.2)
        obtain ⟨z1, z2⟩ := hz
        go_enter Tryz.func91, Tryz.ntmps91
        go_wp2
        go_ret2
        exact ⟨rfl, rfl⟩
      · have HZ : Hid (s.size = 2 → s[0] ≠ 48) := fun a b => hz ⟨a, b⟩
        by_cases e2 : s.size = 2
        · have b0 : (((s[0].toNat : Nat) : Int) == 48) = false := by
            apply Bool.eq_false_iff.2
            intro c
            have c' : ((s[0].toNat : Nat) : Int) = 48 := by simpa using c
            exact hz ⟨e2, UInt8.toNat_inj.1 (by show s[0].toNat = 48; omega)⟩
          clear hz
          go_enter Tryz.func91, Tryz.ntmps91
          go_wp2_with fail
          go_loop [4, 25] (fun n i => ∃ k m : Nat, i = .int .i64 (k : Int) ∧ n = .int .i64 (m : Int) ∧ k ≤ 2 ∧ m ≤ 99 ∧ (k ≤ 1 → m ≤ 9) ∧ Nu s k m) (fun _ i => 2 - (intOf i).toNat)
          case atStart => exact ⟨0, 0, rfl, rfl, by omega, by omega, fun _ => by omega, Or.inl ⟨rfl, rfl⟩⟩
          case round =>
            obtain ⟨k, m, rfl, rfl, hk, hm, hm9, hN⟩ := hrel
            have HN : Hid (Nu s k m) := hN
            clear hN
            by_cases hks : k < 2
            · have hks' : k < s.size := by omega
              obtain ⟨b, hb⟩ : ∃ b, s[k] = b := ⟨_, rfl⟩
              have HB : Hid (s[k] = b) := hb
              have hm9 : m ≤ 9 := hm9 (by omega)
              by_cases c : (b.toNat : Int) < 48
              · obtain ⟨rfl, rfl⟩ := NO.out (num_bad hks' (by rw [HB.out]; exact Lx.dgt_low c))
                go_wp2
                go_ret2
                exact ⟨rfl, rfl⟩
              · by_cases d : (57 : Int) < (b.toNat : Int)
                · obtain ⟨rfl, rfl⟩ := NO.out (num_bad hks' (by rw [HB.out]; exact Lx.dgt_high d))
                  go_wp2
                  go_ret2
                  exact ⟨rfl, rfl⟩
                · have hd := Lx.dgt_yes c d
                  have NX : Hid (Nu s (k + 1) (10 * m + (b.toNat - 48))) := by
                    have := HN.out.next hks' (by omega) (by rw [HB.out]; exact hd)
                    rw [HB.out] at this
                    exact this
                  clear hd
                  have e1 : (10 * (m : Int) + ((b.toNat : Int) - 48)) = ((10 * m + (b.toNat - 48) : Nat) : Int) := by omega
                  have l1 : 10 * m + (b.toNat - 48) ≤ 99 := by omega
                  go_wp2
                  go_round
                  case rel => exact ⟨k + 1, 10 * m + (b.toNat - 48), by go_num, by go_num, by omega, l1, fun h => by have := NX.out.le; omega, NX.out⟩
                  case measure => simp [intOf]; omega
            · obtain rfl : k = 2 := by omega
              obtain ⟨rfl, rfl⟩ := YS.out m (by have := HN.out; rw [← e2] at this; exact this.num h1 HZ.out)
              go_wp2
              go_ret2
              exact ⟨rfl, rfl⟩
        · have e1 : s.size = 1 := by omega
          clear hz
          go_enter Tryz.func91, Tryz.ntmps91
          go_wp2_with fail
          go_loop [4, 25] (fun n i => ∃ k m : Nat, i = .int .i64 (k : Int) ∧ n = .int .i64 (m : Int) ∧ k ≤ 1 ∧ m ≤ 99 ∧ (k ≤ 1 → m ≤ 9) ∧ Nu s k m) (fun _ i => 1 - (intOf i).toNat)
          case atStart => exact ⟨0, 0, rfl, rfl, by omega, by omega, fun _ => by omega, Or.inl ⟨rfl, rfl⟩⟩
          case round =>
            obtain ⟨k, m, rfl, rfl, hk, hm, hm9, hN⟩ := hrel
            have HN : Hid (Nu s k m) := hN
            clear hN
            by_cases hks : k < 1
            · have hks' : k < s.size := by omega
              obtain ⟨b, hb⟩ : ∃ b, s[k] = b := ⟨_, rfl⟩
              have HB : Hid (s[k] = b) := hb
              have hm9 : m ≤ 9 := hm9 (by omega)
              by_cases c : (b.toNat : Int) < 48
              · obtain ⟨rfl, rfl⟩ := NO.out (num_bad hks' (by rw [HB.out]; exact Lx.dgt_low c))
                go_wp2
                go_ret2
                exact ⟨rfl, rfl⟩
              · by_cases d : (57 : Int) < (b.toNat : Int)
                · obtain ⟨rfl, rfl⟩ := NO.out (num_bad hks' (by rw [HB.out]; exact Lx.dgt_high d))
                  go_wp2
                  go_ret2
                  exact ⟨rfl, rfl⟩
                · have hd := Lx.dgt_yes c d
                  have NX : Hid (Nu s (k + 1) (10 * m + (b.toNat - 48))) := by
                    have := HN.out.next hks' (by omega) (by rw [HB.out]; exact hd)
                    rw [HB.out] at this
                    exact this
                  clear hd
                  have e1 : (10 * (m : Int) + ((b.toNat : Int) - 48)) = ((10 * m + (b.toNat - 48) : Nat) : Int) := by omega
                  have l1 : 10 * m + (b.toNat - 48) ≤ 99 := by omega
                  go_wp2
                  go_round
                  case rel => exact ⟨k + 1, 10 * m + (b.toNat - 48), by go_num, by go_num, by omega, l1, fun h => by have := NX.out.le; omega, NX.out⟩
                  case measure => simp [intOf]; omega
            · obtain rfl : k = 1 := by omega
              obtain ⟨rfl, rfl⟩ := YS.out m (by have := HN.out; rw [← e1] at this; exact this.num h1 HZ.out)
              go_wp2
              go_ret2
              exact ⟨rfl, rfl⟩
end Go.Proofs.YtadgnafafdfioaaGreatDoor.Rd
