/-
  NUMBERS, DIMS, OPERATIONS' NAMES, LISTS OF WORDS: the program's calls of package read that stand lowest. Conditions: each theorem's own.
-/
import Derived.Test.YtadgnafafdfioaaGreatDoorChecked
import Derived.Test.YtadgnafafdfioaaGreatDoorPn
import Derived.Test.YtadgnafafdfioaaGreatDoorTs
import Derived.Test.YtadgnafafdfioaaGreatDoorNam
import Derived.Test.YtadgnafafdfioaaGreatDoorApi
import Derived.Lib.SliceRun
import Derived.WalkKit
import Derived.WalkSpells
import Derived.WalkLawsBesides
import Derived.Test.YtadgnafafdfioaaGreatDoorMl
namespace Go.Proofs.YtadgnafafdfioaaGreatDoor.Rd
set_option maxRecDepth 100000
open Go.RowKit Nm
set_option linter.unusedVariables false

def numv (l : List UInt8) : Nat := (num l).getD 0
def nok (l : List UInt8) : Bool := (num l).isSome
theorem num_nil : num [] = none := rfl
theorem num_one (a : UInt8) : num [a] = if Lx.dgt a then some (a.toNat - 48) else none := rfl
theorem num_two (a b : UInt8) : num [a, b] = if a ≠ 48 ∧ Lx.dgt a = true ∧ Lx.dgt b = true then some (10 * (a.toNat - 48) + (b.toNat - 48)) else none := rfl
theorem num_more {l : List UInt8} (h : 2 < l.length) : num l = none := by
  match l, h with
  | [], h => simp at h
  | [a], h => simp at h
  | [a, b], h => simp at h
  | a :: b :: c :: l, h => rfl
theorem size_zero {s : ByteArray} (h : s.size = 0) : s.data.toList = [] := List.eq_nil_of_length_eq_zero h
theorem size_one {s : ByteArray} (h : s.size = 1) : s.data.toList = [s[0]] := by
  obtain ⟨a, ha⟩ := List.length_eq_one_iff.1 (show s.data.toList.length = 1 from h)
  have := Lx.at_data s 0 (by omega)
  rw [ha] at this ⊢
  simp at this
  rw [this]
theorem size_two {s : ByteArray} (h : s.size = 2) : s.data.toList = [s[0], s[1]] := by
  have hl : s.data.toList.length = 2 := h
  obtain ⟨a, b, ha⟩ : ∃ a b, s.data.toList = [a, b] := by
    match s.data.toList, hl with
    | [a, b], _ => exact ⟨a, b, rfl⟩
  have h0 := Lx.at_data s 0 (by omega)
  have h1 := Lx.at_data s 1 (by omega)
  rw [ha] at h0 h1 ⊢
  simp at h0 h1
  rw [h0, h1]
/-- so far a number -/
def Nu (s : ByteArray) (k n : Nat) : Prop :=
  (k = 0 ∧ n = 0) ∨ (k = 1 ∧ ∃ h : 0 < s.size, Lx.dgt s[0] = true ∧ n = s[0].toNat - 48) ∨ (k = 2 ∧ ∃ h : 1 < s.size, Lx.dgt s[0] = true ∧ Lx.dgt s[1] = true ∧ n = 10 * (s[0].toNat - 48) + (s[1].toNat - 48))
theorem dgt_bd {b : UInt8} (h : Lx.dgt b = true) : 48 ≤ b.toNat ∧ b.toNat ≤ 57 := by
  unfold Lx.dgt at h
  simpa using h
theorem Nu.le {s : ByteArray} {k n : Nat} (h : Nu s k n) : k ≤ 2 ∧ (k = 0 → n = 0) ∧ (k ≤ 1 → n ≤ 9) ∧ n ≤ 99 := by
  rcases h with ⟨rfl, rfl⟩ | ⟨rfl, h, h1, rfl⟩ | ⟨rfl, h, h1, h2, rfl⟩
  · omega
  · have := dgt_bd h1; omega
  · have := dgt_bd h1; have := dgt_bd h2; omega
theorem Nu.next {s : ByteArray} {k n : Nat} (h : Nu s k n) (hk : k < s.size) (h2 : s.size ≤ 2) (hd : Lx.dgt s[k] = true) : Nu s (k + 1) (10 * n + (s[k].toNat - 48)) := by
  rcases h with ⟨rfl, rfl⟩ | ⟨rfl, h, h1, rfl⟩ | ⟨rfl, h, h1, h3, rfl⟩
  · exact Or.inr (Or.inl ⟨rfl, hk, hd, by omega⟩)
  · exact Or.inr (Or.inr ⟨rfl, hk, h1, hd, rfl⟩)
  · omega
/-- what the whole word is -/
theorem Nu.num {s : ByteArray} {n : Nat} (h : Nu s s.size n) (h0 : 0 < s.size) (hz : s.size = 2 → s[0] ≠ 48) : num s.data.toList = some n := by
  rcases h with ⟨e, rfl⟩ | ⟨e, h, h1, rfl⟩ | ⟨e, h, h1, h2, rfl⟩
  · omega
  · rw [size_one e, num_one, if_pos h1]
  · rw [size_two e, num_two, if_pos ⟨hz e, h1, h2⟩]
theorem num_bad {s : ByteArray} {k : Nat} (hk : k < s.size) (hd : Lx.dgt s[k] = false) : num s.data.toList = none := by
  by_cases h : 2 < s.size
  · exact num_more h
  · by_cases h1 : s.size = 1
    · obtain rfl : k = 0 := by omega
      rw [size_one h1, num_one, if_neg (by rw [hd]; simp)]
    · have h2 : s.size = 2 := by omega
      rw [size_two h2, num_two, if_neg]
      rintro ⟨_, a, b⟩
      match k, hk, hd with
      | 0, _, hd => rw [hd] at a; cases a
      | 1, _, hd => rw [hd] at b; cases b
      | k + 2, hk, _ => omega
theorem num_zero {s : ByteArray} (h2 : s.size = 2) (hz : s[0] = 48) : num s.data.toList = none := by
  rw [size_two h2, num_two, if_neg]
  rintro ⟨a, _⟩
  exact a hz
theorem is_empty {s : ByteArray} (h : 0 < s.size) : (s.toList == []) = false := by
  rw [toList_data]
  apply beq_false_of_ne
  intro e
  have := congrArg List.length e
  have h1 : s.data.toList.length = s.size := rfl
  simp only [List.length_nil] at this
  omega
theorem numv_of {l : List UInt8} {n : Nat} (h : num l = some n) : numv l = n ∧ nok l = true := by unfold numv nok; rw [h]; exact ⟨rfl, rfl⟩
theorem numv_no {l : List UInt8} (h : num l = none) : numv l = 0 ∧ nok l = false := by unfold numv nok; rw [h]; exact ⟨rfl, rfl⟩

theorem number_any (s : ByteArray) (w : World) : Calls Tryz.prog 91 #[.string s] w fun e w' => e = .returned (.tuple #[.int .i64 (numv s.data.toList : Nat), .bool (nok s.data.toList)]) ∧ w' = w := by
  by_cases h0 : s.size = 0
  · have e0 := size_zero h0
    have e1 : s = ⟨#[]⟩ := by cases s; simp at e0; rw [e0]
    subst e1
    go_enter Tryz.func91, Tryz.ntmps91
    go_wp2
    go_ret2
    exact ⟨rfl, rfl⟩
  · have he := is_empty (s := s) (by omega)
    generalize hv : numv s.data.toList = v
    generalize ho : nok s.data.toList = o
    have HO : Hid (numv s.data.toList = v ∧ nok s.data.toList = o) := ⟨hv, ho⟩
    have no : num s.data.toList = none → v = 0 ∧ o = false := fun h => by rw [← hv, ← ho]; exact numv_no h
    have ys : ∀ n, num s.data.toList = some n → v = n ∧ o = true := fun n h => by rw [← hv, ← ho]; exact numv_of h
    have NO : Hid _ := no
    have YS : Hid _ := ys
    clear hv ho no ys
    by_cases h2 : 2 < s.size
    · obtain ⟨rfl, rfl⟩ := NO.out (num_more h2)
      go_enter Tryz.func91, Tryz.ntmps91
      go_wp2
      go_ret2
      exact ⟨rfl, rfl⟩
    · have h1 : 0 < s.size := by omega
      by_cases hz : s.size = 2 ∧ s[0] = 48
      · obtain ⟨rfl, rfl⟩ := NO.out (num_zero hz.1 hz.2)
        obtain ⟨z1, z2⟩ := hz
        go_enter Tryz.func91, Tryz.ntmps91
        go_wp2
        go_ret2
        exact ⟨rfl, rfl⟩
      · have HZ : Hid (s.size = 2 → s[0] ≠ 48) := fun a b => hz ⟨a, b⟩
        by_cases e2 : s.size = 2
        · have b0 : (((s[0].toNat : Nat) : Int) == 48) = false := by
            apply Bool.eq_false_iff.2
            intro c
            have c' : ((s[0].toNat : Nat) : Int) = 48 := by simpa using c
            exact hz ⟨e2, UInt8.toNat_inj.1 (by show s[0].toNat = 48; omega)⟩
          clear hz
          go_enter Tryz.func91, Tryz.ntmps91
          go_wp2_with fail
          go_loop [4, 25] (fun n i => ∃ k m : Nat, i = .int .i64 (k : Int) ∧ n = .int .i64 (m : Int) ∧ k ≤ 2 ∧ m ≤ 99 ∧ (k ≤ 1 → m ≤ 9) ∧ Nu s k m) (fun _ i => 2 - (intOf i).toNat)
          case atStart => exact ⟨0, 0, rfl, rfl, by omega, by omega, fun _ => by omega, Or.inl ⟨rfl, rfl⟩⟩
          case round =>
            obtain ⟨k, m, rfl, rfl, hk, hm, hm9, hN⟩ := hrel
            have HN : Hid (Nu s k m) := hN
            clear hN
            by_cases hks : k < 2
            · have hks' : k < s.size := by omega
              obtain ⟨b, hb⟩ : ∃ b, s[k] = b := ⟨_, rfl⟩
              have HB : Hid (s[k] = b) := hb
              have hm9 : m ≤ 9 := hm9 (by omega)
              by_cases c : (b.toNat : Int) < 48
              · obtain ⟨rfl, rfl⟩ := NO.out (num_bad hks' (by rw [HB.out]; exact Lx.dgt_low c))
                go_wp2
                go_ret2
                exact ⟨rfl, rfl⟩
              · by_cases d : (57 : Int) < (b.toNat : Int)
                · obtain ⟨rfl, rfl⟩ := NO.out (num_bad hks' (by rw [HB.out]; exact Lx.dgt_high d))
                  go_wp2
                  go_ret2
                  exact ⟨rfl, rfl⟩
                · have hd := Lx.dgt_yes c d
                  have NX : Hid (Nu s (k + 1) (10 * m + (b.toNat - 48))) := by
                    have := HN.out.next hks' (by omega) (by rw [HB.out]; exact hd)
                    rw [HB.out] at this
                    exact this
                  clear hd
                  have e1 : (10 * (m : Int) + ((b.toNat : Int) - 48)) = ((10 * m + (b.toNat - 48) : Nat) : Int) := by omega
                  have l1 : 10 * m + (b.toNat - 48) ≤ 99 := by omega
                  go_wp2
                  go_round
                  case rel => exact ⟨k + 1, 10 * m + (b.toNat - 48), by go_num, by go_num, by omega, l1, fun h => by have := NX.out.le; omega, NX.out⟩
                  case measure => simp [intOf]; omega
            · obtain rfl : k = 2 := by omega
              obtain ⟨rfl, rfl⟩ := YS.out m (by have := HN.out; rw [← e2] at this; exact this.num h1 HZ.out)
              go_wp2
              go_ret2
              exact ⟨rfl, rfl⟩
        · have e1 : s.size = 1 := by omega
          clear hz
          go_enter Tryz.func91, Tryz.ntmps91
          go_wp2_with fail
          go_loop [4, 25] (fun n i => ∃ k m : Nat, i = .int .i64 (k : Int) ∧ n = .int .i64 (m : Int) ∧ k ≤ 1 ∧ m ≤ 99 ∧ (k ≤ 1 → m ≤ 9) ∧ Nu s k m) (fun _ i => 1 - (intOf i).toNat)
          case atStart => exact ⟨0, 0, rfl, rfl, by omega, by omega, fun _ => by omega, Or.inl ⟨rfl, rfl⟩⟩
          case round =>
            obtain ⟨k, m, rfl, rfl, hk, hm, hm9, hN⟩ := hrel
            have HN : Hid (Nu s k m) := hN
            clear hN
            by_cases hks : k < 1
            · have hks' : k < s.size := by omega
              obtain ⟨b, hb⟩ : ∃ b, s[k] = b := ⟨_, rfl⟩
              have HB : Hid (s[k] = b) := hb
              have hm9 : m ≤ 9 := hm9 (by omega)
              by_cases c : (b.toNat : Int) < 48
              · obtain ⟨rfl, rfl⟩ := NO.out (num_bad hks' (by rw [HB.out]; exact Lx.dgt_low c))
                go_wp2
                go_ret2
                exact ⟨rfl, rfl⟩
              · by_cases d : (57 : Int) < (b.toNat : Int)
                · obtain ⟨rfl, rfl⟩ := NO.out (num_bad hks' (by rw [HB.out]; exact Lx.dgt_high d))
                  go_wp2
                  go_ret2
                  exact ⟨rfl, rfl⟩
                · have hd := Lx.dgt_yes c d
                  have NX : Hid (Nu s (k + 1) (10 * m + (b.toNat - 48))) := by
                    have := HN.out.next hks' (by omega) (by rw [HB.out]; exact hd)
                    rw [HB.out] at this
                    exact this
                  clear hd
                  have e1 : (10 * (m : Int) + ((b.toNat : Int) - 48)) = ((10 * m + (b.toNat - 48) : Nat) : Int) := by omega
                  have l1 : 10 * m + (b.toNat - 48) ≤ 99 := by omega
                  go_wp2
                  go_round
                  case rel => exact ⟨k + 1, 10 * m + (b.toNat - 48), by go_num, by go_num, by omega, l1, fun h => by have := NX.out.le; omega, NX.out⟩
                  case measure => simp [intOf]; omega
            · obtain rfl : k = 1 := by omega
              obtain ⟨rfl, rfl⟩ := YS.out m (by have := HN.out; rw [← e1] at this; exact this.num h1 HZ.out)
              go_wp2
              go_ret2
              exact ⟨rfl, rfl⟩
end Go.Proofs.YtadgnafafdfioaaGreatDoor.Rd
/-
  OPERATIONS' NAMES; LISTS OF WORDS ALL OF A KIND, COPIED, AND WHERE = STANDS. Conditions: each theorem's own.
-/
namespace Go.Proofs.YtadgnafafdfioaaGreatDoor.Rd
set_option maxRecDepth 100000
open Go.RowKit Nm
set_option linter.unusedVariables false

theorem isw_l {x : ByteArray} {l : List UInt8} {b : Bool} (h : isw x l = b) : (x.toList == l) = b := by rw [isw_list]; exact h
theorem ari_none {x : ByteArray} (h : twos.any (isw x) = false) (h1 : ones.any (isw x) = false) (h2 : isw x lScale = false) (h3 : isw x lPower = false) (h4 : isw x lReshape = false) (h5 : isw x lSpread = false) : ari x = 0 := by
  unfold ari
  rw [h, h1, h2, h3, h4, h5]; rfl
set_option maxHeartbeats 2000000 in
theorem arity_any (x : ByteArray) (w : World) : Calls Tryz.prog 76 #[.string x] w fun e w' => e = .returned (.int .i64 (ari x : Nat)) ∧ w' = w := by
  cases h0 : isw x [97, 100, 100] with
  | true =>
    obtain rfl := isw_eq h0
    have e : ari ⟨List.toArray [97, 100, 100]⟩ = 2 := by decide +kernel
    rw [e]
    clear h0
    go_enter Tryz.func76, Tryz.ntmps76
    go_wp2
    go_ret
    exact ⟨rfl, rfl⟩
  | false =>
    cases h1 : isw x [115, 117, 98] with
    | true =>
      obtain rfl := isw_eq h1
      have e : ari ⟨List.toArray [115, 117, 98]⟩ = 2 := by decide +kernel
      rw [e]
      clear h0
      clear h1
      go_enter Tryz.func76, Tryz.ntmps76
      go_wp2
      go_ret
      exact ⟨rfl, rfl⟩
    | false =>
      cases h2 : isw x [109, 117, 108] with
      | true =>
        obtain rfl := isw_eq h2
        have e : ari ⟨List.toArray [109, 117, 108]⟩ = 2 := by decide +kernel
        rw [e]
        clear h0
        clear h1
        clear h2
        go_enter Tryz.func76, Tryz.ntmps76
        go_wp2
        go_ret
        exact ⟨rfl, rfl⟩
      | false =>
        cases h3 : isw x [109, 97, 120] with
        | true =>
          obtain rfl := isw_eq h3
          have e : ari ⟨List.toArray [109, 97, 120]⟩ = 2 := by decide +kernel
          rw [e]
          clear h0
          clear h1
          clear h2
          clear h3
          go_enter Tryz.func76, Tryz.ntmps76
          go_wp2
          go_ret
          exact ⟨rfl, rfl⟩
        | false =>
          cases h4 : isw x [97, 98, 111, 118, 101] with
          | true =>
            obtain rfl := isw_eq h4
            have e : ari ⟨List.toArray [97, 98, 111, 118, 101]⟩ = 2 := by decide +kernel
            rw [e]
            clear h0
            clear h1
            clear h2
            clear h3
            clear h4
            go_enter Tryz.func76, Tryz.ntmps76
            go_wp2
            go_ret
            exact ⟨rfl, rfl⟩
          | false =>
            cases h5 : isw x [109, 97, 116, 109, 117, 108] with
            | true =>
              obtain rfl := isw_eq h5
              have e : ari ⟨List.toArray [109, 97, 116, 109, 117, 108]⟩ = 2 := by decide +kernel
              rw [e]
              clear h0
              clear h1
              clear h2
              clear h3
              clear h4
              clear h5
              go_enter Tryz.func76, Tryz.ntmps76
              go_wp2
              go_ret
              exact ⟨rfl, rfl⟩
            | false =>
              cases h6 : isw x [114, 101, 108, 117] with
              | true =>
                obtain rfl := isw_eq h6
                have e : ari ⟨List.toArray [114, 101, 108, 117]⟩ = 1 := by decide +kernel
                rw [e]
                clear h0
                clear h1
                clear h2
                clear h3
                clear h4
                clear h5
                clear h6
                go_enter Tryz.func76, Tryz.ntmps76
                go_wp2
                go_ret
                exact ⟨rfl, rfl⟩
              | false =>
                cases h7 : isw x [97, 98, 115] with
                | true =>
                  obtain rfl := isw_eq h7
                  have e : ari ⟨List.toArray [97, 98, 115]⟩ = 1 := by decide +kernel
                  rw [e]
                  clear h0
                  clear h1
                  clear h2
                  clear h3
                  clear h4
                  clear h5
                  clear h6
                  clear h7
                  go_enter Tryz.func76, Tryz.ntmps76
                  go_wp2
                  go_ret
                  exact ⟨rfl, rfl⟩
                | false =>
                  cases h8 : isw x [115, 116, 101, 112] with
                  | true =>
                    obtain rfl := isw_eq h8
                    have e : ari ⟨List.toArray [115, 116, 101, 112]⟩ = 1 := by decide +kernel
                    rw [e]
                    clear h0
                    clear h1
                    clear h2
                    clear h3
                    clear h4
                    clear h5
                    clear h6
                    clear h7
                    clear h8
                    go_enter Tryz.func76, Tryz.ntmps76
                    go_wp2
                    go_ret
                    exact ⟨rfl, rfl⟩
                  | false =>
                    cases h9 : isw x [115, 105, 103, 110] with
                    | true =>
                      obtain rfl := isw_eq h9
                      have e : ari ⟨List.toArray [115, 105, 103, 110]⟩ = 1 := by decide +kernel
                      rw [e]
                      clear h0
                      clear h1
                      clear h2
                      clear h3
                      clear h4
                      clear h5
                      clear h6
                      clear h7
                      clear h8
                      clear h9
                      go_enter Tryz.func76, Tryz.ntmps76
                      go_wp2
                      go_ret
                      exact ⟨rfl, rfl⟩
                    | false =>
                      cases h10 : isw x [116, 114, 97, 110, 115, 112, 111, 115, 101] with
                      | true =>
                        obtain rfl := isw_eq h10
                        have e : ari ⟨List.toArray [116, 114, 97, 110, 115, 112, 111, 115, 101]⟩ = 1 := by decide +kernel
                        rw [e]
                        clear h0
                        clear h1
                        clear h2
                        clear h3
                        clear h4
                        clear h5
                        clear h6
                        clear h7
                        clear h8
                        clear h9
                        clear h10
                        go_enter Tryz.func76, Tryz.ntmps76
                        go_wp2
                        go_ret
                        exact ⟨rfl, rfl⟩
                      | false =>
                        cases h11 : isw x [115, 117, 109] with
                        | true =>
                          obtain rfl := isw_eq h11
                          have e : ari ⟨List.toArray [115, 117, 109]⟩ = 1 := by decide +kernel
                          rw [e]
                          clear h0
                          clear h1
                          clear h2
                          clear h3
                          clear h4
                          clear h5
                          clear h6
                          clear h7
                          clear h8
                          clear h9
                          clear h10
                          clear h11
                          go_enter Tryz.func76, Tryz.ntmps76
                          go_wp2
                          go_ret
                          exact ⟨rfl, rfl⟩
                        | false =>
                          cases h12 : isw x [115, 99, 97, 108, 101] with
                          | true =>
                            obtain rfl := isw_eq h12
                            have e : ari ⟨List.toArray [115, 99, 97, 108, 101]⟩ = 1 := by decide +kernel
                            rw [e]
                            clear h0
                            clear h1
                            clear h2
                            clear h3
                            clear h4
                            clear h5
                            clear h6
                            clear h7
                            clear h8
                            clear h9
                            clear h10
                            clear h11
                            clear h12
                            go_enter Tryz.func76, Tryz.ntmps76
                            go_wp2
                            go_ret
                            exact ⟨rfl, rfl⟩
                          | false =>
                            cases h13 : isw x [112, 111, 119, 101, 114] with
                            | true =>
                              obtain rfl := isw_eq h13
                              have e : ari ⟨List.toArray [112, 111, 119, 101, 114]⟩ = 1 := by decide +kernel
                              rw [e]
                              clear h0
                              clear h1
                              clear h2
                              clear h3
                              clear h4
                              clear h5
                              clear h6
                              clear h7
                              clear h8
                              clear h9
                              clear h10
                              clear h11
                              clear h12
                              clear h13
                              go_enter Tryz.func76, Tryz.ntmps76
                              go_wp2
                              go_ret
                              exact ⟨rfl, rfl⟩
                            | false =>
                              cases h14 : isw x [114, 101, 115, 104, 97, 112, 101] with
                              | true =>
                                obtain rfl := isw_eq h14
                                have e : ari ⟨List.toArray [114, 101, 115, 104, 97, 112, 101]⟩ = 1 := by decide +kernel
                                rw [e]
                                clear h0
                                clear h1
                                clear h2
                                clear h3
                                clear h4
                                clear h5
                                clear h6
                                clear h7
                                clear h8
                                clear h9
                                clear h10
                                clear h11
                                clear h12
                                clear h13
                                clear h14
                                go_enter Tryz.func76, Tryz.ntmps76
                                go_wp2
                                go_ret
                                exact ⟨rfl, rfl⟩
                              | false =>
                                cases h15 : isw x [115, 112, 114, 101, 97, 100] with
                                | true =>
                                  obtain rfl := isw_eq h15
                                  have e : ari ⟨List.toArray [115, 112, 114, 101, 97, 100]⟩ = 1 := by decide +kernel
                                  rw [e]
                                  clear h0
                                  clear h1
                                  clear h2
                                  clear h3
                                  clear h4
                                  clear h5
                                  clear h6
                                  clear h7
                                  clear h8
                                  clear h9
                                  clear h10
                                  clear h11
                                  clear h12
                                  clear h13
                                  clear h14
                                  clear h15
                                  go_enter Tryz.func76, Tryz.ntmps76
                                  go_wp2
                                  go_ret
                                  exact ⟨rfl, rfl⟩
                                | false =>
                                  have e : ari x = 0 := by
                                    refine ari_none ?_ ?_ h12 h13 h14 h15
                                    · simp only [twos, List.any_cons, List.any_nil, h0, h1, h2, h3, h4, h5]; rfl
                                    · simp only [ones, List.any_cons, List.any_nil, h6, h7, h8, h9, h10, h11]; rfl
                                  rw [e]
                                  have g0 := isw_l h0
                                  have g1 := isw_l h1
                                  have g2 := isw_l h2
                                  have g3 := isw_l h3
                                  have g4 := isw_l h4
                                  have g5 := isw_l h5
                                  have g6 := isw_l h6
                                  have g7 := isw_l h7
                                  have g8 := isw_l h8
                                  have g9 := isw_l h9
                                  have g10 := isw_l h10
                                  have g11 := isw_l h11
                                  have g12 := isw_l h12
                                  have g13 := isw_l h13
                                  have g14 := isw_l h14
                                  have g15 := isw_l h15
                                  clear h0
                                  clear h1
                                  clear h2
                                  clear h3
                                  clear h4
                                  clear h5
                                  clear h6
                                  clear h7
                                  clear h8
                                  clear h9
                                  clear h10
                                  clear h11
                                  clear h12
                                  clear h13
                                  clear h14
                                  clear h15
                                  clear e
                                  go_enter Tryz.func76, Tryz.ntmps76
                                  go_wp2
                                  go_ret
                                  exact ⟨rfl, rfl⟩
end Go.Proofs.YtadgnafafdfioaaGreatDoor.Rd
/-
  LISTS OF WORDS: ALL OF A KIND, COPIED, WHERE = STANDS; DIMS. Conditions: each theorem's own.
-/
namespace Go.Proofs.YtadgnafafdfioaaGreatDoor.Rd
set_option maxRecDepth 100000
open Go.RowKit Nm
set_option linter.unusedVariables false

theorem inf3 : (Tryz.prog.info? 3).map (fun i => (i.zero, i.size, i.bytes)) = some (some (.int .i64 0), 1, 8) := by kernel_rfl
theorem inf9 : (Tryz.prog.info? 9).map (fun i => (i.zero, i.size, i.bytes)) = some (some (.string ⟨#[]⟩), 1, 16) := by kernel_rfl

theorem row_str {w : World} {bo : Option Addr} {xs : List ByteArray} (h : Row w bo (txts xs)) {i : Nat} (hi : i < xs.length) : ∃ b off, bo = some ⟨b, off, none⟩ ∧ w.cell? ⟨b, off + i, none⟩ = some (.string (xs.getD i em)) := h i _ (txts_at hi)
theorem all_yes {p : ByteArray → Bool} {xs : List ByteArray} (h : ∀ i, i < xs.length → p (xs.getD i em) = true) : xs.all p = true := by
  rw [List.all_eq_true]
  intro x hx
  obtain ⟨i, hi, rfl⟩ := List.getElem_of_mem hx
  have := h i hi
  simpa [List.getD, hi] using this
theorem all_no {p : ByteArray → Bool} {xs : List ByteArray} {i : Nat} (hi : i < xs.length) (h : p (xs.getD i em) = false) : xs.all p = false := by
  apply Bool.eq_false_iff.2
  intro c
  have := List.all_eq_true.1 c (xs.getD i em) (by simp [List.getD, hi])
  rw [h] at this; cases this

theorem allName_any (bo : Option Addr) (xs : List ByteArray) (d : Nat) (w : World) (hl : xs.length ≤ 1000000) (hR : Row w bo (txts xs)) :
    Calls Tryz.prog 77 #[.slice bo xs.length d, .func (.func 49) #[] #[]] w fun e w' => e = .returned (.bool (xs.all nmb)) ∧ w' = w := by
  have HM : Hid ((∀ i, i < xs.length → nmb (xs.getD i em) = true) → xs.all nmb = true) := all_yes
  have HN : Hid (∀ i, i < xs.length → nmb (xs.getD i em) = false → xs.all nmb = false) := fun i hi h => all_no hi h
  have HR : Hid _ := fun i (h : i < xs.length) => row_str hR h
  generalize xs.all nmb = al at HM HN ⊢
  obtain ⟨n, hn⟩ : ∃ n, xs.length = n := ⟨_, rfl⟩
  rw [hn] at HM HN HR hl ⊢
  clear hR hn
  go_enter Tryz.func77, Tryz.ntmps77
  go_wp2_with fail
  go_loop [9] (fun i => ∃ k : Nat, k ≤ n ∧ i = .int .i64 (k : Int) ∧ ∀ j, j < k → nmb (xs.getD j em) = true) (fun i => n - (intOf i).toNat)
  case atStart => exact ⟨0, by omega, rfl, fun j hj => by omega⟩
  case round =>
    obtain ⟨k, hk, rfl, hj⟩ := hrel
    have HJ : Hid _ := hj
    clear hj
    by_cases h : k < n
    · obtain ⟨b, off, rfl, hc⟩ := HR.out k h
      obtain ⟨x, hx⟩ : ∃ z, xs.getD k em = z := ⟨_, rfl⟩
      rw [hx] at hc
      have HX : Hid _ := hx
      clear hx
      go_wp2_with fail
      refine (Lx.name_any x _).mono ?_
      rintro e w1 ⟨rfl, rfl⟩
      obtain ⟨r, hr⟩ : ∃ r, Lx.nm x.data.toList = r := ⟨_, rfl⟩
      have HRa : Hid (nmb x = r) := hr
      rw [hr]
      clear hr
      cases r with
      | true =>
        go_wp2
        go_round
        case rel =>
          refine ⟨k + 1, by omega, by go_num, fun j hj => ?_⟩
          by_cases e : j = k
          · rw [e, HX.out]; exact HRa.out
          · exact HJ.out j (by omega)
        case measure => simp [intOf]; omega
      | false =>
        go_wp2
        go_ret
        exact ⟨Sp.ret_bool (HN.out k h (by rw [HX.out]; exact HRa.out)).symm, rfl⟩
    · go_wp2
      go_ret
      exact ⟨Sp.ret_bool (HM.out (fun i hi => HJ.out i (by omega))).symm, rfl⟩

theorem allRat_any (bo : Option Addr) (xs : List ByteArray) (d : Nat) (aF aZ : Addr) (w : World) (hE : Er w aF aZ) (hl : xs.length ≤ 1000000) (hR : Row w bo (txts xs)) (hs : ∀ i, i < xs.length → (xs.getD i em).size ≤ 200000) :
    Calls Tryz.prog 77 #[.slice bo xs.length d, .func (.func 50) #[] #[]] w fun e w' => e = .returned (.bool (xs.all ra)) ∧ Below w.heap.size w w' := by
  have HM : Hid ((∀ i, i < xs.length → ra (xs.getD i em) = true) → xs.all ra = true) := all_yes
  have HN : Hid (∀ i, i < xs.length → ra (xs.getD i em) = false → xs.all ra = false) := fun i hi h => all_no hi h
  have HR : Hid _ := fun (v : World) (hb : Below w.heap.size w v) i (h : i < xs.length) => row_str (hR.below hb) h
  have HS : Hid _ := hs
  have HE : Hid _ := hE
  generalize xs.all ra = al at HM HN ⊢
  obtain ⟨n, hn⟩ : ∃ n, xs.length = n := ⟨_, rfl⟩
  rw [hn] at HM HN HR HS hl ⊢
  clear hR hn hs hE
  go_enter Tryz.func77, Tryz.ntmps77
  go_wp2_with fail
  go_loopw [9] (fun i wr => ∃ k : Nat, k ≤ n ∧ i = .int .i64 (k : Int) ∧ (∀ j, j < k → ra (xs.getD j em) = true) ∧ Below w.heap.size w wr) (fun i _ => n - (intOf i).toNat)
  case atStart => exact ⟨0, by omega, rfl, fun j hj => by omega, Below.refl _ _⟩
  case round =>
    obtain ⟨k, hk, rfl, hj, hb⟩ := hrel
    have HJ : Hid _ := And.intro hj hb
    clear hj
    by_cases h : k < n
    · obtain ⟨b, off, rfl, hc⟩ := HR.out wr hb k h
      have hsz := HS.out k h
      clear hb
      obtain ⟨x, hx⟩ : ∃ z, xs.getD k em = z := ⟨_, rfl⟩
      rw [hx] at hc hsz
      have HX : Hid _ := hx
      clear hx
      obtain ⟨r, hr⟩ : ∃ r, ra x = r := ⟨_, rfl⟩
      have HRa : Hid _ := hr
      clear hr
      go_wp2_with fail
      refine (Right_is x r aF aZ _ (HE.out.below HJ.out.2) hsz HRa.out).mono ?_
      rintro e w1 ⟨rfl, h1⟩
      have H1 : Hid _ := HJ.out.2.trans (h1.mono HJ.out.2.size)
      clear h1 hc
      cases r with
      | true =>
        go_wp2
        go_roundw
        case rel =>
          refine ⟨k + 1, by omega, by go_num, fun j hj => ?_, H1.out⟩
          by_cases e : j = k
          · rw [e, HX.out]; exact HRa.out
          · exact HJ.out.1 j (by omega)
        case measure => simp [intOf]; omega
      | false =>
        go_wp2
        go_ret
        exact ⟨Sp.ret_bool (HN.out k h (by rw [HX.out]; exact HRa.out)).symm, H1.out⟩
    · clear hb
      go_wp2
      go_ret
      exact ⟨Sp.ret_bool (HM.out (fun i hi => HJ.out.1 i (by omega))).symm, HJ.out.2⟩

/-- a word stands first at i; -1: nowhere -/
def Ix (v : ByteArray) (xs : List ByteArray) (n : Nat) (i : Int) : Prop := (i = -1 ∧ ∀ j, j < n → (v.toList == (xs.getD j em).toList) = false) ∨ ∃ k : Nat, i = (k : Int) ∧ k < n ∧ (v.toList == (xs.getD k em).toList) = true ∧ ∀ j, j < k → (v.toList == (xs.getD j em).toList) = false
theorem index_any (ao : Option Addr) (xs : List ByteArray) (c : Nat) (v : ByteArray) (w : World) (hl : xs.length ≤ 1000000) (hR : Row w ao (txts xs)) :
    Calls Tryz.prog 80 #[.slice ao xs.length c, .string v] w fun e w' => ∃ i : Int, e = .returned (.int .i64 i) ∧ Ix v xs xs.length i ∧ w' = w := by
  have HR : Hid _ := fun i (h : i < xs.length) => row_str hR h
  clear hR
  obtain ⟨n, hn⟩ : ∃ n, xs.length = n := ⟨_, rfl⟩
  rw [hn] at HR hl ⊢
  clear hn
  go_enter Tryz.func80, Tryz.ntmps80
  go_wp2_with fail
  go_loop [8] (fun i => ∃ k : Nat, k ≤ n ∧ i = .int .i64 (k : Int) ∧ (∀ j, j < k → (v.toList == (xs.getD j em).toList) = false)) (fun i => n - (intOf i).toNat)
  case atStart => exact ⟨0, by omega, rfl, fun j hj => by omega⟩
  case round =>
    obtain ⟨k, hk, rfl, hj⟩ := hrel
    have HJ : Hid _ := hj
    clear hj
    by_cases h : k < n
    · obtain ⟨b, off, rfl, hc⟩ := HR.out k h
      obtain ⟨x, hx⟩ : ∃ z, xs.getD k em = z := ⟨_, rfl⟩
      rw [hx] at hc
      have HX : Hid _ := hx
      clear hx
      cases he : v.toList == x.toList with
      | true =>
        have HE : Hid _ := he
        go_wp2
        go_ret
        exact ⟨k, rfl, Or.inr ⟨k, rfl, h, by rw [HX.out]; exact HE.out, HJ.out⟩, rfl⟩
      | false =>
        have HE : Hid _ := he
        go_wp2
        go_round
        case rel =>
          refine ⟨k + 1, by omega, by go_num, fun j hj => ?_⟩
          by_cases e : j = k
          · rw [e, HX.out]; exact HE.out
          · exact HJ.out j (by omega)
        case measure => simp [intOf]; omega
    · go_wp2
      go_ret
      exact ⟨-1, rfl, Or.inl ⟨rfl, fun j hj => HJ.out j (by omega)⟩, rfl⟩

theorem nil9 (w : World) (ao : Option Addr) (n c : Nat) : World.ownsRow w w.heap.size 9 1 (.slice none 0 0) 0 [] := World.ownsRow_nil w _ 9 1
/-- a copy of words -/
theorem clone_any (ao : Option Addr) (xs : List ByteArray) (c : Nat) (w : World) (hl : xs.length ≤ 1000000) (hS : Row w ao (txts xs)) :
    Calls Tryz.prog 66 #[.slice ao xs.length c] w fun e w' => ∃ v, e = .returned v ∧ w'.ownsRow w.heap.size 9 1 v xs.length (txts xs) ∧ Below w.heap.size w w' := by
  obtain ⟨i0, hi, hz0, hz1, hz2⟩ := info_parts inf9
  cases ao with
  | none =>
    have e0 : xs = [] := by
      cases xs with
      | nil => rfl
      | cons a l => obtain ⟨b, off, e, _⟩ := hS 0 (.string a) rfl; cases e
    subst e0
    clear hS hl
    have hnil := fun (w : World) => Lib.run_eql_slice_nil (P := Tryz.prog) w 26 9 none 0 c 0 0 Tryz.underlying26
    go_enter Tryz.func66, Tryz.ntmps66
    go_wp2
    go_ret
    exact ⟨_, rfl, World.ownsRow_nil w _ 9 1, Below.refl _ _⟩
  | some ad =>
    have m2 : (w.alloc (.cells #[] 9)).ownsRow w.heap.size 9 1 (.slice (some ⟨w.heap.size, 0, none⟩) 0 0) 0 [] := World.ownsRow_made w #[] 0 (Nat.le_refl _) (by simp) (by simp)
    have hR2 : Row (w.alloc (.cells #[] 9)) (some ad) (txts xs) := hS.below ((Below.refl _ _).alloc (Nat.le_refl _) _)
    have hnl := txts_len xs
    obtain ⟨n, hn⟩ : ∃ n, xs.length = n := ⟨_, rfl⟩
    rw [hn] at hl hnl ⊢
    clear hS
    have hnil := fun (w : World) => Lib.run_eql_slice_nil (P := Tryz.prog) w 26 9 (some ad) n c 0 0 Tryz.underlying26
    go_enter Tryz.func66, Tryz.ntmps66
    go_wp2_with (first | (at_builtin; refine wpList_append_row _ _ 26 rfl w.heap.size 9 i0 (.string ⟨#[]⟩) 16 Tryz.underlying26 hi hz0 hz1 hz2 rfl _ 0 [] rfl m2 (some ad) n c (txts xs) rfl hnl hR2 (txts_one xs) (fun h => by cases h) (by unfold maxLen; omega) (by omega) (by simp) (by first | rfl | go_simp) ?_))
    intro v w4 hown hgrow
    have hB4 : Below w.heap.size w w4 := ((Below.refl _ _).alloc (Nat.le_refl _) _).grown hgrow (by simp) (fun k h => by simp [Value.ownBlock] at h; omega)
    have hown' : w4.ownsRow w.heap.size 9 1 v n (txts xs) := by simpa using hown
    clear hown hgrow m2 hR2
    go_wp2
    go_ret
    exact ⟨_, rfl, hown', hB4⟩
end Go.Proofs.YtadgnafafdfioaaGreatDoor.Rd
/-
  DIMS: words as a shape's numbers. Conditions: each theorem's own.
-/
namespace Go.Proofs.YtadgnafafdfioaaGreatDoor.Rd
set_option maxRecDepth 100000
open Go.RowKit Nm
set_option linter.unusedVariables false

/-- numbers, as cells -/
def ints (zs : List Int) : List Value := zs.map (Value.int .i64)
theorem ints_len (zs : List Int) : (ints zs).length = zs.length := by simp [ints]
/-- a slice of numbers of one's own -/
def Od (w : World) (B : Nat) (v : Value) (zs : List Int) : Prop := w.ownsRow B 3 1 v zs.length (ints zs)
theorem Od.below {w w' : World} {B : Nat} {v : Value} {zs : List Int} (h : Od w B v zs) (hb : Below w.heap.size w w') : Od w' B v zs := Lx.own_below h hb
theorem Od.mono {w : World} {B B' : Nat} {v : Value} {zs : List Int} (h : Od w B v zs) (hb : B' ≤ B) : Od w B' v zs := Lx.own_mono h hb
theorem Od.nil (w : World) (B : Nat) : Od w B (.slice none 0 0) [] := World.ownsRow_nil w B 3 1
theorem row_ints {w : World} {ao : Option Addr} {zs : List Int} (h : Row w ao (ints zs)) : Sp.Sl w ao zs := by
  intro i hi
  obtain ⟨b, off, e, hc⟩ := h i (.int .i64 (zs.getD i 0)) (by simp [ints, List.getD, hi])
  exact ⟨b, off, e, hc⟩
theorem Od.form {w : World} {B : Nat} {v : Value} {zs : List Int} (h : Od w B v zs) : ∃ ao cap, v = .slice ao zs.length cap ∧ Sp.Sl w ao zs := by
  obtain ⟨ao, cap, e, hR, _⟩ := Row.of_own h
  exact ⟨ao, cap, e, row_ints hR⟩
/-- a slice of words of one's own -/
def Ob (w : World) (B : Nat) (v : Value) (xs : List ByteArray) : Prop := w.ownsRow B 9 1 v xs.length (txts xs)
theorem Ob.below {w w' : World} {B : Nat} {v : Value} {xs : List ByteArray} (h : Ob w B v xs) (hb : Below w.heap.size w w') : Ob w' B v xs := Lx.own_below h hb
theorem Ob.mono {w : World} {B B' : Nat} {v : Value} {xs : List ByteArray} (h : Ob w B v xs) (hb : B' ≤ B) : Ob w B' v xs := Lx.own_mono h hb
theorem Ob.nil (w : World) (B : Nat) : Ob w B (.slice none 0 0) [] := World.ownsRow_nil w B 9 1
theorem Ob.form {w : World} {B : Nat} {v : Value} {xs : List ByteArray} (h : Ob w B v xs) : ∃ ao cap, v = .slice ao xs.length cap ∧ Row w ao (txts xs) ∧ (ao = none → cap = 0) := by
  obtain ⟨ao, cap, e, hR, hN, _⟩ := Row.of_own h
  exact ⟨ao, cap, e, hR, fun h => (hN h).2⟩

def dmo (xs : List ByteArray) : Bool := (dms xs).isSome
def dmv (xs : List ByteArray) : List Int := (dms xs).getD []
theorem dm_no {xs : List ByteArray} (h : dms xs = none) : dmo xs = false ∧ dmv xs = [] := by unfold dmo dmv; rw [h]; exact ⟨rfl, rfl⟩
theorem dm_yes {xs : List ByteArray} {d : List Int} (h : dms xs = some d) : dmo xs = true ∧ dmv xs = d := by unfold dmo dmv; rw [h]; exact ⟨rfl, rfl⟩

theorem right_as (ao : Option Addr) (zs : List Int) (cap n : Nat) (r : Bool) (w : World) (hn : zs.length = n) (hl : n ≤ 1000) (hr : decide (Sp.Rgt zs) = r) (hS : Sp.Sl w ao zs) :
    Calls Tryz.prog 22 #[.slice ao n cap] w fun e w' => e = .returned (.bool r) ∧ w' = w := by
  subst hn hr
  exact Sp.right_any ao zs cap w hl hS
theorem dims_any (ao : Option Addr) (xs : List ByteArray) (c : Nat) (w : World) (hR : Row w ao (txts xs)) :
    Calls Tryz.prog 79 #[.slice ao xs.length c] w fun e w' => ∃ v, e = .returned (.tuple #[v, .bool (dmo xs)]) ∧ Od w' w.heap.size v (dmv xs) ∧ Below w.heap.size w w' := by
  obtain ⟨i0, hi, hz0, hz1, hz2⟩ := info_parts inf3
  have no : dms xs = none → dmo xs = false ∧ dmv xs = [] := dm_no
  have ys : ∀ d, dms xs = some d → dmo xs = true ∧ dmv xs = d := fun d => dm_yes
  have H4 : Hid (4 < xs.length → dms xs = none) := dms_long
  have HK : Hid (∀ k zs n, k < xs.length → nus (xs.take k) = some zs → num (xs.getD k em).data.toList = some n → nus (xs.take (k + 1)) = some (zs ++ [(n : Int)])) := fun k zs n a b c => nus_take a b c
  have HF : Hid (∀ k, k < xs.length → num (xs.getD k em).data.toList = none → dms xs = none) := fun k a b => dms_no (nus_none a b)
  have HZ : Hid (∀ zs, nus (xs.take xs.length) = some zs → dms xs = if Sp.Rgt zs then some zs else none) := fun zs h => dms_of (by rw [List.take_length] at h; exact h)
  have HR : Hid _ := fun (v : World) (hb : Below w.heap.size w v) i (h : i < xs.length) => row_str (hR.below hb) h
  clear hR
  have NO : Hid _ := no
  have YS : Hid _ := ys
  clear no ys
  generalize dmo xs = o at NO YS ⊢
  generalize dmv xs = dv at NO YS ⊢
  obtain ⟨n, hn⟩ : ∃ n, xs.length = n := ⟨_, rfl⟩
  rw [hn] at H4 HK HF HZ HR ⊢
  clear hn
  by_cases h4 : 4 < n
  · obtain ⟨rfl, rfl⟩ := NO.out (H4.out h4)
    go_enter Tryz.func79, Tryz.ntmps79
    go_wp2
    go_ret2
    exact ⟨_, rfl, Od.nil _ _, Below.refl _ _⟩
  · go_enter Tryz.func79, Tryz.ntmps79
    go_wp2_with fail
    go_loopw [4, 14] (fun v i wr => ∃ (k : Nat) (zs : List Int), k ≤ n ∧ i = .int .i64 (k : Int) ∧ zs.length = k ∧ nus (xs.take k) = some zs ∧ Od wr w.heap.size v zs ∧ Below w.heap.size w wr) (fun _ i _ => n - (intOf i).toNat)
    case atStart => exact ⟨0, [], by omega, rfl, rfl, rfl, Od.nil _ _, Below.refl _ _⟩
    case round =>
      obtain ⟨k, zs, hk, rfl, hzl, hz, hO, hB⟩ := hrel
      have HZs : Hid _ := hz
      clear hz
      by_cases h : k < n
      · obtain ⟨b, off, rfl, hc⟩ := HR.out wr hB k h
        obtain ⟨x, hx⟩ : ∃ z, xs.getD k em = z := ⟨_, rfl⟩
        rw [hx] at hc
        have HX : Hid _ := hx
        clear hx
        go_wp2_with fail
        refine (number_any x _).mono ?_
        rintro e w1 ⟨rfl, rfl⟩
        cases hnum : num x.data.toList with
        | none =>
          obtain ⟨e1, e2⟩ := numv_no hnum
          rw [e1, e2]
          obtain ⟨rfl, rfl⟩ := NO.out (HF.out k h (by rw [HX.out]; exact hnum))
          clear e1 e2 hnum
          go_wp2
          go_ret2
          exact ⟨_, rfl, Od.nil _ _, hB⟩
        | some m =>
          obtain ⟨e1, e2⟩ := numv_of hnum
          rw [e1, e2]
          have HM : Hid (nus (xs.take (k + 1)) = some (zs ++ [(m : Int)])) := HK.out k zs m h HZs.out (by rw [HX.out]; exact hnum)
          clear e1 e2 hnum
          have hown : w1.ownsRow w.heap.size 3 1 u4 k (ints zs) := by rw [← hzl]; exact hO
          go_wp2_with (first | (at_builtin; refine wpList_append_own _ rfl _ _ 25 rfl w.heap.size 3 i0 _ 1 8 Tryz.underlying25 hi hz0 hz1 hz2 rfl (by decide) _ k (ints zs) rfl (hown.alloc _) ⟨w1.heap.size, 0, none⟩ 1 1 [.int .i64 (m : Int)] rfl rfl ?_ ?_ ?_ ?_ ?_ ?_))
          · exact (Row.one (by go_simp)).news
          · intro x hx
            rw [List.mem_singleton.1 hx]; rfl
          · unfold maxLen; omega
          · omega
          · have := hB.size; simp; omega
          · intro v' w3 hown3 hgrow _
            have hO3 : Od w3 w.heap.size v' (zs ++ [(m : Int)]) := by
              unfold Od ints
              rw [List.length_append, hzl, List.map_append]
              exact hown3
            have hB3 : Below w.heap.size w w3 := (hB.alloc hB.size _).grown hgrow (by have := hB.size; simp; omega) (fun x hx => (hown.lt x hx).1)
            clear hown3 hgrow hown hO hB
            go_wp2
            go_roundw
            case rel => exact ⟨k + 1, zs ++ [(m : Int)], by omega, by go_num, by rw [List.length_append, hzl]; rfl, HM.out, hO3, hB3⟩
            case measure => simp [intOf]; omega
      · obtain rfl : k = n := by omega
        have HD : Hid (dms xs = if Sp.Rgt zs then some zs else none) := HZ.out zs HZs.out
        have hO' : Hid (Od wr w.heap.size u4 zs) := hO
        obtain ⟨a1, c1, rfl, hS⟩ := hO.form
        clear hO
        rw [hzl] at hO' ⊢
        go_wp2_with fail
        obtain ⟨r, hr⟩ : ∃ r, decide (Sp.Rgt zs) = r := ⟨_, rfl⟩
        refine (right_as a1 zs c1 k r wr hzl (by omega) hr hS).mono ?_
        rintro e w1 ⟨rfl, rfl⟩
        cases r with
        | true =>
          have hr := of_decide_eq_true hr
          obtain ⟨rfl, rfl⟩ := YS.out zs (by rw [HD.out, if_pos hr])
          go_wp2
          go_ret2
          exact ⟨_, rfl, hO'.out, hB⟩
        | false =>
          have hr := of_decide_eq_false hr
          obtain ⟨rfl, rfl⟩ := NO.out (by rw [HD.out, if_neg hr])
          go_wp2
          go_ret2
          exact ⟨_, rfl, Od.nil _ _, hB⟩
end Go.Proofs.YtadgnafafdfioaaGreatDoor.Rd
