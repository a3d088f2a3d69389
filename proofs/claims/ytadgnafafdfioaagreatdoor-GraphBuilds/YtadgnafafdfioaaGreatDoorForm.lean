/-
  WHICH TEXTS ARE NUMBERS; which is less. Conditions: each theorem's own.
-/
import Derived.Test.YtadgnafafdfioaaGreatDoorLeaf
import Derived.Lib.Strings
import Derived.Lib.Slices
import Derived.Lib.Walk
import Derived.Lib.Bytealg
namespace Go.Proofs.YtadgnafafdfioaaGreatDoor
section
set_option maxRecDepth 100000
open Go.RowKit Nm
set_option linter.unusedVariables false

theorem len_data (s : ByteArray) : s.data.toList.length = s.size := Array.length_toList

theorem rt_bad {s : ByteArray} {k : Nat} (h : k < s.size) (hb : ¬ (48 ≤ s[k].toNat ∧ s[k].toNat ≤ 57)) : rt s.data.toList = false := by
  rw [Bool.eq_false_iff]
  intro e
  exact hb (rt_dg e _ (mem_at s k h))

theorem dg_all {s : ByteArray} (h : ∀ j (hj : j < s.size), 48 ≤ s[j].toNat ∧ s[j].toNat ≤ 57) : Dg s.data.toList := by
  intro c hc
  obtain ⟨j, hj, rfl⟩ := List.mem_iff_getElem.1 hc
  exact h j (by simpa using hj)

theorem head_eq {s : ByteArray} (h : 0 < s.size) : s.data.toList.head? = some s[0] := by
  rw [List.head?_eq_getElem?, List.getElem?_eq_getElem (by simpa using h)]; rfl

theorem rt_end {s : ByteArray} (h : ∀ j (hj : j < s.size), 48 ≤ s[j].toNat ∧ s[j].toNat ≤ 57) (v : Bool) (hv : v = true ↔ (s.size = 1 ∨ 1 < s.size ∧ ∃ h0 : 0 < s.size, s[0].toNat ≠ 48)) : rt s.data.toList = v := by
  rw [Bool.eq_iff_iff, rt_iff, hv, len_data]
  constructor
  · rintro ⟨_, e | ⟨e1, e2⟩⟩
    · exact Or.inl e
    · refine Or.inr ⟨e1, by omega, fun x => e2 ?_⟩
      rw [head_eq (by omega)]
      congr 1
      exact UInt8.toNat_inj.1 (by simpa using x)
  · rintro (e | ⟨e1, h0, e2⟩)
    · exact ⟨dg_all h, Or.inl e⟩
    · refine ⟨dg_all h, Or.inr ⟨e1, fun x => e2 ?_⟩⟩
      rw [head_eq h0] at x
      simp only [Option.some.injEq] at x
      rw [x]; rfl

set_option maxHeartbeats 1000000 in
theorem refRight_any (s : ByteArray) (w : World) (hs : s.size ≤ 5000000) :
    Calls Tryz.prog 41 #[.string s] w fun e w' => e = .returned (.bool (rt s.data.toList)) ∧ w' = w := by
  go_enter Tryz.func41, Tryz.ntmps41
  go_wp2
  go_loop [3] (fun i => ∃ k : Nat, k ≤ s.size ∧ i = .int .i64 (k : Nat) ∧ ∀ j (hj : j < s.size), j < k → 48 ≤ s[j].toNat ∧ s[j].toNat ≤ 57) (fun i => s.size - (intOf i).toNat)
  case atStart => exact ⟨0, by omega, rfl, fun j _ h => by omega⟩
  case round =>
    obtain ⟨k, hk, rfl, hz⟩ := hrel
    have HZ : Hid _ := hz
    clear hz
    by_cases hlt : k < s.size
    · by_cases c1 : s[k].toNat < 48
      · have hr := rt_bad hlt (by omega)
        have HR : Hid _ := hr
        clear hr
        go_wp2
        go_ret
        exact ⟨by rw [HR.out]; rfl, rfl⟩
      · by_cases c2 : 57 < s[k].toNat
        · have hr := rt_bad hlt (by omega)
          have HR : Hid _ := hr
          clear hr
          go_wp2
          go_ret
          exact ⟨by rw [HR.out]; rfl, rfl⟩
        · go_wp2
          go_round
          case rel =>
            refine ⟨k + 1, by omega, by go_num, fun j hj h => ?_⟩
            by_cases e : j = k
            · subst e; omega
            · exact HZ.out j hj (by omega)
          case measure => simp [intOf]; omega
    · have hall : ∀ j (hj : j < s.size), 48 ≤ s[j].toNat ∧ s[j].toNat ≤ 57 := fun j hj => HZ.out j hj (by omega)
      have HA : Hid _ := hall
      clear hall
      by_cases e1 : s.size = 1
      · have e1' : ((s.size : Int) == 1) = true := by simp [e1]
        have HR : Hid (rt s.data.toList = true) := rt_end HA.out true (by simp [e1])
        clear e1
        go_wp2
        go_ret
        exact ⟨by rw [HR.out]; rfl, rfl⟩
      · have e1' : ((s.size : Int) == 1) = false := by simp; omega
        by_cases e2 : 1 < s.size
        · have h0 : 0 < s.size := by omega
          by_cases e3 : s[0].toNat = 48
          · have HR : Hid (rt s.data.toList = false) := rt_end HA.out false (by simp [e1, e3])
            go_wp2
            go_ret
            exact ⟨by rw [HR.out]; rfl, rfl⟩
          · have HR : Hid (rt s.data.toList = true) := rt_end HA.out true (by simp [e1, e2, e3, h0])
            have hne : (((s[0].toNat : Nat) : Int) != 48) = true := by rw [bne_iff_ne]; omega
            go_wp2
            go_ret
            exact ⟨by rw [HR.out]; rfl, rfl⟩
        · have HR : Hid (rt s.data.toList = false) := rt_end HA.out false (by simp [e1]; omega)
          go_wp2
          go_ret
          exact ⟨by rw [HR.out]; rfl, rfl⟩

theorem toList_data (s : ByteArray) : s.toList = s.data.toList := ByteArray.toList_eq s

set_option maxHeartbeats 1000000 in
theorem right_any (s : ByteArray) (w : World) (hs : s.size ≤ 5000000) :
    Calls Tryz.prog 99 #[.string s] w fun e w' => e = .returned (.bool (rt s.data.toList)) ∧ w' = w := by
  have hl := len_data s
  by_cases h0 : s.size = 0
  · have hE : s.toList = [] := by rw [toList_data]; exact List.length_eq_zero_iff.1 (by omega)
    have HR : Hid (rt s.data.toList = false) := by
      show rt s.data.toList = false
      rw [← toList_data, hE]; rfl
    clear hl h0
    go_enter Tryz.func99, Tryz.ntmps99
    go_wp2
    go_ret
    exact ⟨by rw [HR.out]; rfl, rfl⟩
  · have h0' : 0 < s.size := by omega
    have hE : s.toList.isEmpty = false := by
      rw [toList_data, List.isEmpty_eq_false_iff]
      intro e; rw [e] at hl; simp at hl; omega
    clear hl h0
    by_cases h48 : s[0].toNat = 48
    · have e48 : (((s[0].toNat : Nat) : Int) == 48) = true := by simp [h48]
      by_cases h1 : 1 < s.size
      · have HR : Hid (rt s.data.toList = false) := by
          show rt s.data.toList = false
          rw [Bool.eq_false_iff]
          intro x
          obtain ⟨_, y⟩ := (rt_iff _).1 x
          rw [len_data, head_eq h0'] at y
          rcases y with y | ⟨_, y⟩
          · omega
          · exact y (congrArg some (UInt8.toNat_inj.1 (by simpa using h48)))
        clear h48
        go_enter Tryz.func99, Tryz.ntmps99
        go_wp2
        go_ret
        exact ⟨by rw [HR.out]; rfl, rfl⟩
      · clear h48
        go_enter Tryz.func99, Tryz.ntmps99
        go_wp2
        go_loop [18] (fun i => ∃ k : Nat, k ≤ s.size ∧ i = .int .i64 (k : Nat) ∧ ∀ j (hj : j < s.size), j < k → 48 ≤ s[j].toNat ∧ s[j].toNat ≤ 57) (fun i => s.size - (intOf i).toNat)
        case atStart => exact ⟨0, by omega, rfl, fun j _ h => by omega⟩
        case round =>
          obtain ⟨k, hk, rfl, hz⟩ := hrel
          have HZ : Hid _ := hz
          clear hz
          by_cases hlt : k < s.size
          · by_cases c1 : s[k].toNat < 48
            · have hr := rt_bad hlt (by omega)
              have HR : Hid _ := hr
              clear hr
              go_wp2
              go_ret
              exact ⟨by rw [HR.out]; rfl, rfl⟩
            · by_cases c2 : 57 < s[k].toNat
              · have hr := rt_bad hlt (by omega)
                have HR : Hid _ := hr
                clear hr
                go_wp2
                go_ret
                exact ⟨by rw [HR.out]; rfl, rfl⟩
              · go_wp2
                go_round
                case rel =>
                  refine ⟨k + 1, by omega, by go_num, fun j hj h => ?_⟩
                  by_cases e : j = k
                  · subst e; omega
                  · exact HZ.out j hj (by omega)
                case measure => simp [intOf]; omega
          · have HR : Hid (rt s.data.toList = true) := rt_end (fun j hj => HZ.out j hj (by omega)) true (by simp; omega)
            go_wp2
            go_ret
            exact ⟨by rw [HR.out]; rfl, rfl⟩
    · have e48 : (((s[0].toNat : Nat) : Int) == 48) = false := by simp; omega
      have HT : Hid (s[0].toNat ≠ 48) := h48
      clear h48
      go_enter Tryz.func99, Tryz.ntmps99
      go_wp2
      go_loop [18] (fun i => ∃ k : Nat, k ≤ s.size ∧ i = .int .i64 (k : Nat) ∧ ∀ j (hj : j < s.size), j < k → 48 ≤ s[j].toNat ∧ s[j].toNat ≤ 57) (fun i => s.size - (intOf i).toNat)
      case atStart => exact ⟨0, by omega, rfl, fun j _ h => by omega⟩
      case round =>
        obtain ⟨k, hk, rfl, hz⟩ := hrel
        have HZ : Hid _ := hz
        clear hz
        by_cases hlt : k < s.size
        · by_cases c1 : s[k].toNat < 48
          · have hr := rt_bad hlt (by omega)
            have HR : Hid _ := hr
            clear hr
            go_wp2
            go_ret
            exact ⟨by rw [HR.out]; rfl, rfl⟩
          · by_cases c2 : 57 < s[k].toNat
            · have hr := rt_bad hlt (by omega)
              have HR : Hid _ := hr
              clear hr
              go_wp2
              go_ret
              exact ⟨by rw [HR.out]; rfl, rfl⟩
            · go_wp2
              go_round
              case rel =>
                refine ⟨k + 1, by omega, by go_num, fun j hj h => ?_⟩
                by_cases e : j = k
                · subst e; omega
                · exact HZ.out j hj (by omega)
              case measure => simp [intOf]; omega
        · have HR : Hid (rt s.data.toList = true) := rt_end (fun j hj => HZ.out j hj (by omega)) true (by have := HT.out; simp; by_cases c : s.size = 1; exact Or.inl c; exact Or.inr ⟨by omega, h0', this⟩)
          go_wp2
          go_ret
          exact ⟨by rw [HR.out]; rfl, rfl⟩

theorem right_is (s : ByteArray) (v : Bool) (w : World) (hs : s.size ≤ 5000000) (h : rt s.data.toList = v) :
    Calls Tryz.prog 99 #[.string s] w fun e w' => e = .returned (.bool v) ∧ w' = w := by
  subst h; exact right_any s w hs

theorem refRight_is (s : ByteArray) (v : Bool) (w : World) (hs : s.size ≤ 5000000) (h : rt s.data.toList = v) :
    Calls Tryz.prog 41 #[.string s] w fun e w' => e = .returned (.bool v) ∧ w' = w := by
  subst h; exact refRight_any s w hs

set_option maxHeartbeats 400000 in
theorem bothRight_yes (a b : ByteArray) (w : World) (ha : a.size ≤ 5000000) (hb : b.size ≤ 5000000) (ra : rt a.data.toList = true) (rb : rt b.data.toList = true) :
    Calls Tryz.prog 100 #[.string a, .string b] w fun e w' => e = .returned (.bool true) ∧ w' = w := by
  have RA : Hid _ := ra
  have RB : Hid _ := rb
  clear ra rb
  go_enter Tryz.func100, Tryz.ntmps100
  go_wp2_with fail
  refine (right_is a true _ ha RA.out).mono ?_
  rintro e w2 ⟨rfl, rfl⟩
  go_wp2_with fail
  refine (right_is b true _ hb RB.out).mono ?_
  rintro e w2 ⟨rfl, rfl⟩
  go_wp2
  go_ret
  exact ⟨rfl, rfl⟩

set_option maxHeartbeats 400000 in
theorem bothRight_no (a b : ByteArray) (w : World) (ha : a.size ≤ 5000000) (hb : b.size ≤ 5000000) (r : rt a.data.toList = false ∨ rt b.data.toList = false) :
    Calls Tryz.prog 100 #[.string a, .string b] w fun e w' => e = .returned (.bool false) ∧ w' = w := by
  by_cases ra : rt a.data.toList = false
  · have RA : Hid _ := ra
    clear ra r
    go_enter Tryz.func100, Tryz.ntmps100
    go_wp2_with fail
    refine (right_is a false _ ha RA.out).mono ?_
    rintro e w2 ⟨rfl, rfl⟩
    go_wp2
    go_ret
    exact ⟨rfl, rfl⟩
  · have RA : Hid (rt a.data.toList = true) := by simpa [Hid] using ra
    have RB : Hid (rt b.data.toList = false) := by rcases r with r | r; exact absurd r ra; exact r
    clear ra r
    go_enter Tryz.func100, Tryz.ntmps100
    go_wp2_with fail
    refine (right_is a true _ ha RA.out).mono ?_
    rintro e w2 ⟨rfl, rfl⟩
    go_wp2_with fail
    refine (right_is b false _ hb RB.out).mono ?_
    rintro e w2 ⟨rfl, rfl⟩
    go_wp2
    go_ret
    exact ⟨rfl, rfl⟩
end
end Go.Proofs.YtadgnafafdfioaaGreatDoor
namespace Go.Proofs.YtadgnafafdfioaaGreatDoor
section
set_option maxRecDepth 100000
open Go.RowKit Nm
set_option linter.unusedVariables false

/-- -1, 0, 1 -/
def sg (a b : Int) : Int := if a < b then -1 else if b < a then 1 else 0

set_option maxHeartbeats 400000 in
theorem cmpInt_any (a b : Int) (w : World) :
    Calls Tryz.prog 107 #[.int .i64 a, .int .i64 b] w fun e w' => e = .returned (.int .i64 (sg a b)) ∧ w' = w := by
  by_cases h : a < b
  · have hr : sg a b = -1 := by simp [sg, h]
    have HR : Hid _ := hr
    clear hr
    go_enter Tryz.func107, Tryz.ntmps107
    go_wp2
    all_goals go_ret
    all_goals exact ⟨by rw [HR.out]; rfl, rfl⟩
  · by_cases h2 : b < a
    · have hr : sg a b = 1 := by simp [sg, h, h2]
      have HR : Hid _ := hr
      clear hr
      go_enter Tryz.func107, Tryz.ntmps107
      go_wp2
      all_goals go_ret
      all_goals exact ⟨by rw [HR.out]; rfl, rfl⟩
    · have hr : sg a b = 0 := by simp [sg, h, h2]
      have HR : Hid _ := hr
      clear hr
      go_enter Tryz.func107, Tryz.ntmps107
      go_wp2
      all_goals go_ret
      all_goals exact ⟨by rw [HR.out]; rfl, rfl⟩

set_option maxHeartbeats 400000 in
theorem cmpInt64_any (a b : Int) (w : World) :
    Calls Tryz.prog 122 #[.int .i64 a, .int .i64 b] w fun e w' => e = .returned (.int .i64 (sg a b)) ∧ w' = w := by
  by_cases h : a < b
  · have hr : sg a b = -1 := by simp [sg, h]
    have HR : Hid _ := hr
    clear hr
    go_enter Tryz.func122, Tryz.ntmps122
    go_wp2
    all_goals go_ret
    all_goals exact ⟨by rw [HR.out]; rfl, rfl⟩
  · by_cases h2 : b < a
    · have hr : sg a b = 1 := by simp [sg, h, h2]
      have HR : Hid _ := hr
      clear hr
      go_enter Tryz.func122, Tryz.ntmps122
      go_wp2
      all_goals go_ret
      all_goals exact ⟨by rw [HR.out]; rfl, rfl⟩
    · have hr : sg a b = 0 := by simp [sg, h, h2]
      have HR : Hid _ := hr
      clear hr
      go_enter Tryz.func122, Tryz.ntmps122
      go_wp2
      all_goals go_ret
      all_goals exact ⟨by rw [HR.out]; rfl, rfl⟩

set_option maxHeartbeats 1000000 in
set_option maxRecDepth 100000 in
theorem cmpString_any (a b : ByteArray) (w : World) :
    Calls Tryz.prog 121 #[.string a, .string b] w fun e w' => e = .returned (.int .i64 (Lib.compareBytes a.data.toList b.data.toList)) ∧ w' = w := by
  go_enter Tryz.func121, Tryz.ntmps121
  go_wp2
  rw [run_callFunc_extern Tryz.func129 (by kernel_rfl) (by kernel_rfl) (by kernel_rfl) (e := Extern.BytealgCompare.compare) (by kernel_rfl), Lib.run_compareString]
  simp only [Result.andThen]
  rw [Oper.upon_value]
  go_wp2
  go_ret
  exact ⟨rfl, rfl⟩

set_option maxHeartbeats 400000 in
theorem stringsCompare_any (a b : ByteArray) (w : World) :
    Calls Tryz.prog 108 #[.string a, .string b] w fun e w' => e = .returned (.int .i64 (Lib.compareBytes a.data.toList b.data.toList)) ∧ w' = w := by
  go_enter Tryz.func108, Tryz.ntmps108
  go_wp2_with fail
  refine (cmpString_any a b _).mono ?_
  rintro e w2 ⟨rfl, rfl⟩
  go_wp2
  go_ret
  exact ⟨rfl, rfl⟩
end
end Go.Proofs.YtadgnafafdfioaaGreatDoor
