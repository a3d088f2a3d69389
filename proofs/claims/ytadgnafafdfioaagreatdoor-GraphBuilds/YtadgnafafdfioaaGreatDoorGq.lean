/-
  WHAT THE DOCUMENT's Parts AND find GIVE. Conditions: each theorem's own.
-/
import Derived.Test.YtadgnafafdfioaaGreatDoorGP
import Derived.Test.YtadgnafafdfioaaGreatDoorNam
import Derived.Test.YtadgnafafdfioaaGreatDoorTell
namespace Go.Proofs.YtadgnafafdfioaaGreatDoor.Gr
open Go.Proofs.YtadgnafafdfioaaGreatDoor.Rd
set_option maxRecDepth 100000
open Go.RowKit
set_option linter.unusedVariables false
set_option linter.unusedSimpArgs false

def prv (x : ByteArray) : Int := match prs x with | some m => (m : Int) | none => -1
theorem lit_cells (w : World) (L : List (List UInt8)) (e : TypeId) (i : Nat) (hi : i < L.length) : (w.alloc (.cells (txts (L.map str)).toArray e)).cell? ⟨w.heap.size, i, none⟩ = some (.string (str (L.getD i []))) := by
  rw [World.cell?_alloc_new]
  simp [txts, List.getD, hi]
theorem isw_ne {x : ByteArray} {l : List UInt8} (h : ¬ str l = x) : isw x l = false := by
  cases c : isw x l with
  | false => rfl
  | true => exact absurd (isw_eq c).symm h
theorem list_ne {x y : ByteArray} (h : ¬ y = x) : (y.toList == x.toList) = false := by
  cases c : (y.toList == x.toList) with
  | false => rfl
  | true =>
    have e := eq_of_beq c
    rw [toList_data, toList_data] at e
    exact absurd (by cases x; cases y; simpa using e) h
theorem any_none {x : ByteArray} {L : List (List UInt8)} (h : ∀ j, j < L.length → isw x (L.getD j []) = false) : L.any (isw x) = false := by
  rw [List.any_eq_false]
  intro l hl
  obtain ⟨i, hi, rfl⟩ := List.getElem_of_mem hl
  have := h i hi
  simp [List.getD, hi] at this
  simp [this]
theorem prv_none {x : ByteArray} (h0 : ∀ j, j < 3 → isw x (noLs.getD j []) = false) (h1 : ∀ j, j < 10 → isw x (oneLs.getD j []) = false) (h2 : ∀ j, j < 6 → isw x (twoLs.getD j []) = false) : prv x = -1 := by
  unfold prv prs
  rw [any_none (L := noLs) h0, any_none (L := oneLs) h1, any_none (L := twoLs) h2]
  rfl
theorem prv_no : ∀ k, k < 3 → prv (str (noLs.getD k [])) = 0 := by decide
theorem prv_one : ∀ k, k < 10 → prv (str (oneLs.getD k [])) = 1 := by decide
theorem prv_two : ∀ k, k < 6 → prv (str (twoLs.getD k [])) = 2 := by decide
set_option maxHeartbeats 4000000 in
theorem refParts_any (x : ByteArray) (w : World) : Calls Tryz.prog 24 #[.string x] w fun e w' => e = .returned (.int .i64 (prv x)) ∧ Below w.heap.size w w' := by
  go_enter Tryz.func24, Tryz.ntmps24
  go_wp2_with fail
  obtain ⟨W0, hW0, HL0, HB0⟩ : ∃ W, w.alloc (.cells (txts (noLs.map str)).toArray 9) = W ∧ Hid (∀ i, i < 3 → W.cell? ⟨w.heap.size, i, none⟩ = some (.string (str (noLs.getD i [])))) ∧ Hid (Below w.heap.size w W) :=
    ⟨_, rfl, lit_cells w noLs 9, (Below.refl w.heap.size w).alloc (Nat.le_refl _) _⟩
  have hW0' : w.alloc (.cells #[.string ⟨#[112, 97, 114, 97, 109]⟩, .string ⟨#[105, 110, 112, 117, 116]⟩, .string ⟨#[99, 111, 110, 115, 116]⟩] 9) = W0 := hW0
  rw [hW0']
  clear hW0 hW0'
  obtain ⟨g, hg⟩ : ∃ g, w.heap.size = g := ⟨_, rfl⟩
  rw [hg] at HL0 ⊢
  clear hg
  go_loop [11] (fun i => ∃ k : Nat, k ≤ 3 ∧ i = .int .i64 (k : Int) ∧ Hid (∀ j, j < k → isw x (noLs.getD j []) = false)) (fun i => 3 - (intOf i).toNat)
  case atStart => exact ⟨0, by omega, rfl, fun j hj => by omega⟩
  case round =>
    obtain ⟨k, hk, rfl, hj⟩ := hrel
    by_cases h : k < 3
    · have hc := HL0.out k h
      obtain ⟨y, hy⟩ : ∃ y, str (noLs.getD k []) = y := ⟨_, rfl⟩
      have HY : Hid _ := hy
      rw [hy] at hc
      clear hy
      by_cases hyx : y = x
      · subst hyx
        have hv : prv y = 0 := by rw [← HY.out]; exact prv_no k h
        have HV : Hid _ := hv
        clear hv
        go_wp2
        go_ret
        exact ⟨by rw [HV.out]; rfl, HB0.out⟩
      · have hyl := list_ne hyx
        go_wp2
        go_round
        case rel =>
          refine ⟨k + 1, by omega, by go_num, fun j hjk => ?_⟩
          by_cases e : j = k
          · subst e
            exact isw_ne (HY.out ▸ hyx)
          · exact hj.out j (by omega)
        case measure => simp [intOf]; omega
    · obtain rfl : k = 3 := by omega
      have HN0 : Hid _ := hj.out
      clear hj h hk
      go_wp2_with fail
      obtain ⟨W1, hW1, HL1, HB1⟩ : ∃ W, W0.alloc (.cells (txts (oneLs.map str)).toArray 9) = W ∧ Hid (∀ i, i < 10 → W.cell? ⟨W0.heap.size, i, none⟩ = some (.string (str (oneLs.getD i [])))) ∧ Hid (Below w.heap.size w W) :=
        ⟨_, rfl, lit_cells W0 oneLs 9, HB0.out.alloc HB0.out.size _⟩
      have hW1' : W0.alloc (.cells #[.string ⟨#[114, 101, 108, 117]⟩, .string ⟨#[97, 98, 115]⟩, .string ⟨#[115, 116, 101, 112]⟩, .string ⟨#[115, 105, 103, 110]⟩, .string ⟨#[115, 99, 97, 108, 101]⟩, .string ⟨#[112, 111, 119, 101, 114]⟩, .string ⟨#[116, 114, 97, 110, 115, 112, 111, 115, 101]⟩, .string ⟨#[115, 117, 109]⟩, .string ⟨#[114, 101, 115, 104, 97, 112, 101]⟩, .string ⟨#[115, 112, 114, 101, 97, 100]⟩] 9) = W1 := hW1
      rw [hW1']
      clear hW1 hW1'
      obtain ⟨g, hg⟩ : ∃ g, W0.heap.size = g := ⟨_, rfl⟩
      rw [hg] at HL1 ⊢
      clear hg
      go_loop [21] (fun i => ∃ k : Nat, k ≤ 10 ∧ i = .int .i64 (k : Int) ∧ Hid (∀ j, j < k → isw x (oneLs.getD j []) = false)) (fun i => 10 - (intOf i).toNat)
      case atStart => exact ⟨0, by omega, rfl, fun j hj => by omega⟩
      case round =>
        obtain ⟨k, hk, rfl, hj⟩ := hrel
        by_cases h : k < 10
        · have hc := HL1.out k h
          obtain ⟨y, hy⟩ : ∃ y, str (oneLs.getD k []) = y := ⟨_, rfl⟩
          have HY : Hid _ := hy
          rw [hy] at hc
          clear hy
          by_cases hyx : y = x
          · subst hyx
            have hv : prv y = 1 := by rw [← HY.out]; exact prv_one k h
            have HV : Hid _ := hv
            clear hv
            go_wp2
            go_ret
            exact ⟨by rw [HV.out]; rfl, HB1.out⟩
          · have hyl := list_ne hyx
            go_wp2
            go_round
            case rel =>
              refine ⟨k + 1, by omega, by go_num, fun j hjk => ?_⟩
              by_cases e : j = k
              · subst e
                exact isw_ne (HY.out ▸ hyx)
              · exact hj.out j (by omega)
            case measure => simp [intOf]; omega
        · obtain rfl : k = 10 := by omega
          have HN1 : Hid _ := hj.out
          clear hj h hk
          go_wp2_with fail
          obtain ⟨W2, hW2, HL2, HB2⟩ : ∃ W, W1.alloc (.cells (txts (twoLs.map str)).toArray 9) = W ∧ Hid (∀ i, i < 6 → W.cell? ⟨W1.heap.size, i, none⟩ = some (.string (str (twoLs.getD i [])))) ∧ Hid (Below w.heap.size w W) :=
            ⟨_, rfl, lit_cells W1 twoLs 9, HB1.out.alloc HB1.out.size _⟩
          have hW2' : W1.alloc (.cells #[.string ⟨#[97, 100, 100]⟩, .string ⟨#[115, 117, 98]⟩, .string ⟨#[109, 117, 108]⟩, .string ⟨#[109, 97, 120]⟩, .string ⟨#[97, 98, 111, 118, 101]⟩, .string ⟨#[109, 97, 116, 109, 117, 108]⟩] 9) = W2 := hW2
          rw [hW2']
          clear hW2 hW2'
          obtain ⟨g, hg⟩ : ∃ g, W1.heap.size = g := ⟨_, rfl⟩
          rw [hg] at HL2 ⊢
          clear hg
          go_loop [31] (fun i => ∃ k : Nat, k ≤ 6 ∧ i = .int .i64 (k : Int) ∧ Hid (∀ j, j < k → isw x (twoLs.getD j []) = false)) (fun i => 6 - (intOf i).toNat)
          case atStart => exact ⟨0, by omega, rfl, fun j hj => by omega⟩
          case round =>
            obtain ⟨k, hk, rfl, hj⟩ := hrel
            by_cases h : k < 6
            · have hc := HL2.out k h
              obtain ⟨y, hy⟩ : ∃ y, str (twoLs.getD k []) = y := ⟨_, rfl⟩
              have HY : Hid _ := hy
              rw [hy] at hc
              clear hy
              by_cases hyx : y = x
              · subst hyx
                have hv : prv y = 2 := by rw [← HY.out]; exact prv_two k h
                have HV : Hid _ := hv
                clear hv
                go_wp2
                go_ret
                exact ⟨by rw [HV.out]; rfl, HB2.out⟩
              · have hyl := list_ne hyx
                go_wp2
                go_round
                case rel =>
                  refine ⟨k + 1, by omega, by go_num, fun j hjk => ?_⟩
                  by_cases e : j = k
                  · subst e
                    exact isw_ne (HY.out ▸ hyx)
                  · exact hj.out j (by omega)
                case measure => simp [intOf]; omega
            · obtain rfl : k = 6 := by omega
              have HN2 : Hid _ := hj.out
              clear hj h hk
              go_wp2
              go_ret
              exact ⟨by rw [prv_none HN0.out HN1.out HN2.out]; rfl, HB2.out⟩
end Go.Proofs.YtadgnafafdfioaaGreatDoor.Gr
