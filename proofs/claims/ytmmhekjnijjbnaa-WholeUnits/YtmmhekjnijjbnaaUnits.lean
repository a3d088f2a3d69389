/-
  THE LAW WholeUnits: every call gives true; nothing that was there has turned. No conditions.
-/
import Derived.Test.YtmmhekjnijjbnaaLits
namespace Go.Proofs.Ytmmhekjnijjbnaa
open Go.RowKit Nm
set_option linter.unusedVariables false

set_option maxRecDepth 100000 in
set_option maxHeartbeats 2000000 in
theorem units_no0 (a0 : ByteArray) (w : World) (h : ok a0 = false) :
    Calls Try.prog 9 #[.string a0] w fun e w' => e = .returned (.bool true) ∧ Below w.heap.size w w' := by
  have HB := (Below.refl w.heap.size w).alloc (Nat.le_refl _) (.cells #[.string a0] 9)
  have HS : Hid (∀ cap, Calls Try.prog 16 #[.slice (some ⟨w.heap.size, 0, none⟩) 1 cap] (w.alloc (.cells #[.string a0] 9)) fun e w' => e = .returned (.bool false) ∧ w' = w.alloc (.cells #[.string a0] 9)) := fun cap => shortw_no w.heap.size 1 cap 0 (fun _ => a0) _ (by omega) (one_cell w a0) (by omega) (by simpa using h)
  clear h
  go_enter Try.func9, Try.ntmps9
  go_wp2_with fail
  refine (HS.out _).mono ?_
  rintro e w1 ⟨rfl, rfl⟩
  go_wp2_with fail
  refine (awakew_below _ _ HB).mono ?_
  rintro e w2 ⟨rfl, h2⟩
  go_wp2
  go_ret
  exact ⟨rfl, h2⟩

theorem units_yes (a0 : ByteArray) (w : World) (k0 : ok a0 = true) (cap : Nat) : Calls Try.prog 16 #[.slice (some ⟨w.heap.size, 0, none⟩) 1 cap] (w.alloc (.cells #[.string a0] 9)) fun e w' => e = .returned (.bool true) ∧ w' = w.alloc (.cells #[.string a0] 9) := by
  refine shortw_yes w.heap.size 1 cap (fun _ => a0) _ (by omega) (one_cell w a0) ?_
  intro i hi
  (repeat' split) <;> assumption

set_option maxRecDepth 100000 in
set_option maxHeartbeats 2000000 in
theorem units_good (x : Int) (w : World) (xs : (W x).size ≤ 100)  :
    Calls Try.prog 9 #[.string (W x)] w fun e w' => e = .returned (.bool true) ∧ Below w.heap.size w w' := by
  have HB := (Below.refl w.heap.size w).alloc (Nat.le_refl _) (.cells #[.string (W x)] 9)
  have Kx : Hid (ok (W x) = true) := ok_W xs
  have Bx : Hid (tl (x).natAbs ≤ 100) := tw_of xs
  have z0 := is0W
  clear xs
  go_enter Try.func9, Try.ntmps9
  go_wp2_with fail
  refine (units_yes (W x) w Kx.out _).mono ?_
  rintro e w3 ⟨rfl, rfl⟩
  go_wp2_with fail
  refine (mul_1 x _ (Nat.le_trans Bx.out (by omega))).mono ?_
  rintro e w4 ⟨rfl, h4⟩
  replace HB := bl_trans HB h4
  clear h4
  go_wp2_with fail
  refine (mul_m x _ (Nat.le_trans Bx.out (by omega))).mono ?_
  rintro e w5 ⟨rfl, h5⟩
  replace HB := bl_trans HB h5
  clear h5
  go_wp2_with fail
  refine (mul_0 x _ (Nat.le_trans Bx.out (by omega))).mono ?_
  rintro e w6 ⟨rfl, h6⟩
  replace HB := bl_trans HB h6
  clear h6
  go_wp2_with fail
  refine (Negw_W x _ (Nat.le_trans Bx.out (by omega))).mono ?_
  rintro e w7 ⟨rfl, h7⟩
  replace HB := bl_trans HB h7
  clear h7
  go_wp2_with fail
  refine (add_0 x _ (Nat.le_trans Bx.out (by omega))).mono ?_
  rintro e w8 ⟨rfl, h8⟩
  replace HB := bl_trans HB h8
  clear h8
  go_wp2_with fail
  refine (awakew_below _ _ HB).mono ?_
  rintro e w9 ⟨rfl, h9⟩
  go_wp2
  go_ret
  exact ⟨rfl, h9⟩

theorem units_any (a0 : ByteArray) (w : World) :
    Calls Try.prog 9 #[.string a0] w fun e w' => e = .returned (.bool true) ∧ Below w.heap.size w w' := by
  by_cases r0 : ok a0 = true
  rotate_left
  · exact units_no0 a0 w (by simpa using r0)
  obtain ⟨x, rfl, xs⟩ := ok_of r0
  exact units_good x w xs 

end Go.Proofs.Ytmmhekjnijjbnaa
