/-
  THE LAW NatGrows: every call gives true; nothing that was there has turned. No conditions.
-/
import Derived.Test.YthilcooanhinpaaAwake
namespace Go.Proofs.Ythilcooanhinpaa
open Go.RowKit Nm
set_option linter.unusedVariables false

set_option maxHeartbeats 1000000 in
theorem grows_long (a b : ByteArray) (w : World) (h : 120 < a.size ∨ 120 < b.size) :
    Calls Try.prog 13 #[.string a, .string b] w fun e w' => e = .returned (.bool true) ∧ Below w.heap.size w w' := by
  have HB := (Below.refl w.heap.size w).alloc (Nat.le_refl _) (.cells #[.string a, .string b] 9)
  have hsh : ∀ cap, Calls Try.prog 14 #[.slice (some ⟨w.heap.size, 0, none⟩) 2 cap] (w.alloc (.cells #[.string a, .string b] 9)) fun e w' => e = .returned (.bool false) ∧ w' = w.alloc (.cells #[.string a, .string b] 9) := by
    intro cap
    rcases h with h | h
    · exact short_no w.heap.size 2 cap 0 _ _ (by omega) (two_cells w a b) (by omega) (by simpa using h)
    · exact short_no w.heap.size 2 cap 1 _ _ (by omega) (two_cells w a b) (by omega) (by simpa using h)
  have HS : Hid _ := hsh
  clear hsh h
  go_enter Try.func13, Try.ntmps13
  go_wp2_with fail
  refine (HS.out _).mono ?_
  rintro e w1 ⟨rfl, rfl⟩
  go_wp2_with fail
  refine (awake_below w _ HB).mono ?_
  rintro e w2 ⟨rfl, h2⟩
  go_wp2
  go_ret
  exact ⟨rfl, h2⟩

theorem short2 (a b : ByteArray) (w : World) (ha : a.size ≤ 120) (hb : b.size ≤ 120) (cap : Nat) : Calls Try.prog 14 #[.slice (some ⟨w.heap.size, 0, none⟩) 2 cap] (w.alloc (.cells #[.string a, .string b] 9)) fun e w' => e = .returned (.bool true) ∧ w' = w.alloc (.cells #[.string a, .string b] 9) := by
  refine short_yes w.heap.size 2 cap _ _ (by omega) (two_cells w a b) ?_
  intro i hi
  by_cases e : i = 0
  · rw [if_pos e]; exact ha
  · rw [if_neg e]; exact hb

set_option maxHeartbeats 1000000 in
theorem grows_bad (a b : ByteArray) (w : World) (ha : a.size ≤ 120) (hb : b.size ≤ 120) (h : rt a.data.toList = false ∨ rt b.data.toList = false) :
    Calls Try.prog 13 #[.string a, .string b] w fun e w' => e = .returned (.bool true) ∧ Below w.heap.size w w' := by
  have HB := (Below.refl w.heap.size w).alloc (Nat.le_refl _) (.cells #[.string a, .string b] 9)
  by_cases ra : rt a.data.toList = false
  · have RA : Hid _ := ra
    clear ra h
    go_enter Try.func13, Try.ntmps13
    go_wp2_with fail
    refine (short2 a b w ha hb _).mono ?_
    rintro e w1 ⟨rfl, rfl⟩
    go_wp2_with fail
    refine (refRight_is a false _ (by omega) RA.out).mono ?_
    rintro e w1 ⟨rfl, rfl⟩
    go_wp2_with fail
    refine (awake_below w _ HB).mono ?_
    rintro e w2 ⟨rfl, h2⟩
    go_wp2
    go_ret
    exact ⟨rfl, h2⟩
  · have RA : Hid (rt a.data.toList = true) := by simpa [Hid] using ra
    have RB : Hid (rt b.data.toList = false) := by rcases h with h | h; exact absurd h ra; exact h
    clear ra h
    go_enter Try.func13, Try.ntmps13
    go_wp2_with fail
    refine (short2 a b w ha hb _).mono ?_
    rintro e w1 ⟨rfl, rfl⟩
    go_wp2_with fail
    refine (refRight_is a true _ (by omega) RA.out).mono ?_
    rintro e w1 ⟨rfl, rfl⟩
    go_wp2_with fail
    refine (refRight_is b false _ (by omega) RB.out).mono ?_
    rintro e w1 ⟨rfl, rfl⟩
    go_wp2_with fail
    refine (awake_below w _ HB).mono ?_
    rintro e w2 ⟨rfl, h2⟩
    go_wp2
    go_ret
    exact ⟨rfl, h2⟩

set_option maxHeartbeats 1000000 in
theorem grows_less (x y : Nat) (w : World) (hx : tl x ≤ 120) (hy : tl y ≤ 120) (hlt : x < y) :
    Calls Try.prog 13 #[.string (S x), .string (S y)] w fun e w' => e = .returned (.bool true) ∧ Below w.heap.size w w' := by
  have HB := (Below.refl w.heap.size w).alloc (Nat.le_refl _) (.cells #[.string (S x), .string (S y)] 9)
  have HX : Hid _ := S_size x
  have HY : Hid _ := S_size y
  have hsg : sg x y < 0 := by rw [sg_lt (by omega)]; omega
  go_enter Try.func13, Try.ntmps13
  go_wp2_with fail
  refine (short2 (S x) (S y) w (by rw [HX.out]; exact hx) (by rw [HY.out]; exact hy) _).mono ?_
  rintro e w1 ⟨rfl, rfl⟩
  go_wp2_with fail
  refine (refRight_is (S x) true _ (by rw [HX.out]; omega) (rt_S x)).mono ?_
  rintro e w1 ⟨rfl, rfl⟩
  go_wp2_with fail
  refine (refRight_is (S y) true _ (by rw [HY.out]; omega) (rt_S y)).mono ?_
  rintro e w1 ⟨rfl, rfl⟩
  go_wp2_with fail
  refine (Sub_no x y _ (by omega) (by omega) hlt).mono ?_
  rintro e w2 ⟨rfl, h2⟩
  replace HB := HB.trans (h2.mono HB.size)
  go_wp2_with fail
  refine (Compare_any x y _ (by omega) (by omega)).mono ?_
  rintro e w3 ⟨rfl, rfl⟩
  go_wp2_with fail
  refine (awake_below w _ HB).mono ?_
  rintro e w2 ⟨rfl, h2⟩
  go_wp2
  go_ret
  exact ⟨rfl, h2⟩

set_option maxHeartbeats 1000000 in
theorem grows_more (x y : Nat) (w : World) (hx : tl x ≤ 120) (hy : tl y ≤ 120) (hle : y ≤ x) :
    Calls Try.prog 13 #[.string (S x), .string (S y)] w fun e w' => e = .returned (.bool true) ∧ Below w.heap.size w w' := by
  have HB := (Below.refl w.heap.size w).alloc (Nat.le_refl _) (.cells #[.string (S x), .string (S y)] 9)
  have HX : Hid _ := S_size x
  have HY : Hid _ := S_size y
  have hsg : ¬ sg x y < 0 := sg_nonneg (by omega)
  have HE : Hid (x - y + y = x) := Nat.sub_add_cancel hle
  have ht := tl_sub x y
  have HQ : Hid (((S (x - y)).toList == [48]) = ((S x).toList == (S y).toList)) := by
    show ((S (x - y)).toList == [48]) = ((S x).toList == (S y).toList)
    by_cases e : x = y
    · subst e; rw [Nat.sub_self, S_zero]; simp
    · rw [eqS e, eq0 (x - y) (by omega)]
  go_enter Try.func13, Try.ntmps13
  go_wp2_with fail
  refine (short2 (S x) (S y) w (by rw [HX.out]; exact hx) (by rw [HY.out]; exact hy) _).mono ?_
  rintro e w1 ⟨rfl, rfl⟩
  go_wp2_with fail
  refine (refRight_is (S x) true _ (by rw [HX.out]; omega) (rt_S x)).mono ?_
  rintro e w1 ⟨rfl, rfl⟩
  go_wp2_with fail
  refine (refRight_is (S y) true _ (by rw [HY.out]; omega) (rt_S y)).mono ?_
  rintro e w1 ⟨rfl, rfl⟩
  go_wp2_with fail
  refine (Sub_yes x y _ (by omega) (by omega) hle).mono ?_
  rintro e w2 ⟨rfl, h2⟩
  replace HB := HB.trans (h2.mono HB.size)
  go_wp2_with fail
  refine (Compare_any x y _ (by omega) (by omega)).mono ?_
  rintro e w3 ⟨rfl, rfl⟩
  go_wp2_with fail
  refine (Add_any (x - y) y _ (by omega) (by omega)).mono ?_
  rintro e w4 ⟨rfl, h4⟩
  replace HB := HB.trans (h4.mono HB.size)
  rw [HE.out]
  have hq := HQ.out
  go_wp2_with fail
  refine (awake_below w _ HB).mono ?_
  rintro e w5 ⟨rfl, h5⟩
  go_wp2
  go_ret
  exact ⟨rfl, h5⟩

theorem grows_any (a b : ByteArray) (w : World) :
    Calls Try.prog 13 #[.string a, .string b] w fun e w' => e = .returned (.bool true) ∧ Below w.heap.size w w' := by
  by_cases ha : 120 < a.size
  · exact grows_long a b w (Or.inl ha)
  by_cases hb : 120 < b.size
  · exact grows_long a b w (Or.inr hb)
  by_cases ra : rt a.data.toList = true
  · by_cases rb : rt b.data.toList = true
    · have ea := S_of ra
      have eb := S_of rb
      have la : tl (dv a.data.toList) ≤ 120 := by rw [← S_size, ← ea]; omega
      have lb : tl (dv b.data.toList) ≤ 120 := by rw [← S_size, ← eb]; omega
      rw [ea, eb]
      rcases Nat.lt_or_ge (dv a.data.toList) (dv b.data.toList) with c | c
      · exact grows_less _ _ w la lb c
      · exact grows_more _ _ w la lb c
    · exact grows_bad a b w (by omega) (by omega) (Or.inr (by simpa using rb))
  · exact grows_bad a b w (by omega) (by omega) (Or.inl (by simpa using ra))
end Go.Proofs.Ythilcooanhinpaa
