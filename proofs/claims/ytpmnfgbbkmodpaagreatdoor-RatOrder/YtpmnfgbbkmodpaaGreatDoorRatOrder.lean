/-
  THE STATEMENT RatOrder: which is less goes on from one to the next, and turns when both are taken off 0, for all texts.
  Conditions: none but the row's own and the card's: the listed package variables read as the program's text lays them.
-/
import Derived.Test.YtpmnfgbbkmodpaaGreatDoorLitR
import Derived.Test.YtpmnfgbbkmodpaaGreatDoorRows
import Derived.Test.YtpmnfgbbkmodpaaGreatDoorCards
import Derived.Test.YtpmnfgbbkmodpaaGreatDoorTie
import Derived.WalkKit
import Derived.ProofKit
import Derived.OpenShut
import Derived.ShutString
import Derived.LaidMore
import Derived.Stop.Joined
import Derived.SevenTiedAt
namespace Go.Proofs.YtpmnfgbbkmodpaaGreatDoor
section
set_option maxRecDepth 100000
open Go.RowKit Nm
set_option linter.unusedVariables false

set_option maxHeartbeats 4000000 in
theorem order_no0 (a0 a1 a2 : ByteArray) (aF aZ : Addr) (w : World) (hE : Er w aF aZ) (h : okr a0 = false) :
    Calls Tryz.prog 9 #[.string a0, .string a1, .string a2] w fun e w' => e = .returned (.bool true) ∧ Below w.heap.size w w' := by
  have HE : Hid _ := hE
  clear hE
  have HB := bl_alloc (Below.refl w.heap.size w) (.cells #[.string a0, .string a1, .string a2] 9)
  have HS : Hid (∀ cap, Calls Tryz.prog 34 #[.slice (some ⟨w.heap.size, 0, none⟩) 3 cap] (w.alloc (.cells #[.string a0, .string a1, .string a2] 9)) fun e w' => e = .returned (.bool false) ∧ Below (w.alloc (.cells #[.string a0, .string a1, .string a2] 9)).heap.size (w.alloc (.cells #[.string a0, .string a1, .string a2] 9)) w') := fun cap => right_no w.heap.size 3 cap 0 _ aF aZ _ (HE.out.more _) (by omega) (three_cells w a0 a1 a2) (by omega) (by simpa using h)
  clear h
  go_enter Tryz.func9, Tryz.ntmps9
  go_wp2_with fail
  refine (HS.out _).mono ?_
  rintro e w1 ⟨rfl, h1⟩
  replace HB := bl_trans HB h1
  clear h1
  go_wp2_with fail
  refine (awake_below aF aZ _ _ HE.out HB).mono ?_
  rintro e w2 ⟨rfl, h2⟩
  have HR : Hid _ := h2
  clear h2 HB
  go_wp2
  go_ret
  exact ⟨rfl, HR.out⟩

set_option maxHeartbeats 4000000 in
theorem order_no1 (a0 a1 a2 : ByteArray) (aF aZ : Addr) (w : World) (hE : Er w aF aZ) (h : okr a1 = false) :
    Calls Tryz.prog 9 #[.string a0, .string a1, .string a2] w fun e w' => e = .returned (.bool true) ∧ Below w.heap.size w w' := by
  have HE : Hid _ := hE
  clear hE
  have HB := bl_alloc (Below.refl w.heap.size w) (.cells #[.string a0, .string a1, .string a2] 9)
  have HS : Hid (∀ cap, Calls Tryz.prog 34 #[.slice (some ⟨w.heap.size, 0, none⟩) 3 cap] (w.alloc (.cells #[.string a0, .string a1, .string a2] 9)) fun e w' => e = .returned (.bool false) ∧ Below (w.alloc (.cells #[.string a0, .string a1, .string a2] 9)).heap.size (w.alloc (.cells #[.string a0, .string a1, .string a2] 9)) w') := fun cap => right_no w.heap.size 3 cap 1 _ aF aZ _ (HE.out.more _) (by omega) (three_cells w a0 a1 a2) (by omega) (by simpa using h)
  clear h
  go_enter Tryz.func9, Tryz.ntmps9
  go_wp2_with fail
  refine (HS.out _).mono ?_
  rintro e w3 ⟨rfl, h3⟩
  replace HB := bl_trans HB h3
  clear h3
  go_wp2_with fail
  refine (awake_below aF aZ _ _ HE.out HB).mono ?_
  rintro e w4 ⟨rfl, h4⟩
  have HR : Hid _ := h4
  clear h4 HB
  go_wp2
  go_ret
  exact ⟨rfl, HR.out⟩

set_option maxHeartbeats 4000000 in
theorem order_no2 (a0 a1 a2 : ByteArray) (aF aZ : Addr) (w : World) (hE : Er w aF aZ) (h : okr a2 = false) :
    Calls Tryz.prog 9 #[.string a0, .string a1, .string a2] w fun e w' => e = .returned (.bool true) ∧ Below w.heap.size w w' := by
  have HE : Hid _ := hE
  clear hE
  have HB := bl_alloc (Below.refl w.heap.size w) (.cells #[.string a0, .string a1, .string a2] 9)
  have HS : Hid (∀ cap, Calls Tryz.prog 34 #[.slice (some ⟨w.heap.size, 0, none⟩) 3 cap] (w.alloc (.cells #[.string a0, .string a1, .string a2] 9)) fun e w' => e = .returned (.bool false) ∧ Below (w.alloc (.cells #[.string a0, .string a1, .string a2] 9)).heap.size (w.alloc (.cells #[.string a0, .string a1, .string a2] 9)) w') := fun cap => right_no w.heap.size 3 cap 2 _ aF aZ _ (HE.out.more _) (by omega) (three_cells w a0 a1 a2) (by omega) (by simpa using h)
  clear h
  go_enter Tryz.func9, Tryz.ntmps9
  go_wp2_with fail
  refine (HS.out _).mono ?_
  rintro e w5 ⟨rfl, h5⟩
  replace HB := bl_trans HB h5
  clear h5
  go_wp2_with fail
  refine (awake_below aF aZ _ _ HE.out HB).mono ?_
  rintro e w6 ⟨rfl, h6⟩
  have HR : Hid _ := h6
  clear h6 HB
  go_wp2
  go_ret
  exact ⟨rfl, HR.out⟩

set_option maxHeartbeats 4000000 in
theorem order_a (x y z : Rat) (aF aZ : Addr) (w : World) (hE : Er w aF aZ) (xs : (R x).size ≤ 50) (ys : (R y).size ≤ 50) (zs : (R z).size ≤ 50) (h : sgr x y = 1)   :
    Calls Tryz.prog 9 #[.string (R x), .string (R y), .string (R z)] w fun e w' => e = .returned (.bool true) ∧ Below w.heap.size w w' := by
  have HE : Hid _ := hE
  clear hE
  have HB := bl_alloc (Below.refl w.heap.size w) (.cells #[.string (R x), .string (R y), .string (R z)] 9)
  have HS : Hid (∀ cap, Calls Tryz.prog 34 #[.slice (some ⟨w.heap.size, 0, none⟩) 3 cap] (w.alloc (.cells #[.string (R x), .string (R y), .string (R z)] 9)) fun e w' => e = .returned (.bool true) ∧ Below (w.alloc (.cells #[.string (R x), .string (R y), .string (R z)] 9)).heap.size (w.alloc (.cells #[.string (R x), .string (R y), .string (R z)] 9)) w') := fun cap => right_yes w.heap.size 3 cap _ aF aZ _ (HE.out.more _) (by omega) (three_cells w (R x) (R y) (R z)) (by intro i hi; (repeat' split) <;> (apply okr_R; assumption))
  have Z1 : Hid ((R (x)).size ≤ 1000) := sz_of (Bd.of_size xs) (by omega)
  have Z2 : Hid ((R (y)).size ≤ 1000) := sz_of (Bd.of_size ys) (by omega)
  have Z3 : Hid ((R (z)).size ≤ 1000) := sz_of (Bd.of_size zs) (by omega)
  have Z4 : Hid ((R (-x)).size ≤ 1000) := sz_of (Bd.neg (Bd.of_size xs)) (by omega)
  have Z5 : Hid ((R (-y)).size ≤ 1000) := sz_of (Bd.neg (Bd.of_size ys)) (by omega)
  have K1 : Hid (sgr x y = 1) := h
  have K2 : Hid (sgr (-x) (-y) = -1) := (sgr_neg x y).trans (congrArg (fun t : Int => -t) K1.out)
  clear h
  clear xs ys zs
  go_enter Tryz.func9, Tryz.ntmps9
  go_wp2_with fail
  refine (HS.out _).mono ?_
  rintro e w7 ⟨rfl, h7⟩
  replace HB := bl_trans HB h7
  clear h7
  go_wp2_with fail
  refine (Cmp_R x y _ Z1.out Z2.out).mono ?_
  rintro e w8 ⟨rfl, h8⟩
  replace HB := bl_trans HB h8
  clear h8
  rw [K1.out]
  go_wp2_with fail
  refine (Cmp_R y z _ Z2.out Z3.out).mono ?_
  rintro e w9 ⟨rfl, h9⟩
  replace HB := bl_trans HB h9
  clear h9
  go_wp2_with fail
  refine (Cmp_R x z _ Z1.out Z3.out).mono ?_
  rintro e w10 ⟨rfl, h10⟩
  replace HB := bl_trans HB h10
  clear h10
  go_wp2_with fail
  refine (Neg_R x _ Z1.out).mono ?_
  rintro e w11 ⟨rfl, h11⟩
  replace HB := bl_trans HB h11
  clear h11
  go_wp2_with fail
  refine (Neg_R y _ Z2.out).mono ?_
  rintro e w12 ⟨rfl, h12⟩
  replace HB := bl_trans HB h12
  clear h12
  go_wp2_with fail
  refine (Cmp_R (-x) (-y) _ Z4.out Z5.out).mono ?_
  rintro e w13 ⟨rfl, h13⟩
  replace HB := bl_trans HB h13
  clear h13
  rw [K2.out]
  go_wp2_with fail
  refine (awake_below aF aZ _ _ HE.out HB).mono ?_
  rintro e w14 ⟨rfl, h14⟩
  have HR : Hid _ := h14
  clear h14 HB
  go_wp2
  go_ret
  exact ⟨rfl, HR.out⟩

set_option maxHeartbeats 4000000 in
theorem order_b (x y z : Rat) (aF aZ : Addr) (w : World) (hE : Er w aF aZ) (xs : (R x).size ≤ 50) (ys : (R y).size ≤ 50) (zs : (R z).size ≤ 50) (h : sgr x y = 0) (hl : 0 < sgr y z)  :
    Calls Tryz.prog 9 #[.string (R x), .string (R y), .string (R z)] w fun e w' => e = .returned (.bool true) ∧ Below w.heap.size w w' := by
  have HE : Hid _ := hE
  clear hE
  have HB := bl_alloc (Below.refl w.heap.size w) (.cells #[.string (R x), .string (R y), .string (R z)] 9)
  have HS : Hid (∀ cap, Calls Tryz.prog 34 #[.slice (some ⟨w.heap.size, 0, none⟩) 3 cap] (w.alloc (.cells #[.string (R x), .string (R y), .string (R z)] 9)) fun e w' => e = .returned (.bool true) ∧ Below (w.alloc (.cells #[.string (R x), .string (R y), .string (R z)] 9)).heap.size (w.alloc (.cells #[.string (R x), .string (R y), .string (R z)] 9)) w') := fun cap => right_yes w.heap.size 3 cap _ aF aZ _ (HE.out.more _) (by omega) (three_cells w (R x) (R y) (R z)) (by intro i hi; (repeat' split) <;> (apply okr_R; assumption))
  have Z1 : Hid ((R (x)).size ≤ 1000) := sz_of (Bd.of_size xs) (by omega)
  have Z2 : Hid ((R (y)).size ≤ 1000) := sz_of (Bd.of_size ys) (by omega)
  have Z3 : Hid ((R (z)).size ≤ 1000) := sz_of (Bd.of_size zs) (by omega)
  have Z4 : Hid ((R (-x)).size ≤ 1000) := sz_of (Bd.neg (Bd.of_size xs)) (by omega)
  have Z5 : Hid ((R (-y)).size ≤ 1000) := sz_of (Bd.neg (Bd.of_size ys)) (by omega)
  have K1 : Hid (sgr x y = 0) := h
  have K2 : Hid (sgr (-x) (-y) = 0) := (sgr_neg x y).trans (congrArg (fun t : Int => -t) K1.out)
  clear h
  clear xs ys zs
  go_enter Tryz.func9, Tryz.ntmps9
  go_wp2_with fail
  refine (HS.out _).mono ?_
  rintro e w15 ⟨rfl, h15⟩
  replace HB := bl_trans HB h15
  clear h15
  go_wp2_with fail
  refine (Cmp_R x y _ Z1.out Z2.out).mono ?_
  rintro e w16 ⟨rfl, h16⟩
  replace HB := bl_trans HB h16
  clear h16
  rw [K1.out]
  go_wp2_with fail
  refine (Cmp_R y z _ Z2.out Z3.out).mono ?_
  rintro e w17 ⟨rfl, h17⟩
  replace HB := bl_trans HB h17
  clear h17
  go_wp2_with fail
  refine (Cmp_R x z _ Z1.out Z3.out).mono ?_
  rintro e w18 ⟨rfl, h18⟩
  replace HB := bl_trans HB h18
  clear h18
  go_wp2_with fail
  refine (Neg_R x _ Z1.out).mono ?_
  rintro e w19 ⟨rfl, h19⟩
  replace HB := bl_trans HB h19
  clear h19
  go_wp2_with fail
  refine (Neg_R y _ Z2.out).mono ?_
  rintro e w20 ⟨rfl, h20⟩
  replace HB := bl_trans HB h20
  clear h20
  go_wp2_with fail
  refine (Cmp_R (-x) (-y) _ Z4.out Z5.out).mono ?_
  rintro e w21 ⟨rfl, h21⟩
  replace HB := bl_trans HB h21
  clear h21
  rw [K2.out]
  go_wp2_with fail
  refine (awake_below aF aZ _ _ HE.out HB).mono ?_
  rintro e w22 ⟨rfl, h22⟩
  have HR : Hid _ := h22
  clear h22 HB
  go_wp2
  go_ret
  exact ⟨rfl, HR.out⟩

set_option maxHeartbeats 4000000 in
theorem order_c (x y z : Rat) (aF aZ : Addr) (w : World) (hE : Er w aF aZ) (xs : (R x).size ≤ 50) (ys : (R y).size ≤ 50) (zs : (R z).size ≤ 50) (h : sgr x y = -1) (hl : 0 < sgr y z)  :
    Calls Tryz.prog 9 #[.string (R x), .string (R y), .string (R z)] w fun e w' => e = .returned (.bool true) ∧ Below w.heap.size w w' := by
  have HE : Hid _ := hE
  clear hE
  have HB := bl_alloc (Below.refl w.heap.size w) (.cells #[.string (R x), .string (R y), .string (R z)] 9)
  have HS : Hid (∀ cap, Calls Tryz.prog 34 #[.slice (some ⟨w.heap.size, 0, none⟩) 3 cap] (w.alloc (.cells #[.string (R x), .string (R y), .string (R z)] 9)) fun e w' => e = .returned (.bool true) ∧ Below (w.alloc (.cells #[.string (R x), .string (R y), .string (R z)] 9)).heap.size (w.alloc (.cells #[.string (R x), .string (R y), .string (R z)] 9)) w') := fun cap => right_yes w.heap.size 3 cap _ aF aZ _ (HE.out.more _) (by omega) (three_cells w (R x) (R y) (R z)) (by intro i hi; (repeat' split) <;> (apply okr_R; assumption))
  have Z1 : Hid ((R (x)).size ≤ 1000) := sz_of (Bd.of_size xs) (by omega)
  have Z2 : Hid ((R (y)).size ≤ 1000) := sz_of (Bd.of_size ys) (by omega)
  have Z3 : Hid ((R (z)).size ≤ 1000) := sz_of (Bd.of_size zs) (by omega)
  have Z4 : Hid ((R (-x)).size ≤ 1000) := sz_of (Bd.neg (Bd.of_size xs)) (by omega)
  have Z5 : Hid ((R (-y)).size ≤ 1000) := sz_of (Bd.neg (Bd.of_size ys)) (by omega)
  have K1 : Hid (sgr x y = -1) := h
  have K2 : Hid (sgr (-x) (-y) = 1) := (sgr_neg x y).trans (congrArg (fun t : Int => -t) K1.out)
  clear h
  clear xs ys zs
  go_enter Tryz.func9, Tryz.ntmps9
  go_wp2_with fail
  refine (HS.out _).mono ?_
  rintro e w23 ⟨rfl, h23⟩
  replace HB := bl_trans HB h23
  clear h23
  go_wp2_with fail
  refine (Cmp_R x y _ Z1.out Z2.out).mono ?_
  rintro e w24 ⟨rfl, h24⟩
  replace HB := bl_trans HB h24
  clear h24
  rw [K1.out]
  go_wp2_with fail
  refine (Cmp_R y z _ Z2.out Z3.out).mono ?_
  rintro e w25 ⟨rfl, h25⟩
  replace HB := bl_trans HB h25
  clear h25
  go_wp2_with fail
  refine (Cmp_R x z _ Z1.out Z3.out).mono ?_
  rintro e w26 ⟨rfl, h26⟩
  replace HB := bl_trans HB h26
  clear h26
  go_wp2_with fail
  refine (Neg_R x _ Z1.out).mono ?_
  rintro e w27 ⟨rfl, h27⟩
  replace HB := bl_trans HB h27
  clear h27
  go_wp2_with fail
  refine (Neg_R y _ Z2.out).mono ?_
  rintro e w28 ⟨rfl, h28⟩
  replace HB := bl_trans HB h28
  clear h28
  go_wp2_with fail
  refine (Cmp_R (-x) (-y) _ Z4.out Z5.out).mono ?_
  rintro e w29 ⟨rfl, h29⟩
  replace HB := bl_trans HB h29
  clear h29
  rw [K2.out]
  go_wp2_with fail
  refine (awake_below aF aZ _ _ HE.out HB).mono ?_
  rintro e w30 ⟨rfl, h30⟩
  have HR : Hid _ := h30
  clear h30 HB
  go_wp2
  go_ret
  exact ⟨rfl, HR.out⟩

set_option maxHeartbeats 4000000 in
theorem order_d (x y z : Rat) (aF aZ : Addr) (w : World) (hE : Er w aF aZ) (xs : (R x).size ≤ 50) (ys : (R y).size ≤ 50) (zs : (R z).size ≤ 50) (h : sgr x y = 0) (hl : ¬ 0 < sgr y z) (hm : ¬ 0 < sgr x z) :
    Calls Tryz.prog 9 #[.string (R x), .string (R y), .string (R z)] w fun e w' => e = .returned (.bool true) ∧ Below w.heap.size w w' := by
  have HE : Hid _ := hE
  clear hE
  have HB := bl_alloc (Below.refl w.heap.size w) (.cells #[.string (R x), .string (R y), .string (R z)] 9)
  have HS : Hid (∀ cap, Calls Tryz.prog 34 #[.slice (some ⟨w.heap.size, 0, none⟩) 3 cap] (w.alloc (.cells #[.string (R x), .string (R y), .string (R z)] 9)) fun e w' => e = .returned (.bool true) ∧ Below (w.alloc (.cells #[.string (R x), .string (R y), .string (R z)] 9)).heap.size (w.alloc (.cells #[.string (R x), .string (R y), .string (R z)] 9)) w') := fun cap => right_yes w.heap.size 3 cap _ aF aZ _ (HE.out.more _) (by omega) (three_cells w (R x) (R y) (R z)) (by intro i hi; (repeat' split) <;> (apply okr_R; assumption))
  have Z1 : Hid ((R (x)).size ≤ 1000) := sz_of (Bd.of_size xs) (by omega)
  have Z2 : Hid ((R (y)).size ≤ 1000) := sz_of (Bd.of_size ys) (by omega)
  have Z3 : Hid ((R (z)).size ≤ 1000) := sz_of (Bd.of_size zs) (by omega)
  have Z4 : Hid ((R (-x)).size ≤ 1000) := sz_of (Bd.neg (Bd.of_size xs)) (by omega)
  have Z5 : Hid ((R (-y)).size ≤ 1000) := sz_of (Bd.neg (Bd.of_size ys)) (by omega)
  have K1 : Hid (sgr x y = 0) := h
  have K2 : Hid (sgr (-x) (-y) = 0) := (sgr_neg x y).trans (congrArg (fun t : Int => -t) K1.out)
  clear h
  have hm' : sgr x z ≤ 0 := by omega
  clear hm
  clear xs ys zs
  go_enter Tryz.func9, Tryz.ntmps9
  go_wp2_with fail
  refine (HS.out _).mono ?_
  rintro e w31 ⟨rfl, h31⟩
  replace HB := bl_trans HB h31
  clear h31
  go_wp2_with fail
  refine (Cmp_R x y _ Z1.out Z2.out).mono ?_
  rintro e w32 ⟨rfl, h32⟩
  replace HB := bl_trans HB h32
  clear h32
  rw [K1.out]
  go_wp2_with fail
  refine (Cmp_R y z _ Z2.out Z3.out).mono ?_
  rintro e w33 ⟨rfl, h33⟩
  replace HB := bl_trans HB h33
  clear h33
  go_wp2_with fail
  refine (Cmp_R x z _ Z1.out Z3.out).mono ?_
  rintro e w34 ⟨rfl, h34⟩
  replace HB := bl_trans HB h34
  clear h34
  go_wp2_with fail
  refine (Neg_R x _ Z1.out).mono ?_
  rintro e w35 ⟨rfl, h35⟩
  replace HB := bl_trans HB h35
  clear h35
  go_wp2_with fail
  refine (Neg_R y _ Z2.out).mono ?_
  rintro e w36 ⟨rfl, h36⟩
  replace HB := bl_trans HB h36
  clear h36
  go_wp2_with fail
  refine (Cmp_R (-x) (-y) _ Z4.out Z5.out).mono ?_
  rintro e w37 ⟨rfl, h37⟩
  replace HB := bl_trans HB h37
  clear h37
  rw [K2.out]
  go_wp2_with fail
  refine (awake_below aF aZ _ _ HE.out HB).mono ?_
  rintro e w38 ⟨rfl, h38⟩
  have HR : Hid _ := h38
  clear h38 HB
  go_wp2
  go_ret
  exact ⟨rfl, HR.out⟩

set_option maxHeartbeats 4000000 in
theorem order_e (x y z : Rat) (aF aZ : Addr) (w : World) (hE : Er w aF aZ) (xs : (R x).size ≤ 50) (ys : (R y).size ≤ 50) (zs : (R z).size ≤ 50) (h : sgr x y = -1) (hl : ¬ 0 < sgr y z) (hm : ¬ 0 < sgr x z) :
    Calls Tryz.prog 9 #[.string (R x), .string (R y), .string (R z)] w fun e w' => e = .returned (.bool true) ∧ Below w.heap.size w w' := by
  have HE : Hid _ := hE
  clear hE
  have HB := bl_alloc (Below.refl w.heap.size w) (.cells #[.string (R x), .string (R y), .string (R z)] 9)
  have HS : Hid (∀ cap, Calls Tryz.prog 34 #[.slice (some ⟨w.heap.size, 0, none⟩) 3 cap] (w.alloc (.cells #[.string (R x), .string (R y), .string (R z)] 9)) fun e w' => e = .returned (.bool true) ∧ Below (w.alloc (.cells #[.string (R x), .string (R y), .string (R z)] 9)).heap.size (w.alloc (.cells #[.string (R x), .string (R y), .string (R z)] 9)) w') := fun cap => right_yes w.heap.size 3 cap _ aF aZ _ (HE.out.more _) (by omega) (three_cells w (R x) (R y) (R z)) (by intro i hi; (repeat' split) <;> (apply okr_R; assumption))
  have Z1 : Hid ((R (x)).size ≤ 1000) := sz_of (Bd.of_size xs) (by omega)
  have Z2 : Hid ((R (y)).size ≤ 1000) := sz_of (Bd.of_size ys) (by omega)
  have Z3 : Hid ((R (z)).size ≤ 1000) := sz_of (Bd.of_size zs) (by omega)
  have Z4 : Hid ((R (-x)).size ≤ 1000) := sz_of (Bd.neg (Bd.of_size xs)) (by omega)
  have Z5 : Hid ((R (-y)).size ≤ 1000) := sz_of (Bd.neg (Bd.of_size ys)) (by omega)
  have K1 : Hid (sgr x y = -1) := h
  have K2 : Hid (sgr (-x) (-y) = 1) := (sgr_neg x y).trans (congrArg (fun t : Int => -t) K1.out)
  clear h
  have hm' : sgr x z ≤ 0 := by omega
  clear hm
  clear xs ys zs
  go_enter Tryz.func9, Tryz.ntmps9
  go_wp2_with fail
  refine (HS.out _).mono ?_
  rintro e w39 ⟨rfl, h39⟩
  replace HB := bl_trans HB h39
  clear h39
  go_wp2_with fail
  refine (Cmp_R x y _ Z1.out Z2.out).mono ?_
  rintro e w40 ⟨rfl, h40⟩
  replace HB := bl_trans HB h40
  clear h40
  rw [K1.out]
  go_wp2_with fail
  refine (Cmp_R y z _ Z2.out Z3.out).mono ?_
  rintro e w41 ⟨rfl, h41⟩
  replace HB := bl_trans HB h41
  clear h41
  go_wp2_with fail
  refine (Cmp_R x z _ Z1.out Z3.out).mono ?_
  rintro e w42 ⟨rfl, h42⟩
  replace HB := bl_trans HB h42
  clear h42
  go_wp2_with fail
  refine (Neg_R x _ Z1.out).mono ?_
  rintro e w43 ⟨rfl, h43⟩
  replace HB := bl_trans HB h43
  clear h43
  go_wp2_with fail
  refine (Neg_R y _ Z2.out).mono ?_
  rintro e w44 ⟨rfl, h44⟩
  replace HB := bl_trans HB h44
  clear h44
  go_wp2_with fail
  refine (Cmp_R (-x) (-y) _ Z4.out Z5.out).mono ?_
  rintro e w45 ⟨rfl, h45⟩
  replace HB := bl_trans HB h45
  clear h45
  rw [K2.out]
  go_wp2_with fail
  refine (awake_below aF aZ _ _ HE.out HB).mono ?_
  rintro e w46 ⟨rfl, h46⟩
  have HR : Hid _ := h46
  clear h46 HB
  go_wp2
  go_ret
  exact ⟨rfl, HR.out⟩

theorem order_any (a0 a1 a2 : ByteArray) (aF aZ : Addr) (w : World) (hE : Er w aF aZ) :
    Calls Tryz.prog 9 #[.string a0, .string a1, .string a2] w fun e w' => e = .returned (.bool true) ∧ Below w.heap.size w w' := by
  by_cases r0 : okr a0 = true
  rotate_left
  · exact order_no0 a0 a1 a2 aF aZ w hE (by simpa using r0)
  by_cases r1 : okr a1 = true
  rotate_left
  · exact order_no1 a0 a1 a2 aF aZ w hE (by simpa using r1)
  by_cases r2 : okr a2 = true
  rotate_left
  · exact order_no2 a0 a1 a2 aF aZ w hE (by simpa using r2)
  obtain ⟨x, rfl, xs⟩ := okr_of r0
  obtain ⟨y, rfl, ys⟩ := okr_of r1
  obtain ⟨z, rfl, zs⟩ := okr_of r2
  have trans : ¬ 0 < sgr x y → ¬ 0 < sgr y z → ¬ 0 < sgr x z := by
    intro h1 h2 h3
    rw [sgr_pos] at h1 h2 h3
    grind
  rcases sgr_three x y with h | h | h
  · have k := sgr_lt h
    by_cases hl : 0 < sgr y z
    · exact order_c x y z aF aZ w hE xs ys zs k hl
    · exact order_e x y z aF aZ w hE xs ys zs k hl (trans (by rw [k]; decide) hl)
  · have k : sgr x y = 0 := by rw [h]; exact sgr_eq y
    by_cases hl : 0 < sgr y z
    · exact order_b x y z aF aZ w hE xs ys zs k hl
    · exact order_d x y z aF aZ w hE xs ys zs k hl (trans (by rw [k]; decide) hl)
  · exact order_a x y z aF aZ w hE xs ys zs (sgr_gt h)
end
end Go.Proofs.YtpmnfgbbkmodpaaGreatDoor
namespace Go.Proofs.YtpmnfgbbkmodpaaGreatDoor.ratOrder
section
open Go.ChangeShapes Go.WideShapes Go.ChangeAt Go.RowKit
open Go.ChangeMaps (open_string shut_string)
set_option linter.unusedVariables false

theorem own : ownKnob Tryz.prog.godebug = none := by kernel_rfl

set_option maxRecDepth 100000 in
theorem lifted (os : Os) (started : os.Started) (H : Type) (enc : TypeId × Value → H) :
    ReturnsInHanded {} Tryz.checked os 9 .any (fun w args => (Rows.ratOrderSpec.pre enc Tryz.prog Tryz.f9 [] false w args ∧ laidMetH Tryz.prog listed w) ∧ sizedMet enc Tryz.prog Tryz.f9 (OpenSpec.ofChange Rows.ratOrderSpec) false w args)
      (Rows.ratOrderSpec.post enc Tryz.prog Tryz.f9 false true false false) := by
  refine returnsInHanded_of_change_and (C := Tryz.checked) (X := fun w _ => laidMetH Tryz.prog listed w) (fun _ _ _ hh h => h.of_heap hh) own started (by kernel_rfl) Tryz.func9
    (ChangeSpec.witness_shaped (enc := enc) (C := Tryz.checked) (os := os) (X := fun w _ => laidMetH Tryz.prog listed w) false (World.doorLaid Tryz.prog 400 os) #[.string ByteArray.empty, .string ByteArray.empty, .string ByteArray.empty] 8 rfl (door_shaped os _) (by kernel_rfl) (by kernel_rfl) (by kernel_rfl) (door_met os _)) ?_
  intro W base args ds gs before hval0 hW _ _ hL _
  have hval : ∀ (j : Nat) t v, Tryz.f9.params[j]? = some t → args[j]? = some v → Value.okWide Tryz.prog W .any base t v := hval0
  have hW' := hW
  obtain ⟨p, q, hA0, hV, rfl, hfz, hnd⟩ := hW
  have hA : DataW.TrodAll enc Tryz.prog W 0 (fun _ => true) true Tryz.f9.params.toList args.toList ds p := hA0
  rw [Tryz.params9] at hA hval
  obtain ⟨v0, vs0, d0, ds0, p0, q0, hargs, rfl, rfl, h0, r0⟩ := trodAll_cons hA
  obtain ⟨v1, vs1, d1, ds1, p1, q1, rfl, rfl, rfl, h1, r1⟩ := trodAll_cons r0
  obtain ⟨v2, vs2, d2, ds2, p2, q2, rfl, rfl, rfl, h2, r2⟩ := trodAll_cons r1
  obtain ⟨rfl, rfl, rfl⟩ := trodAll_nil r2
  obtain rfl : args = #[v0, v1, v2] := by cases args; simp_all
  obtain ⟨rfl, rfl⟩ := trodVars_none hV
  obtain ⟨a0, rfl, rfl, rfl, w0⟩ := open_string Tryz.underlying9 (hval 0 9 v0 rfl rfl) h0
  obtain ⟨a1, rfl, rfl, rfl, w1⟩ := open_string Tryz.underlying9 (hval 1 9 v1 rfl rfl) h1
  obtain ⟨a2, rfl, rfl, rfl, w2⟩ := open_string Tryz.underlying9 (hval 2 9 v2 rfl rfl) h2
  obtain ⟨aF, aZ, hE⟩ := er_of hL
  clear hA0 hval0
  simp only [List.append_nil] at hW'
  refine (Go.Proofs.YtpmnfgbbkmodpaaGreatDoor.order_any a0 a1 a2 aF aZ W hE).mono fun e W' ⟨he, bel⟩ => ?_
  subst he
  exact ⟨_, rfl, _, _, _, [], [], [], hW', trodAll_mk1 (shut_bool Tryz.underlying4 _), (trodAll_cons_mk (shut_string Tryz.underlying9 w0) (trodAll_cons_mk (shut_string Tryz.underlying9 w1) (trodAll_cons_mk (shut_string Tryz.underlying9 w2) trodAll_mk0))), rfl, bel.frame _, fun h => by cases h⟩

theorem row : Rows.RatOrderSaid :=
  OpenClaim.holds_of_wide 9 Tryz.f9 rfl rfl rfl rfl rfl rfl rfl ⟨rfl, rfl, rfl, rfl, rfl⟩ rfl rfl rfl rfl rfl (by kernel_rfl) Tryz.func9 (by kernel_rfl)
    (of_decide_eq_true (by kernel_rfl)) (by unfold Func.isWrapper; first | (rw [if_pos (by decide +kernel)]; kernel_rfl) | (rw [if_neg (by decide +kernel)]; exact ⟨rfl, rfl⟩))
    (fun os started H enc _ => lifted os started H enc)

theorem proved : Rows.RatOrderCardSaid :=
  Claim7.holds_tied_plain_at .later [] [.handle, .sentinel, .sentinel] true (true, "1a3ddbcb9d29070d83cd072e95934012661a20515207d1b69a103a806a1e4cc8") true
    row (fun _ h => by cases h) (by kernel_rfl) (fun _ h => by cases h) ratOrder_row_tie rfl ⟨rfl, rfl⟩ (by kernel_rfl) rfl
    (fun f fn hf hfn => by
      obtain rfl : f = 9 := Option.some.inj ((show Tryz.prog.funcNamed "tapewright/tapewrightlaw03.RatOrder" = some 9 by kernel_rfl).symm.trans hf) |>.symm
      obtain rfl : fn = Tryz.f9 := (Option.some.inj (Tryz.func9.symm.trans hfn)).symm
      exact ⟨by kernel_rfl, fun j t ht => by
        rw [Tryz.params9] at ht
        have hm : t ∈ ([9, 9, 9] : List Nat) := by
          have := List.mem_of_getElem? (l := [9, 9, 9]) (i := j) (a := t) (by simpa using ht)
          exact this
        simp only [List.mem_cons, List.not_mem_nil, or_false] at hm
        rcases hm with rfl | rfl | rfl
        · exact stand9
        · exact stand9
        · exact stand9⟩)
    (by kernel_rfl)
#print axioms proved
end
end Go.Proofs.YtpmnfgbbkmodpaaGreatDoor.ratOrder
