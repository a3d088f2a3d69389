/-
  THE STATEMENT RatQuos: a quotient by a quotient, and 1 by 1 by a number, for all texts.
  Conditions: none but the row's own and the card's: the listed package variables read as the program's text lays them.
-/
import Derived.Test.YtpmnfgbbkmodpaaGreatDoorLitR
import Derived.Test.YtpmnfgbbkmodpaaGreatDoorRows
import Derived.Test.YtpmnfgbbkmodpaaGreatDoorCards
import Derived.Test.YtpmnfgbbkmodpaaGreatDoorTie
import Derived.WalkKit
import Derived.ProofKit
import Derived.OpenShut
import Derived.ShutString
import Derived.LaidMore
import Derived.Stop.Joined
import Derived.SevenTiedAt
namespace Go.Proofs.YtpmnfgbbkmodpaaGreatDoor
section
set_option maxRecDepth 100000
open Go.RowKit Nm
set_option linter.unusedVariables false

set_option maxHeartbeats 4000000 in
theorem quos_no0 (a0 a1 a2 : ByteArray) (aF aZ : Addr) (w : World) (hE : Er w aF aZ) (h : okr a0 = false) :
    Calls Tryz.prog 14 #[.string a0, .string a1, .string a2] w fun e w' => e = .returned (.bool true) ∧ Below w.heap.size w w' := by
  have HE : Hid _ := hE
  clear hE
  have HB := bl_alloc (Below.refl w.heap.size w) (.cells #[.string a0, .string a1, .string a2] 9)
  have HS : Hid (∀ cap, Calls Tryz.prog 34 #[.slice (some ⟨w.heap.size, 0, none⟩) 3 cap] (w.alloc (.cells #[.string a0, .string a1, .string a2] 9)) fun e w' => e = .returned (.bool false) ∧ Below (w.alloc (.cells #[.string a0, .string a1, .string a2] 9)).heap.size (w.alloc (.cells #[.string a0, .string a1, .string a2] 9)) w') := fun cap => right_no w.heap.size 3 cap 0 _ aF aZ _ (HE.out.more _) (by omega) (three_cells w a0 a1 a2) (by omega) (by simpa using h)
  clear h
  go_enter Tryz.func14, Tryz.ntmps14
  go_wp2_with fail
  refine (HS.out _).mono ?_
  rintro e w1 ⟨rfl, h1⟩
  replace HB := bl_trans HB h1
  clear h1
  go_wp2_with fail
  refine (awake_below aF aZ _ _ HE.out HB).mono ?_
  rintro e w2 ⟨rfl, h2⟩
  have HR : Hid _ := h2
  clear h2 HB
  go_wp2
  go_ret
  exact ⟨rfl, HR.out⟩

set_option maxHeartbeats 4000000 in
theorem quos_no1 (a0 a1 a2 : ByteArray) (aF aZ : Addr) (w : World) (hE : Er w aF aZ) (h : okr a1 = false) :
    Calls Tryz.prog 14 #[.string a0, .string a1, .string a2] w fun e w' => e = .returned (.bool true) ∧ Below w.heap.size w w' := by
  have HE : Hid _ := hE
  clear hE
  have HB := bl_alloc (Below.refl w.heap.size w) (.cells #[.string a0, .string a1, .string a2] 9)
  have HS : Hid (∀ cap, Calls Tryz.prog 34 #[.slice (some ⟨w.heap.size, 0, none⟩) 3 cap] (w.alloc (.cells #[.string a0, .string a1, .string a2] 9)) fun e w' => e = .returned (.bool false) ∧ Below (w.alloc (.cells #[.string a0, .string a1, .string a2] 9)).heap.size (w.alloc (.cells #[.string a0, .string a1, .string a2] 9)) w') := fun cap => right_no w.heap.size 3 cap 1 _ aF aZ _ (HE.out.more _) (by omega) (three_cells w a0 a1 a2) (by omega) (by simpa using h)
  clear h
  go_enter Tryz.func14, Tryz.ntmps14
  go_wp2_with fail
  refine (HS.out _).mono ?_
  rintro e w3 ⟨rfl, h3⟩
  replace HB := bl_trans HB h3
  clear h3
  go_wp2_with fail
  refine (awake_below aF aZ _ _ HE.out HB).mono ?_
  rintro e w4 ⟨rfl, h4⟩
  have HR : Hid _ := h4
  clear h4 HB
  go_wp2
  go_ret
  exact ⟨rfl, HR.out⟩

set_option maxHeartbeats 4000000 in
theorem quos_no2 (a0 a1 a2 : ByteArray) (aF aZ : Addr) (w : World) (hE : Er w aF aZ) (h : okr a2 = false) :
    Calls Tryz.prog 14 #[.string a0, .string a1, .string a2] w fun e w' => e = .returned (.bool true) ∧ Below w.heap.size w w' := by
  have HE : Hid _ := hE
  clear hE
  have HB := bl_alloc (Below.refl w.heap.size w) (.cells #[.string a0, .string a1, .string a2] 9)
  have HS : Hid (∀ cap, Calls Tryz.prog 34 #[.slice (some ⟨w.heap.size, 0, none⟩) 3 cap] (w.alloc (.cells #[.string a0, .string a1, .string a2] 9)) fun e w' => e = .returned (.bool false) ∧ Below (w.alloc (.cells #[.string a0, .string a1, .string a2] 9)).heap.size (w.alloc (.cells #[.string a0, .string a1, .string a2] 9)) w') := fun cap => right_no w.heap.size 3 cap 2 _ aF aZ _ (HE.out.more _) (by omega) (three_cells w a0 a1 a2) (by omega) (by simpa using h)
  clear h
  go_enter Tryz.func14, Tryz.ntmps14
  go_wp2_with fail
  refine (HS.out _).mono ?_
  rintro e w5 ⟨rfl, h5⟩
  replace HB := bl_trans HB h5
  clear h5
  go_wp2_with fail
  refine (awake_below aF aZ _ _ HE.out HB).mono ?_
  rintro e w6 ⟨rfl, h6⟩
  have HR : Hid _ := h6
  clear h6 HB
  go_wp2
  go_ret
  exact ⟨rfl, HR.out⟩

set_option maxHeartbeats 4000000 in
theorem quos_long (x y z : Rat) (aF aZ : Addr) (w : World) (hE : Er w aF aZ) (xs : (R x).size ≤ 50) (ys : (R y).size ≤ 50) (zs : (R z).size ≤ 50) (h : 120 < (R x).size + (R y).size + (R z).size) :
    Calls Tryz.prog 14 #[.string (R x), .string (R y), .string (R z)] w fun e w' => e = .returned (.bool true) ∧ Below w.heap.size w w' := by
  have HE : Hid _ := hE
  clear hE
  have HB := bl_alloc (Below.refl w.heap.size w) (.cells #[.string (R x), .string (R y), .string (R z)] 9)
  have HS : Hid (∀ cap, Calls Tryz.prog 34 #[.slice (some ⟨w.heap.size, 0, none⟩) 3 cap] (w.alloc (.cells #[.string (R x), .string (R y), .string (R z)] 9)) fun e w' => e = .returned (.bool true) ∧ Below (w.alloc (.cells #[.string (R x), .string (R y), .string (R z)] 9)).heap.size (w.alloc (.cells #[.string (R x), .string (R y), .string (R z)] 9)) w') := fun cap => right_yes w.heap.size 3 cap _ aF aZ _ (HE.out.more _) (by omega) (three_cells w (R x) (R y) (R z)) (by intro i hi; (repeat' split) <;> (apply okr_R; assumption))
  have Z1 : Hid ((R (x)).size ≤ 1000) := sz_of (Bd.of_size xs) (by omega)
  have Z2 : Hid ((R (y)).size ≤ 1000) := sz_of (Bd.of_size ys) (by omega)
  have Z3 : Hid ((R (z)).size ≤ 1000) := sz_of (Bd.of_size zs) (by omega)
  have h' : (120 : Int) < ((R x).size : Int) + ((R y).size : Int) + ((R z).size : Int) := by omega
  clear h
  go_enter Tryz.func14, Tryz.ntmps14
  go_wp2_with fail
  refine (HS.out _).mono ?_
  rintro e w7 ⟨rfl, h7⟩
  replace HB := bl_trans HB h7
  clear h7
  go_wp2_with fail
  refine (awake_below aF aZ _ _ HE.out HB).mono ?_
  rintro e w8 ⟨rfl, h8⟩
  have HR : Hid _ := h8
  clear h8 HB
  go_wp2
  go_ret
  exact ⟨rfl, HR.out⟩

set_option maxHeartbeats 4000000 in
theorem quos_yz (x y z : Rat) (aF aZ : Addr) (w : World) (hE : Er w aF aZ) (xs : (R x).size ≤ 50) (ys : (R y).size ≤ 50) (zs : (R z).size ≤ 50) (h : ¬ 120 < (R x).size + (R y).size + (R z).size) (hy : R y = ⟨#[48]⟩) :
    Calls Tryz.prog 14 #[.string (R x), .string (R y), .string (R z)] w fun e w' => e = .returned (.bool true) ∧ Below w.heap.size w w' := by
  have HE : Hid _ := hE
  clear hE
  have HB := bl_alloc (Below.refl w.heap.size w) (.cells #[.string (R x), .string (R y), .string (R z)] 9)
  have HS : Hid (∀ cap, Calls Tryz.prog 34 #[.slice (some ⟨w.heap.size, 0, none⟩) 3 cap] (w.alloc (.cells #[.string (R x), .string (R y), .string (R z)] 9)) fun e w' => e = .returned (.bool true) ∧ Below (w.alloc (.cells #[.string (R x), .string (R y), .string (R z)] 9)).heap.size (w.alloc (.cells #[.string (R x), .string (R y), .string (R z)] 9)) w') := fun cap => right_yes w.heap.size 3 cap _ aF aZ _ (HE.out.more _) (by omega) (three_cells w (R x) (R y) (R z)) (by intro i hi; (repeat' split) <;> (apply okr_R; assumption))
  have Z1 : Hid ((R (x)).size ≤ 1000) := sz_of (Bd.of_size xs) (by omega)
  have Z2 : Hid ((R (y)).size ≤ 1000) := sz_of (Bd.of_size ys) (by omega)
  have Z3 : Hid ((R (z)).size ≤ 1000) := sz_of (Bd.of_size zs) (by omega)
  have h' : ¬ (120 : Int) < ((R x).size : Int) + ((R y).size : Int) + ((R z).size : Int) := by omega
  clear h
  rw [hy] at *
  go_enter Tryz.func14, Tryz.ntmps14
  go_wp2_with fail
  refine (HS.out _).mono ?_
  rintro e w9 ⟨rfl, h9⟩
  replace HB := bl_trans HB h9
  clear h9
  go_wp2_with fail
  refine (awake_below aF aZ _ _ HE.out HB).mono ?_
  rintro e w10 ⟨rfl, h10⟩
  have HR : Hid _ := h10
  clear h10 HB
  go_wp2
  go_ret
  exact ⟨rfl, HR.out⟩

set_option maxHeartbeats 4000000 in
theorem quos_zz (x y z : Rat) (aF aZ : Addr) (w : World) (hE : Er w aF aZ) (xs : (R x).size ≤ 50) (ys : (R y).size ≤ 50) (zs : (R z).size ≤ 50) (h : ¬ 120 < (R x).size + (R y).size + (R z).size) (hy : ((R y).toList == [48]) = false) (hz : R z = ⟨#[48]⟩) :
    Calls Tryz.prog 14 #[.string (R x), .string (R y), .string (R z)] w fun e w' => e = .returned (.bool true) ∧ Below w.heap.size w w' := by
  have HE : Hid _ := hE
  clear hE
  have HB := bl_alloc (Below.refl w.heap.size w) (.cells #[.string (R x), .string (R y), .string (R z)] 9)
  have HS : Hid (∀ cap, Calls Tryz.prog 34 #[.slice (some ⟨w.heap.size, 0, none⟩) 3 cap] (w.alloc (.cells #[.string (R x), .string (R y), .string (R z)] 9)) fun e w' => e = .returned (.bool true) ∧ Below (w.alloc (.cells #[.string (R x), .string (R y), .string (R z)] 9)).heap.size (w.alloc (.cells #[.string (R x), .string (R y), .string (R z)] 9)) w') := fun cap => right_yes w.heap.size 3 cap _ aF aZ _ (HE.out.more _) (by omega) (three_cells w (R x) (R y) (R z)) (by intro i hi; (repeat' split) <;> (apply okr_R; assumption))
  have Z1 : Hid ((R (x)).size ≤ 1000) := sz_of (Bd.of_size xs) (by omega)
  have Z2 : Hid ((R (y)).size ≤ 1000) := sz_of (Bd.of_size ys) (by omega)
  have Z3 : Hid ((R (z)).size ≤ 1000) := sz_of (Bd.of_size zs) (by omega)
  have h' : ¬ (120 : Int) < ((R x).size : Int) + ((R y).size : Int) + ((R z).size : Int) := by omega
  clear h
  rw [hz] at *
  go_enter Tryz.func14, Tryz.ntmps14
  go_wp2_with fail
  refine (HS.out _).mono ?_
  rintro e w11 ⟨rfl, h11⟩
  replace HB := bl_trans HB h11
  clear h11
  go_wp2_with fail
  refine (awake_below aF aZ _ _ HE.out HB).mono ?_
  rintro e w12 ⟨rfl, h12⟩
  have HR : Hid _ := h12
  clear h12 HB
  go_wp2
  go_ret
  exact ⟨rfl, HR.out⟩

set_option maxHeartbeats 4000000 in
theorem quos_good (x y z : Rat) (aF aZ : Addr) (w : World) (hE : Er w aF aZ) (xs : (R x).size ≤ 50) (ys : (R y).size ≤ 50) (zs : (R z).size ≤ 50) (h : ¬ 120 < (R x).size + (R y).size + (R z).size) (y0 : y ≠ 0) (z0 : z ≠ 0) :
    Calls Tryz.prog 14 #[.string (R x), .string (R y), .string (R z)] w fun e w' => e = .returned (.bool true) ∧ Below w.heap.size w w' := by
  have HE : Hid _ := hE
  clear hE
  have HB := bl_alloc (Below.refl w.heap.size w) (.cells #[.string (R x), .string (R y), .string (R z)] 9)
  have HS : Hid (∀ cap, Calls Tryz.prog 34 #[.slice (some ⟨w.heap.size, 0, none⟩) 3 cap] (w.alloc (.cells #[.string (R x), .string (R y), .string (R z)] 9)) fun e w' => e = .returned (.bool true) ∧ Below (w.alloc (.cells #[.string (R x), .string (R y), .string (R z)] 9)).heap.size (w.alloc (.cells #[.string (R x), .string (R y), .string (R z)] 9)) w') := fun cap => right_yes w.heap.size 3 cap _ aF aZ _ (HE.out.more _) (by omega) (three_cells w (R x) (R y) (R z)) (by intro i hi; (repeat' split) <;> (apply okr_R; assumption))
  have Z1 : Hid ((R (x)).size ≤ 1000) := sz_of (Bd.of_size xs) (by omega)
  have Z2 : Hid ((R (y)).size ≤ 1000) := sz_of (Bd.of_size ys) (by omega)
  have Z3 : Hid ((R (z)).size ≤ 1000) := sz_of (Bd.of_size zs) (by omega)
  have Z4 : Hid ((R (y / z)).size ≤ 1000) := sz_of (Bd.quo (Bd.of_size ys) (Bd.of_size zs) z0) (by omega)
  have Z5 : Hid ((R (x * z)).size ≤ 1000) := sz_of (Bd.mul (Bd.of_size xs) (Bd.of_size zs)) (by omega)
  have Z6 : Hid ((R (1 / y)).size ≤ 1000) := sz_of (Bd.quo b1 (Bd.of_size ys) y0) (by omega)
  have h' : ¬ (120 : Int) < ((R x).size : Int) + ((R y).size : Int) + ((R z).size : Int) := by omega
  have e1 := nr0 y0
  have e2 := nr0 z0
  have N1 : Hid (y / z ≠ 0) := by unfold Hid; intro c; apply y0; have : y = (y / z) * z := by grind
                                  rw [this, c]; grind
  have N2 : Hid (1 / y ≠ 0) := by unfold Hid; intro c; have : (1 / y) * y = 1 := by grind
                                  rw [c] at this; grind
  have Q1 : Hid (x * z / y = x / (y / z)) := by unfold Hid; grind
  have Q2 : Hid (1 / (1 / y) = y) := by unfold Hid; grind
  have Y0 : Hid _ := y0
  have Z0 : Hid _ := z0
  clear h y0 z0
  clear xs ys zs
  go_enter Tryz.func14, Tryz.ntmps14
  go_wp2_with fail
  refine (HS.out _).mono ?_
  rintro e w13 ⟨rfl, h13⟩
  replace HB := bl_trans HB h13
  clear h13
  go_wp2_with fail
  refine (Quo_R y z _ Z2.out Z3.out Z0.out).mono ?_
  rintro e w14 ⟨rfl, h14⟩
  replace HB := bl_trans HB h14
  clear h14
  go_wp2_with fail
  refine (Quo_R x (y / z) _ Z1.out Z4.out N1.out).mono ?_
  rintro e w15 ⟨rfl, h15⟩
  replace HB := bl_trans HB h15
  clear h15
  go_wp2_with fail
  refine (Mul_R x z _ Z1.out Z3.out).mono ?_
  rintro e w16 ⟨rfl, h16⟩
  replace HB := bl_trans HB h16
  clear h16
  go_wp2_with fail
  refine (Quo_R (x * z) y _ Z5.out Z2.out Y0.out).mono ?_
  rintro e w17 ⟨rfl, h17⟩
  replace HB := bl_trans HB h17
  clear h17
  rw [Q1.out]
  go_wp2_with fail
  refine (Inv_R y _ Z2.out Y0.out).mono ?_
  rintro e w18 ⟨rfl, h18⟩
  replace HB := bl_trans HB h18
  clear h18
  go_wp2_with fail
  refine (Inv_R (1 / y) _ Z6.out N2.out).mono ?_
  rintro e w19 ⟨rfl, h19⟩
  replace HB := bl_trans HB h19
  clear h19
  rw [Q2.out]
  go_wp2_with fail
  refine (awake_below aF aZ _ _ HE.out HB).mono ?_
  rintro e w20 ⟨rfl, h20⟩
  have HR : Hid _ := h20
  clear h20 HB
  go_wp2
  go_ret
  exact ⟨rfl, HR.out⟩

theorem quos_any (a0 a1 a2 : ByteArray) (aF aZ : Addr) (w : World) (hE : Er w aF aZ) :
    Calls Tryz.prog 14 #[.string a0, .string a1, .string a2] w fun e w' => e = .returned (.bool true) ∧ Below w.heap.size w w' := by
  by_cases r0 : okr a0 = true
  rotate_left
  · exact quos_no0 a0 a1 a2 aF aZ w hE (by simpa using r0)
  by_cases r1 : okr a1 = true
  rotate_left
  · exact quos_no1 a0 a1 a2 aF aZ w hE (by simpa using r1)
  by_cases r2 : okr a2 = true
  rotate_left
  · exact quos_no2 a0 a1 a2 aF aZ w hE (by simpa using r2)
  obtain ⟨x, rfl, xs⟩ := okr_of r0
  obtain ⟨y, rfl, ys⟩ := okr_of r1
  obtain ⟨z, rfl, zs⟩ := okr_of r2
  by_cases h : 120 < (R x).size + (R y).size + (R z).size
  · exact quos_long x y z aF aZ w hE xs ys zs h
  · by_cases y0 : y = 0
    · exact quos_yz x y z aF aZ w hE xs ys zs h (by rw [y0, l0])
    · by_cases z0 : z = 0
      · exact quos_zz x y z aF aZ w hE xs ys zs h (nr0 y0) (by rw [z0, l0])
      · exact quos_good x y z aF aZ w hE xs ys zs h y0 z0
end
end Go.Proofs.YtpmnfgbbkmodpaaGreatDoor
namespace Go.Proofs.YtpmnfgbbkmodpaaGreatDoor.ratQuos
section
open Go.ChangeShapes Go.WideShapes Go.ChangeAt Go.RowKit
open Go.ChangeMaps (open_string shut_string)
set_option linter.unusedVariables false

theorem own : ownKnob Tryz.prog.godebug = none := by kernel_rfl

set_option maxRecDepth 100000 in
theorem lifted (os : Os) (started : os.Started) (H : Type) (enc : TypeId × Value → H) :
    ReturnsInHanded {} Tryz.checked os 14 .any (fun w args => (Rows.ratQuosSpec.pre enc Tryz.prog Tryz.f14 [] false w args ∧ laidMetH Tryz.prog listed w) ∧ sizedMet enc Tryz.prog Tryz.f14 (OpenSpec.ofChange Rows.ratQuosSpec) false w args)
      (Rows.ratQuosSpec.post enc Tryz.prog Tryz.f14 false true false false) := by
  refine returnsInHanded_of_change_and (C := Tryz.checked) (X := fun w _ => laidMetH Tryz.prog listed w) (fun _ _ _ hh h => h.of_heap hh) own started (by kernel_rfl) Tryz.func14
    (ChangeSpec.witness_shaped (enc := enc) (C := Tryz.checked) (os := os) (X := fun w _ => laidMetH Tryz.prog listed w) false (World.doorLaid Tryz.prog 400 os) #[.string ByteArray.empty, .string ByteArray.empty, .string ByteArray.empty] 8 rfl (door_shaped os _) (by kernel_rfl) (by kernel_rfl) (by kernel_rfl) (door_met os _)) ?_
  intro W base args ds gs before hval0 hW _ _ hL _
  have hval : ∀ (j : Nat) t v, Tryz.f14.params[j]? = some t → args[j]? = some v → Value.okWide Tryz.prog W .any base t v := hval0
  have hW' := hW
  obtain ⟨p, q, hA0, hV, rfl, hfz, hnd⟩ := hW
  have hA : DataW.TrodAll enc Tryz.prog W 0 (fun _ => true) true Tryz.f14.params.toList args.toList ds p := hA0
  rw [Tryz.params14] at hA hval
  obtain ⟨v0, vs0, d0, ds0, p0, q0, hargs, rfl, rfl, h0, r0⟩ := trodAll_cons hA
  obtain ⟨v1, vs1, d1, ds1, p1, q1, rfl, rfl, rfl, h1, r1⟩ := trodAll_cons r0
  obtain ⟨v2, vs2, d2, ds2, p2, q2, rfl, rfl, rfl, h2, r2⟩ := trodAll_cons r1
  obtain ⟨rfl, rfl, rfl⟩ := trodAll_nil r2
  obtain rfl : args = #[v0, v1, v2] := by cases args; simp_all
  obtain ⟨rfl, rfl⟩ := trodVars_none hV
  obtain ⟨a0, rfl, rfl, rfl, w0⟩ := open_string Tryz.underlying9 (hval 0 9 v0 rfl rfl) h0
  obtain ⟨a1, rfl, rfl, rfl, w1⟩ := open_string Tryz.underlying9 (hval 1 9 v1 rfl rfl) h1
  obtain ⟨a2, rfl, rfl, rfl, w2⟩ := open_string Tryz.underlying9 (hval 2 9 v2 rfl rfl) h2
  obtain ⟨aF, aZ, hE⟩ := er_of hL
  clear hA0 hval0
  simp only [List.append_nil] at hW'
  refine (Go.Proofs.YtpmnfgbbkmodpaaGreatDoor.quos_any a0 a1 a2 aF aZ W hE).mono fun e W' ⟨he, bel⟩ => ?_
  subst he
  exact ⟨_, rfl, _, _, _, [], [], [], hW', trodAll_mk1 (shut_bool Tryz.underlying4 _), (trodAll_cons_mk (shut_string Tryz.underlying9 w0) (trodAll_cons_mk (shut_string Tryz.underlying9 w1) (trodAll_cons_mk (shut_string Tryz.underlying9 w2) trodAll_mk0))), rfl, bel.frame _, fun h => by cases h⟩

theorem row : Rows.RatQuosSaid :=
  OpenClaim.holds_of_wide 14 Tryz.f14 rfl rfl rfl rfl rfl rfl rfl ⟨rfl, rfl, rfl, rfl, rfl⟩ rfl rfl rfl rfl rfl (by kernel_rfl) Tryz.func14 (by kernel_rfl)
    (of_decide_eq_true (by kernel_rfl)) (by unfold Func.isWrapper; first | (rw [if_pos (by decide +kernel)]; kernel_rfl) | (rw [if_neg (by decide +kernel)]; exact ⟨rfl, rfl⟩))
    (fun os started H enc _ => lifted os started H enc)

theorem proved : Rows.RatQuosCardSaid :=
  Claim7.holds_tied_plain_at .later [] [.handle, .sentinel, .sentinel] true (true, "1a3ddbcb9d29070d83cd072e95934012661a20515207d1b69a103a806a1e4cc8") true
    row (fun _ h => by cases h) (by kernel_rfl) (fun _ h => by cases h) ratQuos_row_tie rfl ⟨rfl, rfl⟩ (by kernel_rfl) rfl
    (fun f fn hf hfn => by
      obtain rfl : f = 14 := Option.some.inj ((show Tryz.prog.funcNamed "tapewright/tapewrightlaw03.RatQuos" = some 14 by kernel_rfl).symm.trans hf) |>.symm
      obtain rfl : fn = Tryz.f14 := (Option.some.inj (Tryz.func14.symm.trans hfn)).symm
      exact ⟨by kernel_rfl, fun j t ht => by
        rw [Tryz.params14] at ht
        have hm : t ∈ ([9, 9, 9] : List Nat) := by
          have := List.mem_of_getElem? (l := [9, 9, 9]) (i := j) (a := t) (by simpa using ht)
          exact this
        simp only [List.mem_cons, List.not_mem_nil, or_false] at hm
        rcases hm with rfl | rfl | rfl
        · exact stand9
        · exact stand9
        · exact stand9⟩)
    (by kernel_rfl)
#print axioms proved
end
end Go.Proofs.YtpmnfgbbkmodpaaGreatDoor.ratQuos
