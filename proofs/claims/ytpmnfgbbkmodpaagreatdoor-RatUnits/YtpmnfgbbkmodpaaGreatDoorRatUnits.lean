/-
  THE STATEMENT RatUnits: times 1, by 1 and 0 more a rational is as it was; by itself it is 1; taken off itself 0, for every text.
  Conditions: none but the row's own and the card's: the listed package variables read as the program's text lays them.
-/
import Derived.Test.YtpmnfgbbkmodpaaGreatDoorLitR
import Derived.Test.YtpmnfgbbkmodpaaGreatDoorRows
import Derived.Test.YtpmnfgbbkmodpaaGreatDoorCards
import Derived.Test.YtpmnfgbbkmodpaaGreatDoorTie
import Derived.WalkKit
import Derived.ProofKit
import Derived.OpenShut
import Derived.ShutString
import Derived.LaidMore
import Derived.Stop.Joined
import Derived.SevenTiedAt
namespace Go.Proofs.YtpmnfgbbkmodpaaGreatDoor
section
set_option maxRecDepth 100000
open Go.RowKit Nm
set_option linter.unusedVariables false

set_option maxHeartbeats 4000000 in
theorem units_no0 (a0 : ByteArray) (aF aZ : Addr) (w : World) (hE : Er w aF aZ) (h : okr a0 = false) :
    Calls Tryz.prog 12 #[.string a0] w fun e w' => e = .returned (.bool true) ∧ Below w.heap.size w w' := by
  have HE : Hid _ := hE
  clear hE
  have HB := bl_alloc (Below.refl w.heap.size w) (.cells #[.string a0] 9)
  have HS : Hid (∀ cap, Calls Tryz.prog 34 #[.slice (some ⟨w.heap.size, 0, none⟩) 1 cap] (w.alloc (.cells #[.string a0] 9)) fun e w' => e = .returned (.bool false) ∧ Below (w.alloc (.cells #[.string a0] 9)).heap.size (w.alloc (.cells #[.string a0] 9)) w') := fun cap => right_no w.heap.size 1 cap 0 (fun _ => a0) aF aZ _ (HE.out.more _) (by omega) (one_cell w a0) (by omega) (by simpa using h)
  clear h
  go_enter Tryz.func12, Tryz.ntmps12
  go_wp2_with fail
  refine (HS.out _).mono ?_
  rintro e w1 ⟨rfl, h1⟩
  replace HB := bl_trans HB h1
  clear h1
  go_wp2_with fail
  refine (awake_below aF aZ _ _ HE.out HB).mono ?_
  rintro e w2 ⟨rfl, h2⟩
  have HR : Hid _ := h2
  clear h2 HB
  go_wp2
  go_ret
  exact ⟨rfl, HR.out⟩

set_option maxHeartbeats 4000000 in
theorem units_good (x : Rat) (aF aZ : Addr) (w : World) (hE : Er w aF aZ) (xs : (R x).size ≤ 50) (h : x ≠ 0) :
    Calls Tryz.prog 12 #[.string (R x)] w fun e w' => e = .returned (.bool true) ∧ Below w.heap.size w w' := by
  have HE : Hid _ := hE
  clear hE
  have HB := bl_alloc (Below.refl w.heap.size w) (.cells #[.string (R x)] 9)
  have HS : Hid (∀ cap, Calls Tryz.prog 34 #[.slice (some ⟨w.heap.size, 0, none⟩) 1 cap] (w.alloc (.cells #[.string (R x)] 9)) fun e w' => e = .returned (.bool true) ∧ Below (w.alloc (.cells #[.string (R x)] 9)).heap.size (w.alloc (.cells #[.string (R x)] 9)) w') := fun cap => right_yes w.heap.size 1 cap (fun _ => R x) aF aZ _ (HE.out.more _) (by omega) (one_cell w (R x)) (by intro i hi; (repeat' split) <;> (apply okr_R; assumption))
  have Z1 : Hid ((R (x)).size ≤ 1000) := sz_of (Bd.of_size xs) (by omega)
  have Z2 : Hid ((R (-x)).size ≤ 1000) := sz_of (Bd.neg (Bd.of_size xs)) (by omega)
  have h0 := nr0 h
  have H0 : Hid _ := h
  have HN : Hid (- -x = x) := Rat.neg_neg x
  clear h
  clear xs
  go_enter Tryz.func12, Tryz.ntmps12
  go_wp2_with fail
  refine (HS.out _).mono ?_
  rintro e w3 ⟨rfl, h3⟩
  replace HB := bl_trans HB h3
  clear h3
  go_wp2_with fail
  refine (Mul_1 x _ Z1.out).mono ?_
  rintro e w4 ⟨rfl, h4⟩
  replace HB := bl_trans HB h4
  clear h4
  go_wp2_with fail
  refine (Quo_1 x _ Z1.out).mono ?_
  rintro e w5 ⟨rfl, h5⟩
  replace HB := bl_trans HB h5
  clear h5
  go_wp2_with fail
  refine (Add_0 x _ Z1.out).mono ?_
  rintro e w6 ⟨rfl, h6⟩
  replace HB := bl_trans HB h6
  clear h6
  go_wp2_with fail
  refine (Sub_same x _ Z1.out).mono ?_
  rintro e w7 ⟨rfl, h7⟩
  replace HB := bl_trans HB h7
  clear h7
  go_wp2_with fail
  refine (Quo_same x _ Z1.out H0.out).mono ?_
  rintro e w8 ⟨rfl, h8⟩
  replace HB := bl_trans HB h8
  clear h8
  go_wp2_with fail
  refine (Neg_R x _ Z1.out).mono ?_
  rintro e w9 ⟨rfl, h9⟩
  replace HB := bl_trans HB h9
  clear h9
  go_wp2_with fail
  refine (Neg_R (-x) _ Z2.out).mono ?_
  rintro e w10 ⟨rfl, h10⟩
  replace HB := bl_trans HB h10
  clear h10
  rw [HN.out]
  go_wp2_with fail
  refine (awake_below aF aZ _ _ HE.out HB).mono ?_
  rintro e w11 ⟨rfl, h11⟩
  have HR : Hid _ := h11
  clear h11 HB
  go_wp2
  go_ret
  exact ⟨rfl, HR.out⟩

set_option maxHeartbeats 4000000 in
theorem units_zero (aF aZ : Addr) (w : World) (hE : Er w aF aZ) :
    Calls Tryz.prog 12 #[.string ⟨#[48]⟩] w fun e w' => e = .returned (.bool true) ∧ Below w.heap.size w w' := by
  have HE : Hid _ := hE
  clear hE
  have HB := bl_alloc (Below.refl w.heap.size w) (.cells #[.string ⟨#[48]⟩] 9)
  have HS : Hid (∀ cap, Calls Tryz.prog 34 #[.slice (some ⟨w.heap.size, 0, none⟩) 1 cap] (w.alloc (.cells #[.string ⟨#[48]⟩] 9)) fun e w' => e = .returned (.bool true) ∧ Below (w.alloc (.cells #[.string ⟨#[48]⟩] 9)).heap.size (w.alloc (.cells #[.string ⟨#[48]⟩] 9)) w') := fun cap => right_yes w.heap.size 1 cap (fun _ => ⟨#[48]⟩) aF aZ _ (HE.out.more _) (by omega) (one_cell w ⟨#[48]⟩) (by intro i hi; rw [← l0]; exact okr_R (by rw [l0]; decide))
  have M := fun v => Mul_1 0 v s0
  have Q := fun v => Quo_1 0 v s0
  have A := fun v => Add_0 0 v s0
  have D := fun v => Sub_same 0 v s0
  have Z := fun v h => Quo_zero 0 aF aZ v h s0
  have G := fun v => Neg_R 0 v s0
  rw [show (-0 : Rat) = 0 from by grind] at G
  rw [l0] at M Q A D Z G
  go_enter Tryz.func12, Tryz.ntmps12
  go_wp2_with fail
  refine (HS.out _).mono ?_
  rintro e w12 ⟨rfl, h12⟩
  replace HB := bl_trans HB h12
  clear h12
  go_wp2_with fail
  refine (M _).mono ?_
  rintro e w13 ⟨rfl, h13⟩
  replace HB := bl_trans HB h13
  clear h13
  go_wp2_with fail
  refine (Q _).mono ?_
  rintro e w14 ⟨rfl, h14⟩
  replace HB := bl_trans HB h14
  clear h14
  go_wp2_with fail
  refine (A _).mono ?_
  rintro e w15 ⟨rfl, h15⟩
  replace HB := bl_trans HB h15
  clear h15
  go_wp2_with fail
  refine (D _).mono ?_
  rintro e w16 ⟨rfl, h16⟩
  replace HB := bl_trans HB h16
  clear h16
  go_wp2_with fail
  refine (Z _ (HE.out.below HB)).mono ?_
  rintro e w17 ⟨rfl, h17⟩
  replace HB := bl_trans HB h17
  clear h17
  go_wp2_with fail
  refine (G _).mono ?_
  rintro e w18 ⟨rfl, h18⟩
  replace HB := bl_trans HB h18
  clear h18
  go_wp2_with fail
  refine (G _).mono ?_
  rintro e w19 ⟨rfl, h19⟩
  replace HB := bl_trans HB h19
  clear h19
  go_wp2_with fail
  refine (awake_below aF aZ _ _ HE.out HB).mono ?_
  rintro e w20 ⟨rfl, h20⟩
  have HR : Hid _ := h20
  clear h20 HB
  go_wp2
  go_ret
  exact ⟨rfl, HR.out⟩

theorem units_any (a0 : ByteArray) (aF aZ : Addr) (w : World) (hE : Er w aF aZ) :
    Calls Tryz.prog 12 #[.string a0] w fun e w' => e = .returned (.bool true) ∧ Below w.heap.size w w' := by
  by_cases r0 : okr a0 = true
  rotate_left
  · exact units_no0 a0 aF aZ w hE (by simpa using r0)
  obtain ⟨x, rfl, xs⟩ := okr_of r0
  by_cases h : x = 0
  · subst h; rw [l0]; exact units_zero aF aZ w hE
  · exact units_good x aF aZ w hE xs h
end
end Go.Proofs.YtpmnfgbbkmodpaaGreatDoor
namespace Go.Proofs.YtpmnfgbbkmodpaaGreatDoor.ratUnits
section
open Go.ChangeShapes Go.WideShapes Go.ChangeAt Go.RowKit
open Go.ChangeMaps (open_string shut_string)
set_option linter.unusedVariables false

theorem own : ownKnob Tryz.prog.godebug = none := by kernel_rfl

set_option maxRecDepth 100000 in
theorem lifted (os : Os) (started : os.Started) (H : Type) (enc : TypeId × Value → H) :
    ReturnsInHanded {} Tryz.checked os 12 .any (fun w args => (Rows.ratUnitsSpec.pre enc Tryz.prog Tryz.f12 [] false w args ∧ laidMetH Tryz.prog listed w) ∧ sizedMet enc Tryz.prog Tryz.f12 (OpenSpec.ofChange Rows.ratUnitsSpec) false w args)
      (Rows.ratUnitsSpec.post enc Tryz.prog Tryz.f12 false true false false) := by
  refine returnsInHanded_of_change_and (C := Tryz.checked) (X := fun w _ => laidMetH Tryz.prog listed w) (fun _ _ _ hh h => h.of_heap hh) own started (by kernel_rfl) Tryz.func12
    (ChangeSpec.witness_shaped (enc := enc) (C := Tryz.checked) (os := os) (X := fun w _ => laidMetH Tryz.prog listed w) false (World.doorLaid Tryz.prog 400 os) #[.string ByteArray.empty] 8 rfl (door_shaped os _) (by kernel_rfl) (by kernel_rfl) (by kernel_rfl) (door_met os _)) ?_
  intro W base args ds gs before hval0 hW _ _ hL _
  have hval : ∀ (j : Nat) t v, Tryz.f12.params[j]? = some t → args[j]? = some v → Value.okWide Tryz.prog W .any base t v := hval0
  have hW' := hW
  obtain ⟨p, q, hA0, hV, rfl, hfz, hnd⟩ := hW
  have hA : DataW.TrodAll enc Tryz.prog W 0 (fun _ => true) true Tryz.f12.params.toList args.toList ds p := hA0
  rw [Tryz.params12] at hA hval
  obtain ⟨v0, vs0, d0, ds0, p0, q0, hargs, rfl, rfl, h0, r0⟩ := trodAll_cons hA
  obtain ⟨rfl, rfl, rfl⟩ := trodAll_nil r0
  obtain rfl : args = #[v0] := by cases args; simp_all
  obtain ⟨rfl, rfl⟩ := trodVars_none hV
  obtain ⟨a0, rfl, rfl, rfl, w0⟩ := open_string Tryz.underlying9 (hval 0 9 v0 rfl rfl) h0
  obtain ⟨aF, aZ, hE⟩ := er_of hL
  clear hA0 hval0
  simp only [List.append_nil] at hW'
  refine (Go.Proofs.YtpmnfgbbkmodpaaGreatDoor.units_any a0 aF aZ W hE).mono fun e W' ⟨he, bel⟩ => ?_
  subst he
  exact ⟨_, rfl, _, _, _, [], [], [], hW', trodAll_mk1 (shut_bool Tryz.underlying4 _), (trodAll_cons_mk (shut_string Tryz.underlying9 w0) trodAll_mk0), rfl, bel.frame _, fun h => by cases h⟩

theorem row : Rows.RatUnitsSaid :=
  OpenClaim.holds_of_wide 12 Tryz.f12 rfl rfl rfl rfl rfl rfl rfl ⟨rfl, rfl, rfl, rfl, rfl⟩ rfl rfl rfl rfl rfl (by kernel_rfl) Tryz.func12 (by kernel_rfl)
    (of_decide_eq_true (by kernel_rfl)) (by unfold Func.isWrapper; first | (rw [if_pos (by decide +kernel)]; kernel_rfl) | (rw [if_neg (by decide +kernel)]; exact ⟨rfl, rfl⟩))
    (fun os started H enc _ => lifted os started H enc)

theorem proved : Rows.RatUnitsCardSaid :=
  Claim7.holds_tied_plain_at .later [] [.handle, .sentinel, .sentinel] true (true, "1a3ddbcb9d29070d83cd072e95934012661a20515207d1b69a103a806a1e4cc8") true
    row (fun _ h => by cases h) (by kernel_rfl) (fun _ h => by cases h) ratUnits_row_tie rfl ⟨rfl, rfl⟩ (by kernel_rfl) rfl
    (fun f fn hf hfn => by
      obtain rfl : f = 12 := Option.some.inj ((show Tryz.prog.funcNamed "tapewright/tapewrightlaw03.RatUnits" = some 12 by kernel_rfl).symm.trans hf) |>.symm
      obtain rfl : fn = Tryz.f12 := (Option.some.inj (Tryz.func12.symm.trans hfn)).symm
      exact ⟨by kernel_rfl, fun j t ht => by
        rw [Tryz.params12] at ht
        have hm : t ∈ ([9] : List Nat) := by
          have := List.mem_of_getElem? (l := [9]) (i := j) (a := t) (by simpa using ht)
          exact this
        simp only [List.mem_cons, List.not_mem_nil, or_false] at hm
        rcases hm with rfl
        · exact stand9⟩)
    (by kernel_rfl)
#print axioms proved
end
end Go.Proofs.YtpmnfgbbkmodpaaGreatDoor.ratUnits
