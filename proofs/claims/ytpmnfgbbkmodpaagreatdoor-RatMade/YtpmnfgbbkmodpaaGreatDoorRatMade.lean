/-
  THE STATEMENT RatMade: p by q is the same whatever both are times, and q times it is p, for all texts.
  Conditions: none but the row's own and the card's: the listed package variables read as the program's text lays them.
-/
import Derived.Test.YtpmnfgbbkmodpaaGreatDoorLitR
import Derived.Test.YtpmnfgbbkmodpaaGreatDoorRows
import Derived.Test.YtpmnfgbbkmodpaaGreatDoorCards
import Derived.Test.YtpmnfgbbkmodpaaGreatDoorTie
import Derived.WalkKit
import Derived.ProofKit
import Derived.OpenShut
import Derived.ShutString
import Derived.LaidMore
import Derived.Stop.Joined
import Derived.SevenTiedAt
namespace Go.Proofs.YtpmnfgbbkmodpaaGreatDoor
section
set_option maxRecDepth 100000
open Go.RowKit Nm
set_option linter.unusedVariables false

set_option maxHeartbeats 4000000 in
theorem made_long0 (a0 a1 a2 : ByteArray) (aF aZ : Addr) (w : World) (hE : Er w aF aZ)  (h : 30 < a0.size) :
    Calls Tryz.prog 8 #[.string a0, .string a1, .string a2] w fun e w' => e = .returned (.bool true) ∧ Below w.heap.size w w' := by
  have HE : Hid _ := hE
  clear hE
  have HB := Below.refl w.heap.size w
  go_enter Tryz.func8, Tryz.ntmps8
  go_wp2_with fail
  refine (awake_below aF aZ _ _ HE.out HB).mono ?_
  rintro e w1 ⟨rfl, h1⟩
  have HR : Hid _ := h1
  clear h1 HB
  go_wp2
  go_ret
  exact ⟨rfl, HR.out⟩

set_option maxHeartbeats 4000000 in
theorem made_long1 (a0 a1 a2 : ByteArray) (aF aZ : Addr) (w : World) (hE : Er w aF aZ) (h0 : ¬ 30 < a0.size) (h : 30 < a1.size) :
    Calls Tryz.prog 8 #[.string a0, .string a1, .string a2] w fun e w' => e = .returned (.bool true) ∧ Below w.heap.size w w' := by
  have HE : Hid _ := hE
  clear hE
  have HB := Below.refl w.heap.size w
  go_enter Tryz.func8, Tryz.ntmps8
  go_wp2_with fail
  refine (awake_below aF aZ _ _ HE.out HB).mono ?_
  rintro e w2 ⟨rfl, h2⟩
  have HR : Hid _ := h2
  clear h2 HB
  go_wp2
  go_ret
  exact ⟨rfl, HR.out⟩

set_option maxHeartbeats 4000000 in
theorem made_long2 (a0 a1 a2 : ByteArray) (aF aZ : Addr) (w : World) (hE : Er w aF aZ) (h0 : ¬ 30 < a0.size) (h1 : ¬ 30 < a1.size) (h : 30 < a2.size) :
    Calls Tryz.prog 8 #[.string a0, .string a1, .string a2] w fun e w' => e = .returned (.bool true) ∧ Below w.heap.size w w' := by
  have HE : Hid _ := hE
  clear hE
  have HB := Below.refl w.heap.size w
  go_enter Tryz.func8, Tryz.ntmps8
  go_wp2_with fail
  refine (awake_below aF aZ _ _ HE.out HB).mono ?_
  rintro e w3 ⟨rfl, h3⟩
  have HR : Hid _ := h3
  clear h3 HB
  go_wp2
  go_ret
  exact ⟨rfl, HR.out⟩

set_option maxHeartbeats 4000000 in
theorem made_bad0 (a0 a1 a2 : ByteArray) (aF aZ : Addr) (w : World) (hE : Er w aF aZ) (h0 : ¬ 30 < a0.size) (h1 : ¬ 30 < a1.size) (h2 : ¬ 30 < a2.size)  (r0 : ∀ v : World, Calls Tryz.prog 33 #[.string a0] v fun e w' => e = .returned (.bool false) ∧ w' = v) :
    Calls Tryz.prog 8 #[.string a0, .string a1, .string a2] w fun e w' => e = .returned (.bool true) ∧ Below w.heap.size w w' := by
  have HE : Hid _ := hE
  clear hE
  have HB := Below.refl w.heap.size w
  go_enter Tryz.func8, Tryz.ntmps8
  go_wp2_with fail
  refine (r0 _).mono ?_
  rintro e w4 ⟨rfl, rfl⟩
  go_wp2_with fail
  refine (awake_below aF aZ _ _ HE.out HB).mono ?_
  rintro e w5 ⟨rfl, h5⟩
  have HR : Hid _ := h5
  clear h5 HB
  go_wp2
  go_ret
  exact ⟨rfl, HR.out⟩

set_option maxHeartbeats 4000000 in
theorem made_bad1 (a0 a1 a2 : ByteArray) (aF aZ : Addr) (w : World) (hE : Er w aF aZ) (h0 : ¬ 30 < a0.size) (h1 : ¬ 30 < a1.size) (h2 : ¬ 30 < a2.size) (r0 : ∀ v : World, Calls Tryz.prog 33 #[.string a0] v fun e w' => e = .returned (.bool true) ∧ w' = v) (r1 : ∀ v : World, Calls Tryz.prog 33 #[.string a1] v fun e w' => e = .returned (.bool false) ∧ w' = v) :
    Calls Tryz.prog 8 #[.string a0, .string a1, .string a2] w fun e w' => e = .returned (.bool true) ∧ Below w.heap.size w w' := by
  have HE : Hid _ := hE
  clear hE
  have HB := Below.refl w.heap.size w
  go_enter Tryz.func8, Tryz.ntmps8
  go_wp2_with fail
  refine (r0 _).mono ?_
  rintro e w6 ⟨rfl, rfl⟩
  go_wp2_with fail
  refine (r1 _).mono ?_
  rintro e w7 ⟨rfl, rfl⟩
  go_wp2_with fail
  refine (awake_below aF aZ _ _ HE.out HB).mono ?_
  rintro e w8 ⟨rfl, h8⟩
  have HR : Hid _ := h8
  clear h8 HB
  go_wp2
  go_ret
  exact ⟨rfl, HR.out⟩

set_option maxHeartbeats 4000000 in
theorem made_bad2 (a0 a1 a2 : ByteArray) (aF aZ : Addr) (w : World) (hE : Er w aF aZ) (h0 : ¬ 30 < a0.size) (h1 : ¬ 30 < a1.size) (h2 : ¬ 30 < a2.size) (r0 : ∀ v : World, Calls Tryz.prog 33 #[.string a0] v fun e w' => e = .returned (.bool true) ∧ w' = v) (r1 : ∀ v : World, Calls Tryz.prog 33 #[.string a1] v fun e w' => e = .returned (.bool true) ∧ w' = v) (r2 : ∀ v : World, Calls Tryz.prog 33 #[.string a2] v fun e w' => e = .returned (.bool false) ∧ w' = v) :
    Calls Tryz.prog 8 #[.string a0, .string a1, .string a2] w fun e w' => e = .returned (.bool true) ∧ Below w.heap.size w w' := by
  have HE : Hid _ := hE
  clear hE
  have HB := Below.refl w.heap.size w
  go_enter Tryz.func8, Tryz.ntmps8
  go_wp2_with fail
  refine (r0 _).mono ?_
  rintro e w9 ⟨rfl, rfl⟩
  go_wp2_with fail
  refine (r1 _).mono ?_
  rintro e w10 ⟨rfl, rfl⟩
  go_wp2_with fail
  refine (r2 _).mono ?_
  rintro e w11 ⟨rfl, rfl⟩
  go_wp2_with fail
  refine (awake_below aF aZ _ _ HE.out HB).mono ?_
  rintro e w12 ⟨rfl, h12⟩
  have HR : Hid _ := h12
  clear h12 HB
  go_wp2
  go_ret
  exact ⟨rfl, HR.out⟩

set_option maxHeartbeats 4000000 in
theorem made_q0 (a0 a1 a2 : ByteArray) (aF aZ : Addr) (w : World) (hE : Er w aF aZ) (h0 : ¬ 30 < a0.size) (h1 : ¬ 30 < a1.size) (h2 : ¬ 30 < a2.size) (r0 : ∀ v : World, Calls Tryz.prog 33 #[.string a0] v fun e w' => e = .returned (.bool true) ∧ w' = v) (r1 : ∀ v : World, Calls Tryz.prog 33 #[.string a1] v fun e w' => e = .returned (.bool true) ∧ w' = v) (r2 : ∀ v : World, Calls Tryz.prog 33 #[.string a2] v fun e w' => e = .returned (.bool true) ∧ w' = v) (hq : (a1.toList == [48]) = true) :
    Calls Tryz.prog 8 #[.string a0, .string a1, .string a2] w fun e w' => e = .returned (.bool true) ∧ Below w.heap.size w w' := by
  have HE : Hid _ := hE
  clear hE
  have HB := Below.refl w.heap.size w
  go_enter Tryz.func8, Tryz.ntmps8
  go_wp2_with fail
  refine (r0 _).mono ?_
  rintro e w13 ⟨rfl, rfl⟩
  go_wp2_with fail
  refine (r1 _).mono ?_
  rintro e w14 ⟨rfl, rfl⟩
  go_wp2_with fail
  refine (r2 _).mono ?_
  rintro e w15 ⟨rfl, rfl⟩
  go_wp2_with fail
  refine (awake_below aF aZ _ _ HE.out HB).mono ?_
  rintro e w16 ⟨rfl, h16⟩
  have HR : Hid _ := h16
  clear h16 HB
  go_wp2
  go_ret
  exact ⟨rfl, HR.out⟩

set_option maxHeartbeats 4000000 in
theorem made_k0 (a0 a1 a2 : ByteArray) (aF aZ : Addr) (w : World) (hE : Er w aF aZ) (h0 : ¬ 30 < a0.size) (h1 : ¬ 30 < a1.size) (h2 : ¬ 30 < a2.size) (r0 : ∀ v : World, Calls Tryz.prog 33 #[.string a0] v fun e w' => e = .returned (.bool true) ∧ w' = v) (r1 : ∀ v : World, Calls Tryz.prog 33 #[.string a1] v fun e w' => e = .returned (.bool true) ∧ w' = v) (r2 : ∀ v : World, Calls Tryz.prog 33 #[.string a2] v fun e w' => e = .returned (.bool true) ∧ w' = v) (hq : (a1.toList == [48]) = false) (hk : (a2.toList == [48]) = true) :
    Calls Tryz.prog 8 #[.string a0, .string a1, .string a2] w fun e w' => e = .returned (.bool true) ∧ Below w.heap.size w w' := by
  have HE : Hid _ := hE
  clear hE
  have HB := Below.refl w.heap.size w
  go_enter Tryz.func8, Tryz.ntmps8
  go_wp2_with fail
  refine (r0 _).mono ?_
  rintro e w17 ⟨rfl, rfl⟩
  go_wp2_with fail
  refine (r1 _).mono ?_
  rintro e w18 ⟨rfl, rfl⟩
  go_wp2_with fail
  refine (r2 _).mono ?_
  rintro e w19 ⟨rfl, rfl⟩
  go_wp2_with fail
  refine (awake_below aF aZ _ _ HE.out HB).mono ?_
  rintro e w20 ⟨rfl, h20⟩
  have HR : Hid _ := h20
  clear h20 HB
  go_wp2
  go_ret
  exact ⟨rfl, HR.out⟩

set_option maxHeartbeats 4000000 in
theorem made_good (a0 a1 a2 M P Q : ByteArray) (aF aZ : Addr) (w : World) (hE : Er w aF aZ) (h0 : ¬ 30 < a0.size) (h1 : ¬ 30 < a1.size) (h2 : ¬ 30 < a2.size) (r0 : ∀ v : World, Calls Tryz.prog 33 #[.string a0] v fun e w' => e = .returned (.bool true) ∧ w' = v) (r1 : ∀ v : World, Calls Tryz.prog 33 #[.string a1] v fun e w' => e = .returned (.bool true) ∧ w' = v) (r2 : ∀ v : World, Calls Tryz.prog 33 #[.string a2] v fun e w' => e = .returned (.bool true) ∧ w' = v) (hq : (a1.toList == [48]) = false) (hk : (a2.toList == [48]) = false)
    (E1 : ∀ v : World, Calls Tryz.prog 26 #[.string a0, .string a1] v fun e w' => e = .returned (.tuple #[.string M, .int .i64 0]) ∧ Below v.heap.size v w') (E2 : ∀ v : World, Calls Tryz.prog 36 #[.string a0, .string a2] v fun e w' => e = .returned (.string P) ∧ Below v.heap.size v w') (E3 : ∀ v : World, Calls Tryz.prog 36 #[.string a1, .string a2] v fun e w' => e = .returned (.string Q) ∧ Below v.heap.size v w')
    (E4 : ∀ v : World, Calls Tryz.prog 26 #[.string P, .string Q] v fun e w' => e = .returned (.tuple #[.string M, .int .i64 0]) ∧ Below v.heap.size v w') (E5 : ∀ v : World, Calls Tryz.prog 18 #[.string M, .string a1] v fun e w' => e = .returned (.tuple #[.string a0, .int .i64 0]) ∧ Below v.heap.size v w') :
    Calls Tryz.prog 8 #[.string a0, .string a1, .string a2] w fun e w' => e = .returned (.bool true) ∧ Below w.heap.size w w' := by
  have HE : Hid _ := hE
  clear hE
  have HB := Below.refl w.heap.size w
  go_enter Tryz.func8, Tryz.ntmps8
  go_wp2_with fail
  refine (r0 _).mono ?_
  rintro e w21 ⟨rfl, rfl⟩
  go_wp2_with fail
  refine (r1 _).mono ?_
  rintro e w22 ⟨rfl, rfl⟩
  go_wp2_with fail
  refine (r2 _).mono ?_
  rintro e w23 ⟨rfl, rfl⟩
  go_wp2_with fail
  refine (E1 _).mono ?_
  rintro e w24 ⟨rfl, h24⟩
  replace HB := bl_trans HB h24
  clear h24
  go_wp2_with fail
  refine (E2 _).mono ?_
  rintro e w25 ⟨rfl, h25⟩
  replace HB := bl_trans HB h25
  clear h25
  go_wp2_with fail
  refine (E3 _).mono ?_
  rintro e w26 ⟨rfl, h26⟩
  replace HB := bl_trans HB h26
  clear h26
  go_wp2_with fail
  refine (E4 _).mono ?_
  rintro e w27 ⟨rfl, h27⟩
  replace HB := bl_trans HB h27
  clear h27
  go_wp2_with fail
  refine (E5 _).mono ?_
  rintro e w28 ⟨rfl, h28⟩
  replace HB := bl_trans HB h28
  clear h28
  go_wp2_with fail
  refine (awake_below aF aZ _ _ HE.out HB).mono ?_
  rintro e w29 ⟨rfl, h29⟩
  have HR : Hid _ := h29
  clear h29 HB
  go_wp2
  go_ret
  exact ⟨rfl, HR.out⟩

theorem RW (z : Int) : R (z : Rat) = W z := R_one rfl
theorem made_any (a0 a1 a2 : ByteArray) (aF aZ : Addr) (w : World) (hE : Er w aF aZ) :
    Calls Tryz.prog 8 #[.string a0, .string a1, .string a2] w fun e w' => e = .returned (.bool true) ∧ Below w.heap.size w w' := by
  by_cases h0 : 30 < a0.size
  · exact made_long0 a0 a1 a2 aF aZ w hE h0
  by_cases h1 : 30 < a1.size
  · exact made_long1 a0 a1 a2 aF aZ w hE h0 h1
  by_cases h2 : 30 < a2.size
  · exact made_long2 a0 a1 a2 aF aZ w hE h0 h1 h2
  have r := fun (a : ByteArray) (h : ¬ 30 < a.size) (b : Bool) (e : wh a = b) (v : World) => refRightw_is a b v (by omega) e
  cases r0 : wh a0 with
  | false => exact made_bad0 a0 a1 a2 aF aZ w hE h0 h1 h2 (r a0 h0 false r0)
  | true =>
    cases r1 : wh a1 with
    | false => exact made_bad1 a0 a1 a2 aF aZ w hE h0 h1 h2 (r a0 h0 true r0) (r a1 h1 false r1)
    | true =>
      cases r2 : wh a2 with
      | false => exact made_bad2 a0 a1 a2 aF aZ w hE h0 h1 h2 (r a0 h0 true r0) (r a1 h1 true r1) (r a2 h2 false r2)
      | true =>
        have R0 := r a0 h0 true r0
        have R1 := r a1 h1 true r1
        have R2 := r a2 h2 true r2
        obtain ⟨p, rfl⟩ := W_of r0
        obtain ⟨q, rfl⟩ := W_of r1
        obtain ⟨k, rfl⟩ := W_of r2
        by_cases q0 : q = 0
        · exact made_q0 _ _ _ aF aZ w hE h0 h1 h2 R0 R1 R2 (by rw [q0, W0, toList_data]; rfl)
        by_cases k0 : k = 0
        · exact made_k0 _ _ _ aF aZ w hE h0 h1 h2 R0 R1 R2 (notW0 q0) (by rw [k0, W0, toList_data]; rfl)
        have tp := tl_W p
        have tq := tl_W q
        have tk := tl_W k
        have tpk := tw_mul p k
        have tqk := tw_mul q k
        have qk0 : q * k ≠ 0 := Int.mul_ne_zero q0 k0
        have E4 := fun v => Make_W (p * k) (q * k) v (by omega) (by omega) qk0
        rw [by_mul q0 k0] at E4
        have E5 := fun v => Mul_R (by' p q) (q : Rat) v (sz_of (Bd.by' (n := 30) q0 (by omega) (by omega)) (by omega)) (by rw [RW]; omega)
        rw [by_back q0, RW, RW] at E5
        exact made_good _ _ _ _ _ _ aF aZ w hE h0 h1 h2 R0 R1 R2 (notW0 q0) (notW0 k0) (fun v => Make_W p q v (by omega) (by omega) q0) (fun v => refMulw_W p k v (by omega) (by omega)) (fun v => refMulw_W q k v (by omega) (by omega)) E4 E5
end
end Go.Proofs.YtpmnfgbbkmodpaaGreatDoor
namespace Go.Proofs.YtpmnfgbbkmodpaaGreatDoor.ratMade
section
open Go.ChangeShapes Go.WideShapes Go.ChangeAt Go.RowKit
open Go.ChangeMaps (open_string shut_string)
set_option linter.unusedVariables false

theorem own : ownKnob Tryz.prog.godebug = none := by kernel_rfl

set_option maxRecDepth 100000 in
theorem lifted (os : Os) (started : os.Started) (H : Type) (enc : TypeId × Value → H) :
    ReturnsInHanded {} Tryz.checked os 8 .any (fun w args => (Rows.ratMadeSpec.pre enc Tryz.prog Tryz.f8 [] false w args ∧ laidMetH Tryz.prog listed w) ∧ sizedMet enc Tryz.prog Tryz.f8 (OpenSpec.ofChange Rows.ratMadeSpec) false w args)
      (Rows.ratMadeSpec.post enc Tryz.prog Tryz.f8 false true false false) := by
  refine returnsInHanded_of_change_and (C := Tryz.checked) (X := fun w _ => laidMetH Tryz.prog listed w) (fun _ _ _ hh h => h.of_heap hh) own started (by kernel_rfl) Tryz.func8
    (ChangeSpec.witness_shaped (enc := enc) (C := Tryz.checked) (os := os) (X := fun w _ => laidMetH Tryz.prog listed w) false (World.doorLaid Tryz.prog 400 os) #[.string ByteArray.empty, .string ByteArray.empty, .string ByteArray.empty] 8 rfl (door_shaped os _) (by kernel_rfl) (by kernel_rfl) (by kernel_rfl) (door_met os _)) ?_
  intro W base args ds gs before hval0 hW _ _ hL _
  have hval : ∀ (j : Nat) t v, Tryz.f8.params[j]? = some t → args[j]? = some v → Value.okWide Tryz.prog W .any base t v := hval0
  have hW' := hW
  obtain ⟨p, q, hA0, hV, rfl, hfz, hnd⟩ := hW
  have hA : DataW.TrodAll enc Tryz.prog W 0 (fun _ => true) true Tryz.f8.params.toList args.toList ds p := hA0
  rw [Tryz.params8] at hA hval
  obtain ⟨v0, vs0, d0, ds0, p0, q0, hargs, rfl, rfl, h0, r0⟩ := trodAll_cons hA
  obtain ⟨v1, vs1, d1, ds1, p1, q1, rfl, rfl, rfl, h1, r1⟩ := trodAll_cons r0
  obtain ⟨v2, vs2, d2, ds2, p2, q2, rfl, rfl, rfl, h2, r2⟩ := trodAll_cons r1
  obtain ⟨rfl, rfl, rfl⟩ := trodAll_nil r2
  obtain rfl : args = #[v0, v1, v2] := by cases args; simp_all
  obtain ⟨rfl, rfl⟩ := trodVars_none hV
  obtain ⟨a0, rfl, rfl, rfl, w0⟩ := open_string Tryz.underlying9 (hval 0 9 v0 rfl rfl) h0
  obtain ⟨a1, rfl, rfl, rfl, w1⟩ := open_string Tryz.underlying9 (hval 1 9 v1 rfl rfl) h1
  obtain ⟨a2, rfl, rfl, rfl, w2⟩ := open_string Tryz.underlying9 (hval 2 9 v2 rfl rfl) h2
  obtain ⟨aF, aZ, hE⟩ := er_of hL
  clear hA0 hval0
  simp only [List.append_nil] at hW'
  refine (Go.Proofs.YtpmnfgbbkmodpaaGreatDoor.made_any a0 a1 a2 aF aZ W hE).mono fun e W' ⟨he, bel⟩ => ?_
  subst he
  exact ⟨_, rfl, _, _, _, [], [], [], hW', trodAll_mk1 (shut_bool Tryz.underlying4 _), (trodAll_cons_mk (shut_string Tryz.underlying9 w0) (trodAll_cons_mk (shut_string Tryz.underlying9 w1) (trodAll_cons_mk (shut_string Tryz.underlying9 w2) trodAll_mk0))), rfl, bel.frame _, fun h => by cases h⟩

theorem row : Rows.RatMadeSaid :=
  OpenClaim.holds_of_wide 8 Tryz.f8 rfl rfl rfl rfl rfl rfl rfl ⟨rfl, rfl, rfl, rfl, rfl⟩ rfl rfl rfl rfl rfl (by kernel_rfl) Tryz.func8 (by kernel_rfl)
    (of_decide_eq_true (by kernel_rfl)) (by unfold Func.isWrapper; first | (rw [if_pos (by decide +kernel)]; kernel_rfl) | (rw [if_neg (by decide +kernel)]; exact ⟨rfl, rfl⟩))
    (fun os started H enc _ => lifted os started H enc)

theorem proved : Rows.RatMadeCardSaid :=
  Claim7.holds_tied_plain_at .later [] [.handle, .sentinel, .sentinel] true (true, "1a3ddbcb9d29070d83cd072e95934012661a20515207d1b69a103a806a1e4cc8") true
    row (fun _ h => by cases h) (by kernel_rfl) (fun _ h => by cases h) ratMade_row_tie rfl ⟨rfl, rfl⟩ (by kernel_rfl) rfl
    (fun f fn hf hfn => by
      obtain rfl : f = 8 := Option.some.inj ((show Tryz.prog.funcNamed "tapewright/tapewrightlaw03.RatMade" = some 8 by kernel_rfl).symm.trans hf) |>.symm
      obtain rfl : fn = Tryz.f8 := (Option.some.inj (Tryz.func8.symm.trans hfn)).symm
      exact ⟨by kernel_rfl, fun j t ht => by
        rw [Tryz.params8] at ht
        have hm : t ∈ ([9, 9, 9] : List Nat) := by
          have := List.mem_of_getElem? (l := [9, 9, 9]) (i := j) (a := t) (by simpa using ht)
          exact this
        simp only [List.mem_cons, List.not_mem_nil, or_false] at hm
        rcases hm with rfl | rfl | rfl
        · exact stand9
        · exact stand9
        · exact stand9⟩)
    (by kernel_rfl)
#print axioms proved
end
end Go.Proofs.YtpmnfgbbkmodpaaGreatDoor.ratMade
