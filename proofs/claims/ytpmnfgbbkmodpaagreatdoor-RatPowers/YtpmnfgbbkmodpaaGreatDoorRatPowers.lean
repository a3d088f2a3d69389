/-
  THE STATEMENT RatPowers: a power of more is that of fewer and of the others, as factors, for every text and all numbers.
  Conditions: none but the row's own and the card's: the listed package variables read as the program's text lays them.
-/
import Derived.Test.YtpmnfgbbkmodpaaGreatDoorLitR
import Derived.Test.YtpmnfgbbkmodpaaGreatDoorRows
import Derived.Test.YtpmnfgbbkmodpaaGreatDoorCards
import Derived.Test.YtpmnfgbbkmodpaaGreatDoorTie
import Derived.WalkKit
import Derived.ProofKit
import Derived.OpenShut
import Derived.ShutString
import Derived.LaidMore
import Derived.Stop.Joined
import Derived.SevenTiedAt
namespace Go.Proofs.YtpmnfgbbkmodpaaGreatDoor
section
set_option maxRecDepth 100000
open Go.RowKit Nm
set_option linter.unusedVariables false

set_option maxHeartbeats 4000000 in
theorem powers_no0 (a0 : ByteArray) (n m : Int) (hn : (Lit.int .u8 n).wf = true) (hm : (Lit.int .u8 m).wf = true) (aF aZ : Addr) (w : World) (hE : Er w aF aZ) (h : okr a0 = false) :
    Calls Tryz.prog 7 #[.string a0, .int .u8 n, .int .u8 m] w fun e w' => e = .returned (.bool true) ∧ Below w.heap.size w w' := by
  have HE : Hid _ := hE
  clear hE
  have HB := bl_alloc (Below.refl w.heap.size w) (.cells #[.string a0] 9)
  have HS : Hid (∀ cap, Calls Tryz.prog 34 #[.slice (some ⟨w.heap.size, 0, none⟩) 1 cap] (w.alloc (.cells #[.string a0] 9)) fun e w' => e = .returned (.bool false) ∧ Below (w.alloc (.cells #[.string a0] 9)).heap.size (w.alloc (.cells #[.string a0] 9)) w') := fun cap => right_no w.heap.size 1 cap 0 (fun _ => a0) aF aZ _ (HE.out.more _) (by omega) (one_cell w a0) (by omega) (by simpa using h)
  clear h
  go_enter Tryz.func7, Tryz.ntmps7
  go_wp2_with fail
  refine (HS.out _).mono ?_
  rintro e w1 ⟨rfl, h1⟩
  replace HB := bl_trans HB h1
  clear h1
  go_wp2_with fail
  refine (awake_below aF aZ _ _ HE.out HB).mono ?_
  rintro e w2 ⟨rfl, h2⟩
  have HR : Hid _ := h2
  clear h2 HB
  go_wp2
  go_ret
  exact ⟨rfl, HR.out⟩

set_option maxHeartbeats 4000000 in
theorem powers_good (x : Rat) (n m : Int) (i k : Nat) (aF aZ : Addr) (w : World) (hE : Er w aF aZ) (xs : (R x).size ≤ 50) (hi : i ≤ 3) (hk : k ≤ 3) (ei : wrap64 (n.tmod 4) = (i : Int)) (ek : wrap64 (m.tmod 4) = (k : Int)) :
    Calls Tryz.prog 7 #[.string (R x), .int .u8 n, .int .u8 m] w fun e w' => e = .returned (.bool true) ∧ Below w.heap.size w w' := by
  have HE : Hid _ := hE
  clear hE
  have HB := bl_alloc (Below.refl w.heap.size w) (.cells #[.string (R x)] 9)
  have HS : Hid (∀ cap, Calls Tryz.prog 34 #[.slice (some ⟨w.heap.size, 0, none⟩) 1 cap] (w.alloc (.cells #[.string (R x)] 9)) fun e w' => e = .returned (.bool true) ∧ Below (w.alloc (.cells #[.string (R x)] 9)).heap.size (w.alloc (.cells #[.string (R x)] 9)) w') := fun cap => right_yes w.heap.size 1 cap (fun _ => R x) aF aZ _ (HE.out.more _) (by omega) (one_cell w (R x)) (by intro i hi; (repeat' split) <;> (apply okr_R; assumption))
  have Z1 : Hid ((R (x)).size ≤ 1000) := sz_of (Bd.of_size xs) (by omega)
  have HP : Hid ((R x).size ≤ 400) := by unfold Hid; omega
  have P1 : Hid ((R (x ^ i)).size ≤ 1000) := bp xs i (by omega)
  have P2 : Hid ((R (x ^ k)).size ≤ 1000) := bp xs k (by omega)
  have HM : Hid (x ^ i * x ^ k = x ^ (i + k)) := (pow_split x i k).symm
  have EP : ∀ v, Calls Tryz.prog 27 #[.string (R x), .int .i64 ((i : Int) + (k : Int))] v fun e w' => e = .returned (.tuple #[.string (R (x ^ (i + k))), .int .i64 0]) ∧ Below v.heap.size v w' := fun v => by
    have := Power_R x (i + k) v (by omega) (by omega)
    rw [show ((i + k : Nat) : Int) = (i : Int) + (k : Int) from by omega] at this; exact this
  clear xs
  go_enter Tryz.func7, Tryz.ntmps7
  go_wp2_with fail
  refine (HS.out _).mono ?_
  rintro e w3 ⟨rfl, h3⟩
  replace HB := bl_trans HB h3
  clear h3
  go_wp2_with fail
  refine (Power_R x i _ HP.out (by omega)).mono ?_
  rintro e w4 ⟨rfl, h4⟩
  replace HB := bl_trans HB h4
  clear h4
  go_wp2_with fail
  refine (Power_R x k _ HP.out (by omega)).mono ?_
  rintro e w5 ⟨rfl, h5⟩
  replace HB := bl_trans HB h5
  clear h5
  go_wp2_with fail
  refine (EP _).mono ?_
  rintro e w6 ⟨rfl, h6⟩
  replace HB := bl_trans HB h6
  clear h6
  go_wp2_with fail
  refine (Mul_R (x ^ i) (x ^ k) _ P1.out P2.out).mono ?_
  rintro e w7 ⟨rfl, h7⟩
  replace HB := bl_trans HB h7
  clear h7
  rw [HM.out]
  go_wp2_with fail
  refine (awake_below aF aZ _ _ HE.out HB).mono ?_
  rintro e w8 ⟨rfl, h8⟩
  have HR : Hid _ := h8
  clear h8 HB
  go_wp2
  go_ret
  exact ⟨rfl, HR.out⟩

theorem powers_any (a0 : ByteArray) (n m : Int) (hn : (Lit.int .u8 n).wf = true) (hm : (Lit.int .u8 m).wf = true) (aF aZ : Addr) (w : World) (hE : Er w aF aZ) :
    Calls Tryz.prog 7 #[.string a0, .int .u8 n, .int .u8 m] w fun e w' => e = .returned (.bool true) ∧ Below w.heap.size w w' := by
  by_cases r0 : okr a0 = true
  rotate_left
  · exact powers_no0 a0 n m hn hm aF aZ w hE (by simpa using r0)
  obtain ⟨x, rfl, xs⟩ := okr_of r0
  obtain ⟨i, hi, ei⟩ := u8_mod hn
  obtain ⟨k, hk, ek⟩ := u8_mod hm
  exact powers_good x n m i k aF aZ w hE xs hi hk ei ek
end
end Go.Proofs.YtpmnfgbbkmodpaaGreatDoor
namespace Go.Proofs.YtpmnfgbbkmodpaaGreatDoor.ratPowers
section
open Go.ChangeShapes Go.WideShapes Go.ChangeAt Go.RowKit
open Go.ChangeMaps (open_string shut_string)
set_option linter.unusedVariables false

theorem own : ownKnob Tryz.prog.godebug = none := by kernel_rfl

set_option maxRecDepth 100000 in
theorem lifted (os : Os) (started : os.Started) (H : Type) (enc : TypeId × Value → H) :
    ReturnsInHanded {} Tryz.checked os 7 .any (fun w args => (Rows.ratPowersSpec.pre enc Tryz.prog Tryz.f7 [] false w args ∧ laidMetH Tryz.prog listed w) ∧ sizedMet enc Tryz.prog Tryz.f7 (OpenSpec.ofChange Rows.ratPowersSpec) false w args)
      (Rows.ratPowersSpec.post enc Tryz.prog Tryz.f7 false true false false) := by
  refine returnsInHanded_of_change_and (C := Tryz.checked) (X := fun w _ => laidMetH Tryz.prog listed w) (fun _ _ _ hh h => h.of_heap hh) own started (by kernel_rfl) Tryz.func7
    (ChangeSpec.witness_shaped (enc := enc) (C := Tryz.checked) (os := os) (X := fun w _ => laidMetH Tryz.prog listed w) false (World.doorLaid Tryz.prog 400 os) #[.string ByteArray.empty, .int .u8 0, .int .u8 0] 8 rfl (door_shaped os _) (by kernel_rfl) (by kernel_rfl) (by kernel_rfl) (door_met os _)) ?_
  intro W base args ds gs before hval0 hW _ _ hL _
  have hval : ∀ (j : Nat) t v, Tryz.f7.params[j]? = some t → args[j]? = some v → Value.okWide Tryz.prog W .any base t v := hval0
  have hW' := hW
  obtain ⟨p, q, hA0, hV, rfl, hfz, hnd⟩ := hW
  have hA : DataW.TrodAll enc Tryz.prog W 0 (fun _ => true) true Tryz.f7.params.toList args.toList ds p := hA0
  rw [Tryz.params7] at hA hval
  obtain ⟨v0, vs0, d0, ds0, p0, q0, hargs, rfl, rfl, h0, r0⟩ := trodAll_cons hA
  obtain ⟨v1, vs1, d1, ds1, p1, q1, rfl, rfl, rfl, h1, r1⟩ := trodAll_cons r0
  obtain ⟨v2, vs2, d2, ds2, p2, q2, rfl, rfl, rfl, h2, r2⟩ := trodAll_cons r1
  obtain ⟨rfl, rfl, rfl⟩ := trodAll_nil r2
  obtain rfl : args = #[v0, v1, v2] := by cases args; simp_all
  obtain ⟨rfl, rfl⟩ := trodVars_none hV
  obtain ⟨a0, rfl, rfl, rfl, w0⟩ := open_string Tryz.underlying9 (hval 0 9 v0 rfl rfl) h0
  obtain ⟨a1, rfl, rfl, rfl, w1⟩ := open_int Tryz.underlying5 (hval 1 5 v1 rfl rfl) h1
  obtain ⟨a2, rfl, rfl, rfl, w2⟩ := open_int Tryz.underlying5 (hval 2 5 v2 rfl rfl) h2
  obtain ⟨aF, aZ, hE⟩ := er_of hL
  clear hA0 hval0
  simp only [List.append_nil] at hW'
  refine (Go.Proofs.YtpmnfgbbkmodpaaGreatDoor.powers_any a0 a1 a2 w1 w2 aF aZ W hE).mono fun e W' ⟨he, bel⟩ => ?_
  subst he
  exact ⟨_, rfl, _, _, _, [], [], [], hW', trodAll_mk1 (shut_bool Tryz.underlying4 _), (trodAll_cons_mk (shut_string Tryz.underlying9 w0) (trodAll_cons_mk (shut_int Tryz.underlying5 w1) (trodAll_cons_mk (shut_int Tryz.underlying5 w2) trodAll_mk0))), rfl, bel.frame _, fun h => by cases h⟩

theorem row : Rows.RatPowersSaid :=
  OpenClaim.holds_of_wide 7 Tryz.f7 rfl rfl rfl rfl rfl rfl rfl ⟨rfl, rfl, rfl, rfl, rfl⟩ rfl rfl rfl rfl rfl (by kernel_rfl) Tryz.func7 (by kernel_rfl)
    (of_decide_eq_true (by kernel_rfl)) (by unfold Func.isWrapper; first | (rw [if_pos (by decide +kernel)]; kernel_rfl) | (rw [if_neg (by decide +kernel)]; exact ⟨rfl, rfl⟩))
    (fun os started H enc _ => lifted os started H enc)

theorem proved : Rows.RatPowersCardSaid :=
  Claim7.holds_tied_plain_at .later [] [.handle, .sentinel, .sentinel] true (true, "1a3ddbcb9d29070d83cd072e95934012661a20515207d1b69a103a806a1e4cc8") true
    row (fun _ h => by cases h) (by kernel_rfl) (fun _ h => by cases h) ratPowers_row_tie rfl ⟨rfl, rfl⟩ (by kernel_rfl) rfl
    (fun f fn hf hfn => by
      obtain rfl : f = 7 := Option.some.inj ((show Tryz.prog.funcNamed "tapewright/tapewrightlaw03.RatPowers" = some 7 by kernel_rfl).symm.trans hf) |>.symm
      obtain rfl : fn = Tryz.f7 := (Option.some.inj (Tryz.func7.symm.trans hfn)).symm
      exact ⟨by kernel_rfl, fun j t ht => by
        rw [Tryz.params7] at ht
        have hm : t ∈ ([9, 5, 5] : List Nat) := by
          have := List.mem_of_getElem? (l := [9, 5, 5]) (i := j) (a := t) (by simpa using ht)
          exact this
        simp only [List.mem_cons, List.not_mem_nil, or_false] at hm
        rcases hm with rfl | rfl | rfl
        · exact stand9
        · exact stand5
        · exact stand5⟩)
    (by kernel_rfl)
#print axioms proved
end
end Go.Proofs.YtpmnfgbbkmodpaaGreatDoor.ratPowers
