/-
  THE STATEMENT RatTexts: what is told is a rational in lowest terms: its two parts make it again, for all texts.
  Conditions: none but the row's own and the card's: the listed package variables read as the program's text lays them.
-/
import Derived.Test.YtpmnfgbbkmodpaaGreatDoorLitR
import Derived.Test.YtpmnfgbbkmodpaaGreatDoorReadR
import Derived.Test.YtpmnfgbbkmodpaaGreatDoorRows
import Derived.Test.YtpmnfgbbkmodpaaGreatDoorCards
import Derived.Test.YtpmnfgbbkmodpaaGreatDoorTie
import Derived.WalkKit
import Derived.ProofKit
import Derived.OpenShut
import Derived.ShutString
import Derived.LaidMore
import Derived.Stop.Joined
import Derived.SevenTiedAt
namespace Go.Proofs.YtpmnfgbbkmodpaaGreatDoor
section
set_option maxRecDepth 100000
open Go.RowKit Nm
set_option linter.unusedVariables false

set_option maxHeartbeats 4000000 in
theorem texts_no0 (a0 a1 : ByteArray) (aF aZ : Addr) (w : World) (hE : Er w aF aZ) (h : okr a0 = false) :
    Calls Tryz.prog 13 #[.string a0, .string a1] w fun e w' => e = .returned (.bool true) ∧ Below w.heap.size w w' := by
  have HE : Hid _ := hE
  clear hE
  have HB := bl_alloc (Below.refl w.heap.size w) (.cells #[.string a0, .string a1] 9)
  have HS : Hid (∀ cap, Calls Tryz.prog 34 #[.slice (some ⟨w.heap.size, 0, none⟩) 2 cap] (w.alloc (.cells #[.string a0, .string a1] 9)) fun e w' => e = .returned (.bool false) ∧ Below (w.alloc (.cells #[.string a0, .string a1] 9)).heap.size (w.alloc (.cells #[.string a0, .string a1] 9)) w') := fun cap => right_no w.heap.size 2 cap 0 _ aF aZ _ (HE.out.more _) (by omega) (two_cells w a0 a1) (by omega) (by simpa using h)
  clear h
  go_enter Tryz.func13, Tryz.ntmps13
  go_wp2_with fail
  refine (HS.out _).mono ?_
  rintro e w1 ⟨rfl, h1⟩
  replace HB := bl_trans HB h1
  clear h1
  go_wp2_with fail
  refine (awake_below aF aZ _ _ HE.out HB).mono ?_
  rintro e w2 ⟨rfl, h2⟩
  have HR : Hid _ := h2
  clear h2 HB
  go_wp2
  go_ret
  exact ⟨rfl, HR.out⟩

set_option maxHeartbeats 4000000 in
theorem texts_no1 (a0 a1 : ByteArray) (aF aZ : Addr) (w : World) (hE : Er w aF aZ) (h : okr a1 = false) :
    Calls Tryz.prog 13 #[.string a0, .string a1] w fun e w' => e = .returned (.bool true) ∧ Below w.heap.size w w' := by
  have HE : Hid _ := hE
  clear hE
  have HB := bl_alloc (Below.refl w.heap.size w) (.cells #[.string a0, .string a1] 9)
  have HS : Hid (∀ cap, Calls Tryz.prog 34 #[.slice (some ⟨w.heap.size, 0, none⟩) 2 cap] (w.alloc (.cells #[.string a0, .string a1] 9)) fun e w' => e = .returned (.bool false) ∧ Below (w.alloc (.cells #[.string a0, .string a1] 9)).heap.size (w.alloc (.cells #[.string a0, .string a1] 9)) w') := fun cap => right_no w.heap.size 2 cap 1 _ aF aZ _ (HE.out.more _) (by omega) (two_cells w a0 a1) (by omega) (by simpa using h)
  clear h
  go_enter Tryz.func13, Tryz.ntmps13
  go_wp2_with fail
  refine (HS.out _).mono ?_
  rintro e w3 ⟨rfl, h3⟩
  replace HB := bl_trans HB h3
  clear h3
  go_wp2_with fail
  refine (awake_below aF aZ _ _ HE.out HB).mono ?_
  rintro e w4 ⟨rfl, h4⟩
  have HR : Hid _ := h4
  clear h4 HB
  go_wp2
  go_ret
  exact ⟨rfl, HR.out⟩

/-- where a stroke that stands alone has been met -/
def met (n A k : Nat) : Nat := if k ≤ A then n else A
theorem met_zero (n A : Nat) : met n A 0 = n := by unfold met; rw [if_pos (Nat.zero_le _)]
theorem met_here (n A : Nat) : met n A (A + 1) = A := by unfold met; rw [if_neg (by omega)]
theorem met_other {n A k : Nat} (h : k ≠ A) : met n A (k + 1) = met n A k := by
  unfold met
  by_cases c : k ≤ A
  · rw [if_pos c, if_pos (by omega)]
  · rw [if_neg c, if_neg (by omega)]

set_option maxHeartbeats 4000000 in
theorem texts_none (x y : Rat) (A : Nat) (aF aZ : Addr) (w : World) (hE : Er w aF aZ) (xs : (R x).size ≤ 50) (ys : (R y).size ≤ 50) (S : ByteArray) (hS : S = R (x + y)) (hst : ∀ (j : Nat) (hj : j < S.size), S[j].toNat = 47 ↔ j = A) (hA : A = S.size) (P : ByteArray) (hP : S.extract 0 S.size = P)
    (EM : ∀ v : World, Calls Tryz.prog 26 #[.string P, .string ⟨#[49]⟩] v fun e w' => e = .returned (.tuple #[.string S, .int .i64 0]) ∧ Below v.heap.size v w') (ER : ∀ v : World, Calls Tryz.prog 30 #[.string S] v fun e w' => e = .returned (.bool true) ∧ Below v.heap.size v w') :
    Calls Tryz.prog 13 #[.string (R x), .string (R y)] w fun e w' => e = .returned (.bool true) ∧ Below w.heap.size w w' := by
  have HE : Hid _ := hE
  clear hE
  have HB := bl_alloc (Below.refl w.heap.size w) (.cells #[.string (R x), .string (R y)] 9)
  have HS : Hid (∀ cap, Calls Tryz.prog 34 #[.slice (some ⟨w.heap.size, 0, none⟩) 2 cap] (w.alloc (.cells #[.string (R x), .string (R y)] 9)) fun e w' => e = .returned (.bool true) ∧ Below (w.alloc (.cells #[.string (R x), .string (R y)] 9)).heap.size (w.alloc (.cells #[.string (R x), .string (R y)] 9)) w') := fun cap => right_yes w.heap.size 2 cap _ aF aZ _ (HE.out.more _) (by omega) (two_cells w (R x) (R y)) (by intro i hi; (repeat' split) <;> (apply okr_R; assumption))
  have Z1 : Hid ((R (x)).size ≤ 1000) := sz_of (Bd.of_size xs) (by omega)
  have Z2 : Hid ((R (y)).size ≤ 1000) := sz_of (Bd.of_size ys) (by omega)
  have Z3 : Hid ((R (x + y)).size ≤ 1000) := sz_of (Bd.add (Bd.of_size xs) (Bd.of_size ys)) (by omega)
  have HZ : Hid (S.size ≤ 1000) := by unfold Hid; rw [hS]; exact Z3.out
  have HS' : Hid _ := hS
  clear hS
  clear xs ys
  go_enter Tryz.func13, Tryz.ntmps13
  go_wp2_with fail
  refine (HS.out _).mono ?_
  rintro e w5 ⟨rfl, h5⟩
  replace HB := bl_trans HB h5
  clear h5
  go_wp2_with fail
  refine (Add_R x y _ Z1.out Z2.out).mono ?_
  rintro e w6 ⟨rfl, h6⟩
  replace HB := bl_trans HB h6
  clear h6
  rw [← HS'.out]
  have hz := HZ.out
  go_wp2_with fail
  go_loop [7, 8, 28] (fun p z i => ∃ k : Nat, k ≤ S.size ∧ i = .int .i64 (k : Nat) ∧ p = .int .i64 ((met S.size A k : Nat) : Int)) (fun _ _ i => S.size - (intOf i).toNat)
  case atStart => exact ⟨0, by omega, rfl, by rw [met_zero]⟩
  case round =>
    obtain ⟨k, hk, rfl, rfl⟩ := hrel
    by_cases hlt : k < S.size
    · have hlti : ((k : Int) < (S.size : Int)) := by omega
      by_cases hc : k = A
      · exfalso; omega
      · have hq : (((S[k].toNat : Nat) : Int) == 47) = false := beq_eq_false_iff_ne.2 (fun c => hc ((hst k hlt).1 (by omega)))
        have HM : Hid _ := met_other (n := S.size) hc
        generalize met S.size A k = z at *
        go_wp2
        go_round
        case rel => exact ⟨k + 1, by omega, by go_num, by rw [HM.out]⟩
        case measure => simp [intOf]; omega
    · have hkA : met S.size A k = A := by
        unfold met
        by_cases c : k ≤ A
        · rw [if_pos c]; omega
        · rw [if_neg c]
      rw [hkA]
      subst hA
      go_wp2_with fail
      refine (EM _).mono ?_
      rintro e w7 ⟨rfl, h7⟩
      replace HB := bl_trans HB h7
      clear h7
      go_wp2_with fail
      refine (ER _).mono ?_
      rintro e w8 ⟨rfl, h8⟩
      replace HB := bl_trans HB h8
      clear h8
      go_wp2_with fail
      refine (awake_below aF aZ _ _ HE.out HB).mono ?_
      rintro e w9 ⟨rfl, h9⟩
      have HR : Hid _ := h9
      clear h9 HB
      go_wp2
      go_ret
      exact ⟨rfl, HR.out⟩

set_option maxHeartbeats 4000000 in
theorem texts_some (x y : Rat) (A : Nat) (aF aZ : Addr) (w : World) (hE : Er w aF aZ) (xs : (R x).size ≤ 50) (ys : (R y).size ≤ 50) (S : ByteArray) (hS : S = R (x + y)) (hst : ∀ (j : Nat) (hj : j < S.size), S[j].toNat = 47 ↔ j = A) (hA : A < S.size) (P Q : ByteArray) (hP : S.extract 0 A = P) (hQ : S.extract (A + 1) S.size = Q)
    (EM : ∀ v : World, Calls Tryz.prog 26 #[.string P, .string Q] v fun e w' => e = .returned (.tuple #[.string S, .int .i64 0]) ∧ Below v.heap.size v w') (ER : ∀ v : World, Calls Tryz.prog 30 #[.string S] v fun e w' => e = .returned (.bool true) ∧ Below v.heap.size v w') :
    Calls Tryz.prog 13 #[.string (R x), .string (R y)] w fun e w' => e = .returned (.bool true) ∧ Below w.heap.size w w' := by
  have HE : Hid _ := hE
  clear hE
  have HB := bl_alloc (Below.refl w.heap.size w) (.cells #[.string (R x), .string (R y)] 9)
  have HS : Hid (∀ cap, Calls Tryz.prog 34 #[.slice (some ⟨w.heap.size, 0, none⟩) 2 cap] (w.alloc (.cells #[.string (R x), .string (R y)] 9)) fun e w' => e = .returned (.bool true) ∧ Below (w.alloc (.cells #[.string (R x), .string (R y)] 9)).heap.size (w.alloc (.cells #[.string (R x), .string (R y)] 9)) w') := fun cap => right_yes w.heap.size 2 cap _ aF aZ _ (HE.out.more _) (by omega) (two_cells w (R x) (R y)) (by intro i hi; (repeat' split) <;> (apply okr_R; assumption))
  have Z1 : Hid ((R (x)).size ≤ 1000) := sz_of (Bd.of_size xs) (by omega)
  have Z2 : Hid ((R (y)).size ≤ 1000) := sz_of (Bd.of_size ys) (by omega)
  have Z3 : Hid ((R (x + y)).size ≤ 1000) := sz_of (Bd.add (Bd.of_size xs) (Bd.of_size ys)) (by omega)
  have HZ : Hid (S.size ≤ 1000) := by unfold Hid; rw [hS]; exact Z3.out
  have HS' : Hid _ := hS
  clear hS
  clear xs ys
  go_enter Tryz.func13, Tryz.ntmps13
  go_wp2_with fail
  refine (HS.out _).mono ?_
  rintro e w10 ⟨rfl, h10⟩
  replace HB := bl_trans HB h10
  clear h10
  go_wp2_with fail
  refine (Add_R x y _ Z1.out Z2.out).mono ?_
  rintro e w11 ⟨rfl, h11⟩
  replace HB := bl_trans HB h11
  clear h11
  rw [← HS'.out]
  have hz := HZ.out
  go_wp2_with fail
  go_loop [7, 8, 28] (fun p z i => ∃ k : Nat, k ≤ S.size ∧ i = .int .i64 (k : Nat) ∧ p = .int .i64 ((met S.size A k : Nat) : Int)) (fun _ _ i => S.size - (intOf i).toNat)
  case atStart => exact ⟨0, by omega, rfl, by rw [met_zero]⟩
  case round =>
    obtain ⟨k, hk, rfl, rfl⟩ := hrel
    by_cases hlt : k < S.size
    · have hlti : ((k : Int) < (S.size : Int)) := by omega
      by_cases hc : k = A
      · subst hc
        have hq : (((S[k].toNat : Nat) : Int) == 47) = true := by rw [(hst k hlt).2 rfl]; rfl
        have HM : Hid (met S.size k (k + 1) = k) := met_here _ _
        generalize met S.size k k = z at *
        go_wp2
        go_round
        case rel => exact ⟨k + 1, by omega, by go_num, by rw [HM.out]⟩
        case measure => simp [intOf]; omega
      · have hq : (((S[k].toNat : Nat) : Int) == 47) = false := beq_eq_false_iff_ne.2 (fun c => hc ((hst k hlt).1 (by omega)))
        have HM : Hid _ := met_other (n := S.size) hc
        generalize met S.size A k = z at *
        go_wp2
        go_round
        case rel => exact ⟨k + 1, by omega, by go_num, by rw [HM.out]⟩
        case measure => simp [intOf]; omega
    · have hkA : met S.size A k = A := by
        unfold met
        by_cases c : k ≤ A
        · rw [if_pos c]; omega
        · rw [if_neg c]
      rw [hkA]
      have hAi : ((A : Int) < (S.size : Int)) := by omega
      go_wp2_with fail
      refine (EM _).mono ?_
      rintro e w12 ⟨rfl, h12⟩
      replace HB := bl_trans HB h12
      clear h12
      go_wp2_with fail
      refine (ER _).mono ?_
      rintro e w13 ⟨rfl, h13⟩
      replace HB := bl_trans HB h13
      clear h13
      go_wp2_with fail
      refine (awake_below aF aZ _ _ HE.out HB).mono ?_
      rintro e w14 ⟨rfl, h14⟩
      have HR : Hid _ := h14
      clear h14 HB
      go_wp2
      go_ret
      exact ⟨rfl, HR.out⟩

theorem texts_any (a0 a1 : ByteArray) (aF aZ : Addr) (w : World) (hE : Er w aF aZ) :
    Calls Tryz.prog 13 #[.string a0, .string a1] w fun e w' => e = .returned (.bool true) ∧ Below w.heap.size w w' := by
  by_cases r0 : okr a0 = true
  rotate_left
  · exact texts_no0 a0 a1 aF aZ w hE (by simpa using r0)
  by_cases r1 : okr a1 = true
  rotate_left
  · exact texts_no1 a0 a1 aF aZ w hE (by simpa using r1)
  obtain ⟨x, rfl, xs⟩ := okr_of r0
  obtain ⟨y, rfl, ys⟩ := okr_of r1
  obtain ⟨r, hr⟩ : ∃ r, r = x + y := ⟨_, rfl⟩
  have bd : Bd r 200 := by rw [hr]; exact (Bd.of_size xs).add (Bd.of_size ys)
  have b1 := bd.1
  have b2 := bd.2
  have d0 := den_gt r
  have ER := fun v => Right_R r v (by have := sz_of bd (by omega); omega)
  have EM := fun v => Make_W r.num (r.den : Int) v (by omega) (by simp only [Int.natAbs_natCast]; omega) (by omega)
  rw [by_self, W_nat] at EM
  have at47 : ∀ (s : ByteArray) (j : Nat) (hj : j < s.size), s.data.toList[j]? = some s[j] := fun s j hj => by
    have hl : j < s.data.toList.length := by rw [len_data]; exact hj
    rw [List.getElem?_eq_getElem hl]; rfl
  by_cases h : r.den = 1
  · have e := R_one h
    refine texts_none x y (R r).size aF aZ w hE xs ys (R r) (by rw [hr]) ?_ rfl (R r) (all_of _) ?_ ER
    · intro j hj
      refine ⟨fun c => ?_, fun c => by omega⟩
      exfalso
      have hm : (R r)[j] ∈ (R r).data.toList := List.mem_of_getElem? (at47 _ j hj)
      have hd : (R r).data.toList = (W r.num).data.toList := by rw [e]
      rw [hd] at hm
      exact no47_W _ _ hm (UInt8.toNat.inj c)
    · rw [h, S1] at EM; rw [e] at EM ⊢; exact EM
  · have e := R_more h
    have hA : (R r).data.toList.length = (W r.num).data.toList.length + 1 + (tx r.den).length := by rw [e]; simp; omega
    rw [len_data, len_data] at hA
    have cut : ∀ j : Nat, (R r).data.toList[j]? = ((W r.num).data.toList ++ 47 :: tx r.den)[j]? := fun j => by rw [e]
    refine texts_some x y (W r.num).size aF aZ w hE xs ys (R r) (by rw [hr]) ?_ (by omega) (W r.num) (S r.den) ?_ ?_ EM ER
    · intro j hj
      have hj' := at47 (R r) j hj
      rw [cut j] at hj'
      constructor
      · intro c
        have c' : (R r)[j] = 47 := UInt8.toNat.inj c
        rcases Nat.lt_trichotomy j (W r.num).size with l | l | l
        · rw [List.getElem?_append_left (by rw [len_data]; exact l)] at hj'
          exact absurd c' (no47_W _ _ (List.mem_of_getElem? hj'))
        · exact l
        · rw [List.getElem?_append_right (by rw [len_data]; omega), len_data] at hj'
          obtain ⟨m, hm⟩ : ∃ m, j - (W r.num).size = m + 1 := ⟨j - (W r.num).size - 1, by omega⟩
          rw [hm, List.getElem?_cons_succ] at hj'
          exact absurd c' (no47_tx _ _ (List.mem_of_getElem? hj'))
      · intro c
        subst c
        rw [List.getElem?_append_right (by rw [len_data]; exact Nat.le_refl _), len_data, Nat.sub_self, List.getElem?_cons_zero] at hj'
        have hb := Option.some.inj hj'
        rw [← hb]; rfl
    · apply ba_ext
      rw [ByteArray.data_extract, Array.toList_extract, List.extract_eq_take_drop, List.drop_zero, e]
      simp only [Nat.sub_zero]
      rw [List.take_append_of_le_length (by rw [len_data]; exact Nat.le_refl _), List.take_of_length_le (by rw [len_data]; exact Nat.le_refl _)]
    · apply ba_ext
      rw [ByteArray.data_extract, Array.toList_extract, List.extract_eq_take_drop, e, S_data]
      have : ((W r.num).data.toList ++ 47 :: tx r.den).drop ((W r.num).size + 1) = tx r.den := by
        rw [← len_data (W r.num), List.drop_append]; simp
      rw [this]
      exact List.take_of_length_le (by omega)
end
end Go.Proofs.YtpmnfgbbkmodpaaGreatDoor
namespace Go.Proofs.YtpmnfgbbkmodpaaGreatDoor.ratTexts
section
open Go.ChangeShapes Go.WideShapes Go.ChangeAt Go.RowKit
open Go.ChangeMaps (open_string shut_string)
set_option linter.unusedVariables false

theorem own : ownKnob Tryz.prog.godebug = none := by kernel_rfl

set_option maxRecDepth 100000 in
theorem lifted (os : Os) (started : os.Started) (H : Type) (enc : TypeId × Value → H) :
    ReturnsInHanded {} Tryz.checked os 13 .any (fun w args => (Rows.ratTextsSpec.pre enc Tryz.prog Tryz.f13 [] false w args ∧ laidMetH Tryz.prog listed w) ∧ sizedMet enc Tryz.prog Tryz.f13 (OpenSpec.ofChange Rows.ratTextsSpec) false w args)
      (Rows.ratTextsSpec.post enc Tryz.prog Tryz.f13 false true false false) := by
  refine returnsInHanded_of_change_and (C := Tryz.checked) (X := fun w _ => laidMetH Tryz.prog listed w) (fun _ _ _ hh h => h.of_heap hh) own started (by kernel_rfl) Tryz.func13
    (ChangeSpec.witness_shaped (enc := enc) (C := Tryz.checked) (os := os) (X := fun w _ => laidMetH Tryz.prog listed w) false (World.doorLaid Tryz.prog 400 os) #[.string ByteArray.empty, .string ByteArray.empty] 8 rfl (door_shaped os _) (by kernel_rfl) (by kernel_rfl) (by kernel_rfl) (door_met os _)) ?_
  intro W base args ds gs before hval0 hW _ _ hL _
  have hval : ∀ (j : Nat) t v, Tryz.f13.params[j]? = some t → args[j]? = some v → Value.okWide Tryz.prog W .any base t v := hval0
  have hW' := hW
  obtain ⟨p, q, hA0, hV, rfl, hfz, hnd⟩ := hW
  have hA : DataW.TrodAll enc Tryz.prog W 0 (fun _ => true) true Tryz.f13.params.toList args.toList ds p := hA0
  rw [Tryz.params13] at hA hval
  obtain ⟨v0, vs0, d0, ds0, p0, q0, hargs, rfl, rfl, h0, r0⟩ := trodAll_cons hA
  obtain ⟨v1, vs1, d1, ds1, p1, q1, rfl, rfl, rfl, h1, r1⟩ := trodAll_cons r0
  obtain ⟨rfl, rfl, rfl⟩ := trodAll_nil r1
  obtain rfl : args = #[v0, v1] := by cases args; simp_all
  obtain ⟨rfl, rfl⟩ := trodVars_none hV
  obtain ⟨a0, rfl, rfl, rfl, w0⟩ := open_string Tryz.underlying9 (hval 0 9 v0 rfl rfl) h0
  obtain ⟨a1, rfl, rfl, rfl, w1⟩ := open_string Tryz.underlying9 (hval 1 9 v1 rfl rfl) h1
  obtain ⟨aF, aZ, hE⟩ := er_of hL
  clear hA0 hval0
  simp only [List.append_nil] at hW'
  refine (Go.Proofs.YtpmnfgbbkmodpaaGreatDoor.texts_any a0 a1 aF aZ W hE).mono fun e W' ⟨he, bel⟩ => ?_
  subst he
  exact ⟨_, rfl, _, _, _, [], [], [], hW', trodAll_mk1 (shut_bool Tryz.underlying4 _), (trodAll_cons_mk (shut_string Tryz.underlying9 w0) (trodAll_cons_mk (shut_string Tryz.underlying9 w1) trodAll_mk0)), rfl, bel.frame _, fun h => by cases h⟩

theorem row : Rows.RatTextsSaid :=
  OpenClaim.holds_of_wide 13 Tryz.f13 rfl rfl rfl rfl rfl rfl rfl ⟨rfl, rfl, rfl, rfl, rfl⟩ rfl rfl rfl rfl rfl (by kernel_rfl) Tryz.func13 (by kernel_rfl)
    (of_decide_eq_true (by kernel_rfl)) (by unfold Func.isWrapper; first | (rw [if_pos (by decide +kernel)]; kernel_rfl) | (rw [if_neg (by decide +kernel)]; exact ⟨rfl, rfl⟩))
    (fun os started H enc _ => lifted os started H enc)

theorem proved : Rows.RatTextsCardSaid :=
  Claim7.holds_tied_plain_at .later [] [.handle, .sentinel, .sentinel] true (true, "1a3ddbcb9d29070d83cd072e95934012661a20515207d1b69a103a806a1e4cc8") true
    row (fun _ h => by cases h) (by kernel_rfl) (fun _ h => by cases h) ratTexts_row_tie rfl ⟨rfl, rfl⟩ (by kernel_rfl) rfl
    (fun f fn hf hfn => by
      obtain rfl : f = 13 := Option.some.inj ((show Tryz.prog.funcNamed "tapewright/tapewrightlaw03.RatTexts" = some 13 by kernel_rfl).symm.trans hf) |>.symm
      obtain rfl : fn = Tryz.f13 := (Option.some.inj (Tryz.func13.symm.trans hfn)).symm
      exact ⟨by kernel_rfl, fun j t ht => by
        rw [Tryz.params13] at ht
        have hm : t ∈ ([9, 9] : List Nat) := by
          have := List.mem_of_getElem? (l := [9, 9]) (i := j) (a := t) (by simpa using ht)
          exact this
        simp only [List.mem_cons, List.not_mem_nil, or_false] at hm
        rcases hm with rfl | rfl
        · exact stand9
        · exact stand9⟩)
    (by kernel_rfl)
#print axioms proved
end
end Go.Proofs.YtpmnfgbbkmodpaaGreatDoor.ratTexts
