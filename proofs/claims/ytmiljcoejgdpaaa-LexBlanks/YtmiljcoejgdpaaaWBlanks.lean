/-
  THE WALK OF LexBlanks: the call gives true. Conditions: none.
-/
import Derived.Test.YtmiljcoejgdpaaaAw
namespace Go.Proofs.Ytmiljcoejgdpaaa
set_option maxRecDepth 100000
open Go.RowKit
set_option linter.unusedVariables false

theorem wide_app (a b : Bt) : wide (a ++ b) = wide a ++ wide b := by simp [wide]
theorem take_one (s : ByteArray) (i : Nat) (h : i < s.size) : s.data.toList.take (i + 1) = s.data.toList.take i ++ [s[i]] := by
  rw [List.take_add_one, List.getElem?_eq_getElem (show i < s.data.toList.length from h)]
  rfl
theorem wide_len (l : Bt) : (wide l).length ≤ 3 * l.length := by
  induction l with
  | nil => simp [wide]
  | cons b l ih =>
    have e : wide (b :: l) = (if b = 32 then [b, 32, 32] else [b]) ++ wide l := by simp [wide]
    rw [e, List.length_append]
    split <;> simp only [List.length_cons, List.length_nil] <;> omega
theorem wide_next (s x : ByteArray) (i : Nat) (h : i < s.size) (hx : x.data.toList = wide (s.data.toList.take i)) (hb : s[i] ≠ 32) : (x ++ s.extract i (i + 1)).data.toList = wide (s.data.toList.take (i + 1)) := by
  rw [app_list, one_at s i h, take_one s i h, wide_app, hx]
  congr 1
  simp [wide, hb]
theorem wide_blank (s x : ByteArray) (i : Nat) (h : i < s.size) (hx : x.data.toList = wide (s.data.toList.take i)) (hb : s[i] = 32) : (x ++ s.extract i (i + 1) ++ (⟨#[32, 32]⟩ : ByteArray)).data.toList = wide (s.data.toList.take (i + 1)) := by
  rw [app_list, app_list, one_at s i h, take_one s i h, wide_app, hx, hb, List.append_assoc]
  rfl

theorem lexBlanks_any (s c : ByteArray) (w : World) : Calls Try.prog 4 #[.string s, .string c] w fun e w' => e = .returned (.bool true) ∧ Below w.heap.size w w' := by
  by_cases hg : 1024 < s.size
  · go_enter Try.func4, Try.ntmps4
    go_wp2_with fail
    refine (awake_any _).mono ?_
    rintro e w1 ⟨rfl, hB⟩
    go_wp2
    go_ret
    exact ⟨rfl, hB⟩
  by_cases hc : 100 < c.size
  · go_enter Try.func4, Try.ntmps4
    go_wp2_with fail
    refine (awake_any _).mono ?_
    rintro e w1 ⟨rfl, hB⟩
    go_wp2
    go_ret
    exact ⟨rfl, hB⟩
  have k1 : ∀ w, Calls Try.prog 11 #[.string s] w _ := fun w => both_any s w (by omega)
  go_enter Try.func4, Try.ntmps4
  go_wp2_with fail
  go_loop [19] (fun i => ∃ q : Nat, i = .int .i64 (q : Int) ∧ q ≤ c.size ∧ ∀ j, (hj : j < c.size) → j < q → c[j] ≠ 10) (fun i => c.size - (intOf i).toNat)
  case atStart => exact ⟨0, rfl, by omega, fun j _ h => absurd h (by omega)⟩
  case round =>
    obtain ⟨q, rfl, hq, ha⟩ := hrel
    have HA : Hid (∀ j, (hj : j < c.size) → j < q → c[j] ≠ 10) := ha
    clear ha
    by_cases hqc : q < c.size
    · by_cases h10 : c[q] = 10
      · have b10 : (((c[q].toNat : Nat) : Int) == 10) = true := byte_eq _ h10 rfl
        clear h10
        go_wp2_with fail
        refine (awake_any _).mono ?_
        rintro e w1 ⟨rfl, hB⟩
        go_wp2
        go_ret
        exact ⟨rfl, hB⟩
      · have b10 : (((c[q].toNat : Nat) : Int) == 10) = false := byte_ne _ h10 rfl
        go_wp2
        go_round
        case rel =>
          refine ⟨q + 1, by go_num, by omega, fun j hj hjq => ?_⟩
          rcases Nat.lt_or_ge j q with h | h
          · exact HA.out j hj h
          · obtain rfl : j = q := by omega
            exact h10
        case measure => simp [intOf]; omega
    · obtain rfl : q = c.size := by omega
      have HC : Hid (∀ b ∈ c.data.toList, b ≠ 10) := by
        intro b hb
        obtain ⟨i, hi, rfl⟩ := List.getElem_of_mem hb
        have hi' : i < c.size := hi
        exact HA.out i hi' hi'
      clear HA hq hqc
      go_wp2_with fail
      go_loop [6, 30] (fun v i => ∃ (q : Nat) (x : ByteArray), i = .int .i64 (q : Int) ∧ v = .string x ∧ q ≤ s.size ∧ x.size ≤ 3 * q ∧ x.data.toList = wide (s.data.toList.take q)) (fun _ i => s.size - (intOf i).toNat)
      case atStart => exact ⟨0, ⟨#[]⟩, rfl, rfl, by omega, Nat.le_refl _, rfl⟩
      case round =>
        obtain ⟨q, x, rfl, rfl, hq, hxs, hx⟩ := hrel
        have HX : Hid (x.data.toList = wide (s.data.toList.take q)) := hx
        clear hx
        by_cases hqc : q < s.size
        · have g1 : (0 : Int) ≤ (q : Int) := by omega
          have g2 : (q : Int) + 1 ≤ (s.size : Int) := by omega
          have g3 : (q : Int) ≤ (q : Int) + 1 := by omega
          have hz1 := size_one s q hqc
          by_cases h32 : s[q] = 32
          · have HN : Hid ((x ++ s.extract q (q + 1) ++ (⟨#[32, 32]⟩ : ByteArray)).data.toList = wide (s.data.toList.take (q + 1))) := wide_blank s x q hqc HX.out h32
            have b32 : (((s[q].toNat : Nat) : Int) == 32) = true := byte_eq _ h32 rfl
            have hsz : (x ++ s.extract q (q + 1) ++ (⟨#[32, 32]⟩ : ByteArray)).size = x.size + 3 := by rw [size_app, size_app, hz1]; rfl
            clear h32
            go_wp2
            go_round
            case rel => exact ⟨q + 1, _, by go_num, rfl, by omega, by rw [hsz]; omega, HN.out⟩
            case measure => simp [intOf]; omega
          · have HN : Hid ((x ++ s.extract q (q + 1)).data.toList = wide (s.data.toList.take (q + 1))) := wide_next s x q hqc HX.out h32
            have b32 : (((s[q].toNat : Nat) : Int) == 32) = false := byte_ne _ h32 rfl
            have hsz : (x ++ s.extract q (q + 1)).size = x.size + 1 := by rw [size_app, hz1]
            go_wp2
            go_round
            case rel => exact ⟨q + 1, _, by go_num, rfl, by omega, by rw [hsz]; omega, HN.out⟩
            case measure => simp [intOf]; omega
        · obtain rfl : q = s.size := by omega
          have HL : Hid (lns (((⟨#[32]⟩ : ByteArray) ++ x) ++ (⟨#[32, 35]⟩ : ByteArray) ++ c).data.toList = lns s.data.toList) := by
            have e1 : s.data.toList.take s.size = s.data.toList := List.take_of_length_le (Nat.le_refl _)
            have e2 : (((⟨#[32]⟩ : ByteArray) ++ x) ++ (⟨#[32, 35]⟩ : ByteArray) ++ c).data.toList = 32 :: (wide s.data.toList ++ 32 :: 35 :: c.data.toList) := by
              rw [app_list, app_list, app_list, HX.out, e1]
              simp
            show lns _ = _
            rw [e2]
            exact lns_wide _ _ HC.out
          have hbs : (((⟨#[32]⟩ : ByteArray) ++ x) ++ (⟨#[32, 35]⟩ : ByteArray) ++ c).size = x.size + 3 + c.size := by
            rw [size_app, size_app, size_app]
            show 1 + x.size + 2 + c.size = _
            omega
          clear HX HC hqc hq
          go_wp2_with fail
          refine (k1 _).mono ?_
          rintro e w1 ⟨v, rfl, hB1, h1⟩
          clear k1
          go_wp2_with fail
          refine (h1 _ (Below.refl _ _)).mono ?_
          rintro e w2 ⟨va, ua, rfl, hA, hB2⟩
          clear h1
          have k2 : ∀ (t : ByteArray) w, t.size ≤ 100000 → Calls Try.prog 11 #[.string t] w _ := fun t w h => both_any t w h
          have k3 := fun va vb ua ub (t : ByteArray) w ba bb (ht : t.size ≤ 100000) (hA : Ls w ba 34 va ua (lns s.data.toList)) (hB : Ls w bb 34 vb ub (lns t.data.toList)) he => same_any va vb ua ub s _ w ba bb (by omega) hA hB he
          go_wp2_with fail
          have hbl : (((⟨#[32]⟩ : ByteArray) ++ x) ++ (⟨#[32, 35]⟩ : ByteArray) ++ c).size ≤ 100000 := by rw [hbs]; omega
          generalize ((⟨#[32]⟩ : ByteArray) ++ x) ++ (⟨#[32, 35]⟩ : ByteArray) ++ c = t at HL hbl hbs ⊢
          refine (k2 t _ hbl).mono ?_
          rintro e w3 ⟨v2, rfl, hB3, h2⟩
          clear k2
          go_wp2_with fail
          refine (h2 _ (Below.refl _ _)).mono ?_
          rintro e w4 ⟨vb, ub, rfl, hL, hB4⟩
          clear h2
          have hA4 := (hA.below hB3).below (hB4.mono (Nat.le_refl _))
          go_wp2_with fail
          refine (k3 va vb ua ub t _ _ _ hbl hA4 hL HL.out.symm).mono ?_
          rintro e w5 ⟨rfl, hB5⟩
          clear k3 hA hA4 hL HL
          go_wp2_with fail
          refine (awake_any _).mono ?_
          rintro e w6 ⟨rfl, hB6⟩
          go_wp2
          go_ret
          exact ⟨by simp, hB1.trans ((hB2.trans ((hB3.trans ((hB4.trans ((hB5.trans (hB6.mono hB5.size)).mono hB4.size)).mono hB3.size)).mono hB2.size)).mono hB1.size)⟩
end Go.Proofs.Ytmiljcoejgdpaaa
