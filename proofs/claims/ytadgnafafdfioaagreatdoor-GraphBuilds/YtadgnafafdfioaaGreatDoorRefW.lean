/-
  THE DOCUMENT'S WHOLE NUMBERS. Conditions: each theorem's own.
-/
import Derived.Test.YtadgnafafdfioaaGreatDoorWhole
namespace Go.Proofs.YtadgnafafdfioaaGreatDoor
section
set_option maxRecDepth 100000
open Go.RowKit Nm
set_option linter.unusedVariables false

theorem mn_at {s : ByteArray} (h : 0 < s.size) : mn s = (((s[0].toNat : Nat) : Int) == 45) := by
  have hh := head_eq h
  have := mn_iff s
  rw [hh] at this
  by_cases c : s[0] = 45
  · rw [this.2 (by rw [c]), c]; rfl
  · have h1 : mn s = false := by
      cases hm : mn s with
      | false => rfl
      | true => exact absurd (Option.some.inj (this.1 hm)) c
    rw [h1]
    symm
    apply beq_eq_false_iff_ne.2
    intro e
    apply c
    have e2 : s[0].toNat = 45 := by omega
    exact UInt8.toNat_inj.1 e2

set_option maxHeartbeats 400000 in
theorem refSize_yes (s : ByteArray) (w : World) (hs : s.size ≤ 2000000) (hm : mn s = true) :
    Calls Tryz.prog 51 #[.string s] w fun e w' => e = .returned (.string (rest s)) ∧ w' = w := by
  have h0 : 0 < s.size := by unfold mn at hm; simp at hm; omega
  have h1 := mn_at h0
  rw [hm] at h1
  have h2 := h1.symm
  clear h1 hm
  go_enter Tryz.func51, Tryz.ntmps51
  go_wp2
  go_ret
  exact ⟨rfl, rfl⟩

set_option maxHeartbeats 400000 in
theorem refSize_no (s : ByteArray) (w : World) (hs : s.size ≤ 2000000) (hm : mn s = false) :
    Calls Tryz.prog 51 #[.string s] w fun e w' => e = .returned (.string s) ∧ w' = w := by
  rcases Nat.eq_zero_or_pos s.size with h0 | h0
  · go_enter Tryz.func51, Tryz.ntmps51
    go_wp2
    go_ret
    exact ⟨rfl, rfl⟩
  · have h1 := mn_at h0
    rw [hm] at h1
    have h2 := h1.symm
    clear h1 hm
    go_enter Tryz.func51, Tryz.ntmps51
    go_wp2
    go_ret
    exact ⟨rfl, rfl⟩

/-- the size of a text -/
def sz (s : ByteArray) : ByteArray := if mn s then rest s else s
theorem refSize_any (s : ByteArray) (w : World) (hs : s.size ≤ 2000000) :
    Calls Tryz.prog 51 #[.string s] w fun e w' => e = .returned (.string (sz s)) ∧ w' = w := by
  unfold sz
  cases hm : mn s with
  | false => exact refSize_no s w hs hm
  | true => exact refSize_yes s w hs hm
theorem sz_size (s : ByteArray) : (sz s).size ≤ s.size := by
  unfold sz; split
  · exact rest_size s
  · exact Nat.le_refl _
theorem sz_W (z : Int) : sz (W z) = S z.natAbs := by
  unfold sz
  by_cases h : z < 0
  · rw [W_ng h, mn_ma, rest_ma]; rfl
  · rw [W_nn h, mn_S]; rfl

theorem wh_sz (s : ByteArray) : wh s = (rt (sz s).data.toList && !(s.toList == [45, 48])) := by
  unfold wh sz
  cases hm : mn s with
  | true =>
    simp only [if_true]
    have e : (s.toList == [45, 48]) = ((rest s).toList == [48]) := by
      conv => lhs; rw [of_mn hm]
      rw [toList_data, ma_data, toList_data]
      rfl
    rw [e]
  | false =>
    have e : (s.toList == [45, 48]) = false := by
      apply beq_eq_false_iff_ne.2
      intro c
      rw [toList_data] at c
      have := (mn_iff s).2 (by rw [c]; rfl)
      rw [this] at hm; cases hm
    rw [e]; simp

set_option maxHeartbeats 400000 in
theorem refRightw_is (s : ByteArray) (v : Bool) (w : World) (hs : s.size ≤ 2000000) (h : wh s = v) :
    Calls Tryz.prog 40 #[.string s] w fun e w' => e = .returned (.bool v) ∧ w' = w := by
  subst h
  have HZ : Hid _ := sz_size s
  cases hr : rt (sz s).data.toList with
  | false =>
    have HR : Hid _ := hr
    have HW : Hid (wh s = false) := by unfold Hid; rw [wh_sz, hr]; rfl
    clear hr
    go_enter Tryz.func40, Tryz.ntmps40
    go_wp2_with fail
    refine (refSize_any s _ hs).mono ?_
    rintro e w1 ⟨rfl, rfl⟩
    go_wp2_with fail
    refine (refRight_is (sz s) false _ (by have := HZ.out; omega) HR.out).mono ?_
    rintro e w1 ⟨rfl, rfl⟩
    go_wp2
    go_ret
    exact ⟨by rw [HW.out]; rfl, rfl⟩
  | true =>
    have HR : Hid _ := hr
    have HW : Hid (wh s = !(s.toList == [45, 48])) := by unfold Hid; rw [wh_sz, hr]; rfl
    clear hr
    go_enter Tryz.func40, Tryz.ntmps40
    go_wp2_with fail
    refine (refSize_any s _ hs).mono ?_
    rintro e w1 ⟨rfl, rfl⟩
    go_wp2_with fail
    refine (refRight_is (sz s) true _ (by have := HZ.out; omega) HR.out).mono ?_
    rintro e w1 ⟨rfl, rfl⟩
    go_wp2
    go_ret
    exact ⟨by rw [HW.out]; rfl, rfl⟩

theorem mn_W (z : Int) : mn (W z) = decide (z < 0) := by
  by_cases h : z < 0
  · rw [W_ng h, mn_ma, decide_eq_true h]
  · rw [W_nn h, mn_S, decide_eq_false h]

set_option maxHeartbeats 400000 in
theorem refSign_W (z : Int) (w : World) (hz : tl z.natAbs ≤ 250000) :
    Calls Tryz.prog 52 #[.string (W z)] w fun e w' => e = .returned (.int .i64 z.sign) ∧ w' = w := by
  have h0 := W_gt z
  have h1 := mn_at h0
  rw [mn_W] at h1
  have hs : (W z).size ≤ 300000 := by have := W_size z; omega
  clear hz
  rcases Int.lt_trichotomy z 0 with a | a | a
  · rw [decide_eq_true a] at h1
    have h2 := h1.symm
    have HV : Hid _ := Int.sign_eq_neg_one_of_neg a
    clear h1 a
    go_enter Tryz.func52, Tryz.ntmps52
    go_wp2
    go_ret
    exact ⟨by rw [HV.out]; rfl, rfl⟩
  · subst a
    rw [decide_eq_false (by omega)] at h1
    have h2 := h1.symm
    have h3 : ((W 0).toList == [48]) = true := by rw [W_zero]; exact is00
    clear h1
    go_enter Tryz.func52, Tryz.ntmps52
    go_wp2
    go_ret
    exact ⟨rfl, rfl⟩
  · rw [decide_eq_false (by omega)] at h1
    have h2 := h1.symm
    have h3 : ((W z).toList == [48]) = false := by rw [W_nn (by omega)]; exact is0 (by omega)
    have HV : Hid _ := Int.sign_eq_one_of_pos a
    clear h1 a
    go_enter Tryz.func52, Tryz.ntmps52
    go_wp2
    go_ret
    exact ⟨by rw [HV.out]; rfl, rfl⟩

set_option maxHeartbeats 400000 in
theorem ofw_any (n : Nat) (k : Int) (w : World) (hn : tl n ≤ 250000) :
    Calls Tryz.prog 70 #[.string (S n), .int .i64 k] w fun e w' => e = .returned (.string (W (vl (decide (k < 0)) n))) ∧ w' = w := by
  have hs : (S n).size ≤ 250000 := by rw [S_size]; exact hn
  clear hn
  by_cases hk : k < 0
  · rw [decide_eq_true hk]
    rcases Nat.eq_zero_or_pos n with h0 | h0
    · subst h0
      have h3 := is00
      go_enter Tryz.func70, Tryz.ntmps70
      go_wp2
      go_ret
      exact ⟨by rw [vl_zero, W_zero]; rfl, rfl⟩
    · have HN : Hid _ := h0
      have h3 := is0 (n := n) (by omega)
      clear h0
      go_enter Tryz.func70, Tryz.ntmps70
      go_wp2
      go_ret
      exact ⟨by rw [W_neg HN.out]; rfl, rfl⟩
  · rw [decide_eq_false hk]
    go_enter Tryz.func70, Tryz.ntmps70
    go_wp2
    go_ret
    exact ⟨by rw [W_pos]; rfl, rfl⟩

theorem ofw_is (n : Nat) (k z : Int) (w : World) (hn : tl n ≤ 250000) (h : vl (decide (k < 0)) n = z) :
    Calls Tryz.prog 70 #[.string (S n), .int .i64 k] w fun e w' => e = .returned (.string (W z)) ∧ w' = w := by
  rw [← h]; exact ofw_any n k w hn

theorem sn_lt (z : Int) : z.sign < 0 ↔ z < 0 := by
  rcases Int.lt_trichotomy z 0 with a | a | a
  · rw [Int.sign_eq_neg_one_of_neg a]; omega
  · subst a; simp
  · rw [Int.sign_eq_one_of_pos a]; omega
theorem sn_gt (z : Int) : 0 < z.sign ↔ 0 < z := by
  rcases Int.lt_trichotomy z 0 with a | a | a
  · rw [Int.sign_eq_neg_one_of_neg a]; omega
  · subst a; simp
  · rw [Int.sign_eq_one_of_pos a]; omega

set_option maxHeartbeats 400000 in
theorem refNeg_W (z : Int) (w : World) (hz : tl z.natAbs ≤ 250000) :
    Calls Tryz.prog 53 #[.string (W z)] w fun e w' => e = .returned (.string (W (-z))) ∧ w' = w := by
  have HZ : Hid _ := hz
  have hs : (W z).size ≤ 300000 := by have := W_size z; omega
  have HV : Hid (vl (decide (-z.sign < 0)) z.natAbs = -z) := by
    unfold Hid vl
    have := sn_gt z
    by_cases h : 0 < z
    · rw [decide_eq_true (by omega)]; simp; omega
    · rw [decide_eq_false (by omega)]; simp; omega
  have hb := sn_bd z
  clear hz
  go_enter Tryz.func53, Tryz.ntmps53
  go_wp2_with fail
  refine (refSize_any (W z) _ (by omega)).mono ?_
  rintro e w1 ⟨rfl, rfl⟩
  rw [sz_W]
  go_wp2_with fail
  refine (refSign_W z _ HZ.out).mono ?_
  rintro e w1 ⟨rfl, rfl⟩
  go_wp2_with fail
  refine (ofw_is z.natAbs _ (-z) _ HZ.out HV.out).mono ?_
  rintro e w1 ⟨rfl, rfl⟩
  go_wp2
  go_ret
  exact ⟨rfl, rfl⟩
theorem sn_prod (x y : Int) : -1 ≤ x.sign * y.sign ∧ x.sign * y.sign ≤ 1 := by
  rw [← Int.sign_mul]; exact sn_bd _
theorem wrap_sn (x y : Int) : IntKind.i64.wrap (x.sign * y.sign) = x.sign * y.sign := by
  rw [IntKind.wrap_i64]; have := sn_prod x y; omega

/-- both on one side, or one of them 0 -/
theorem side_same {x y : Int} (h : 0 ≤ x.sign * y.sign) : vl (decide (x.sign + y.sign < 0)) (x.natAbs + y.natAbs) = x + y := by
  rw [← Int.sign_mul] at h
  have hp : 0 ≤ x * y := by
    rcases Int.lt_or_le (x * y) 0 with c | c
    · rw [Int.sign_eq_neg_one_of_neg c] at h; omega
    · exact c
  unfold vl
  rcases Int.lt_trichotomy x 0 with a | a | a
  · have hy : y ≤ 0 := by
      rcases Int.lt_or_le 0 y with c | c
      · have := Int.mul_neg_of_neg_of_pos a c; omega
      · exact c
    have := sn_gt y
    have := sn_bd y
    rw [Int.sign_eq_neg_one_of_neg a, decide_eq_true (by omega)]; simp; omega
  · subst a
    have h2 := sn_lt y
    by_cases c : y < 0
    · rw [decide_eq_true (by simp; omega)]; simp; omega
    · rw [decide_eq_false (by simp; omega)]; simp; omega
  · have hy : 0 ≤ y := by
      rcases Int.lt_or_le y 0 with c | c
      · have := Int.mul_neg_of_pos_of_neg a c; omega
      · exact c
    have := sn_lt y
    have := sn_bd y
    rw [Int.sign_eq_one_of_pos a, decide_eq_false (by omega)]; simp; omega

/-- on either side -/
theorem side_other {x y : Int} (h : x.sign * y.sign < 0) : (x < 0 ∧ 0 < y) ∨ (0 < x ∧ y < 0) := by
  rw [← Int.sign_mul, sn_lt] at h
  rcases Int.lt_trichotomy x 0 with a | a | a
  · rcases Int.lt_or_le 0 y with c | c
    · exact Or.inl ⟨a, c⟩
    · have := Int.mul_nonneg_of_nonpos_of_nonpos (Int.le_of_lt a) c; omega
  · subst a; simp at h
  · rcases Int.lt_or_le y 0 with c | c
    · exact Or.inr ⟨a, c⟩
    · have := Int.mul_nonneg (Int.le_of_lt a) c; omega
theorem side_ge {x y : Int} (h : x.sign * y.sign < 0) (hl : y.natAbs ≤ x.natAbs) : vl (decide (x.sign < 0)) (x.natAbs - y.natAbs) = x + y := by
  unfold vl
  rcases side_other h with ⟨a, b⟩ | ⟨a, b⟩
  · rw [decide_eq_true ((sn_lt x).2 a)]; simp; omega
  · rw [decide_eq_false (fun c => by have := (sn_lt x).1 c; omega)]; simp; omega
theorem side_lt {x y : Int} (h : x.sign * y.sign < 0) (hl : x.natAbs < y.natAbs) : vl (decide (y.sign < 0)) (y.natAbs - x.natAbs) = x + y := by
  unfold vl
  rcases side_other h with ⟨a, b⟩ | ⟨a, b⟩
  · rw [decide_eq_false (fun c => by have := (sn_lt y).1 c; omega)]; simp; omega
  · rw [decide_eq_true ((sn_lt y).2 b)]; simp; omega
theorem side_mul (x y : Int) : vl (decide (x.sign * y.sign < 0)) (x.natAbs * y.natAbs) = x * y := by
  unfold vl
  have e : x.natAbs * y.natAbs = (x * y).natAbs := (Int.natAbs_mul x y).symm
  rw [e, ← Int.sign_mul]
  have := sn_lt (x * y)
  by_cases c : x * y < 0
  · rw [decide_eq_true (this.2 c)]; simp; omega
  · rw [decide_eq_false (fun d => c (this.1 d))]; simp; omega

end
end Go.Proofs.YtadgnafafdfioaaGreatDoor
namespace Go.Proofs.YtadgnafafdfioaaGreatDoor
section
set_option maxRecDepth 100000
open Go.RowKit Nm
set_option linter.unusedVariables false

/-- short enough, and a whole number -/
def ok (s : ByteArray) : Bool := decide (s.size ≤ 100) && wh s

theorem W_lit {l : List UInt8} {n : Nat} (h : rt l = true) (e : dv l = n) : W n = ⟨l.toArray⟩ := by
  rw [W_nn (by omega), Int.natAbs_natCast]; exact S_lit h e
theorem W_nlit {l : List UInt8} {n : Nat} (h : rt l = true) (e : dv l = n) (h0 : 0 < n) : W (-(n : Int)) = ⟨(45 :: l).toArray⟩ := by
  rw [W_ng (by omega), Int.natAbs_neg, Int.natAbs_natCast, S_lit h e]
  apply ba_ext; rw [ma_data]

theorem tl_small {n : Nat} (h : n < 10) : tl n ≤ 1 := tl_le (by simpa using h) (by omega)

theorem wh7 : wh ⟨#[45, 55]⟩ = true := by
  rw [← show W (-7) = ⟨#[45, 55]⟩ from W_nlit (l := [55]) (n := 7) (by decide) (by decide) (by omega)]; exact wh_W _
theorem wh0 : wh ⟨#[45, 48]⟩ = false := by
  rw [wh_sz]
  rw [show ((⟨#[45, 48]⟩ : ByteArray).toList == [45, 48]) = true from by rw [toList_data]; rfl]
  simp

theorem tw_add (x y : Int) : tl (x + y).natAbs ≤ tl x.natAbs + tl y.natAbs :=
  Nat.le_trans (tl_mono (Int.natAbs_add_le x y)) (tl_add _ _)
theorem tw_sub (x y : Int) : tl (x - y).natAbs ≤ tl x.natAbs + tl y.natAbs :=
  Nat.le_trans (tl_mono (Int.natAbs_sub_le x y)) (tl_add _ _)
theorem tw_mul (x y : Int) : tl (x * y).natAbs ≤ tl x.natAbs + tl y.natAbs := by rw [Int.natAbs_mul]; exact tl_mul _ _
theorem tw_neg (x : Int) : tl (-x).natAbs = tl x.natAbs := by rw [Int.natAbs_neg]
theorem tw_of {z : Int} (h : (W z).size ≤ 100) : tl z.natAbs ≤ 100 := Nat.le_trans (tl_W z) h
end
end Go.Proofs.YtadgnafafdfioaaGreatDoor
