/-
  WHOLE NUMBERS AS A SIDE AND A SIZE: what a call of sign, text, negated, parse, parseBoth gives. Conditions: sizes.
-/
import Derived.Test.YtpmnfgbbkmodpaaGreatDoorRefOps
namespace Go.Proofs.YtpmnfgbbkmodpaaGreatDoor
set_option maxRecDepth 100000
open Go.RowKit Nm
set_option linter.unusedVariables false

/-- a side and a size as a number -/
def vl (b : Bool) (n : Nat) : Int := if b then -(n : Int) else n
/-- the text of a whole number -/
def W (z : Int) : ByteArray := if z < 0 then ⟨#[45]⟩ ++ S z.natAbs else S z.natAbs

theorem is0 {n : Nat} (h : n ≠ 0) : ((S n).toList == [48]) = false := by
  have := eqS (x := n) (y := 0) h
  rw [S_lit (n := 0) (l := [48]) (by decide) (by decide)] at this
  rw [show (⟨[48].toArray⟩ : ByteArray).toList = [48] from toList_data _] at this
  exact this
theorem is00 : ((S 0).toList == [48]) = true := by
  rw [S_lit (n := 0) (l := [48]) (by decide) (by decide), toList_data]; rfl

theorem W_neg {n : Nat} (h : 0 < n) : W (vl true n) = ⟨#[45]⟩ ++ S n := by
  unfold W vl; rw [if_pos (by simp; omega)]; simp
theorem W_pos (n : Nat) : W (vl false n) = S n := by
  unfold W vl; rw [if_neg (by simp)]; simp
theorem vl_zero (b : Bool) : vl b 0 = 0 := by cases b <;> rfl
theorem W_zero : W 0 = S 0 := by unfold W; simp
theorem sn_pos {n : Nat} (h : 0 < n) : (vl false n).sign = 1 := Int.sign_eq_one_of_pos (by simp [vl]; omega)
theorem sn_neg {n : Nat} (h : 0 < n) : (vl true n).sign = -1 := Int.sign_eq_neg_one_of_neg (by simp [vl]; omega)
theorem sn_zero (b : Bool) : (vl b 0).sign = 0 := by rw [vl_zero]; rfl

set_option maxHeartbeats 400000 in
theorem sign_any (b : Bool) (n : Nat) (w : World) :
    Calls Tryz.prog 76 #[.agg #[.bool b, .string (S n)]] w fun e w' => e = .returned (.int .i64 (vl b n).sign) ∧ w' = w.alloc (.cells #[.bool b, .string (S n)] 84) := by
  rcases Nat.eq_zero_or_pos n with h0 | h0
  · subst h0
    have h := is00
    go_enter Tryz.func76, Tryz.ntmps76
    go_wp2
    go_ret
    exact ⟨by rw [sn_zero]; rfl, rfl⟩
  · have h := is0 (n := n) (by omega)
    have HN : Hid _ := h0
    clear h0
    cases b
    · go_enter Tryz.func76, Tryz.ntmps76
      go_wp2
      go_ret
      exact ⟨by rw [sn_pos HN.out]; rfl, rfl⟩
    · go_enter Tryz.func76, Tryz.ntmps76
      go_wp2
      go_ret
      exact ⟨by rw [sn_neg HN.out]; rfl, rfl⟩

theorem add_size (a b : ByteArray) : (a ++ b).size = a.size + b.size := ByteArray.size_append

set_option maxHeartbeats 400000 in
theorem text_num (b : Bool) (n : Nat) (w : World) (hn : tl n ≤ 50000) :
    Calls Tryz.prog 99 #[.agg #[.bool b, .string (S n)]] w fun e w' => e = .returned (.string (W (vl b n))) ∧ w' = (w.alloc (.cells #[.bool b, .string (S n)] 84)).alloc (.cells #[.bool b, .string (S n)] 84) := by
  have hs : (S n).size ≤ 50000 := by rw [S_size]; exact hn
  clear hn
  rcases Nat.eq_zero_or_pos n with h0 | h0
  · subst h0
    go_enter Tryz.func99, Tryz.ntmps99
    go_wp2_with fail
    refine (sign_any b 0 _).mono ?_
    rintro e w1 ⟨rfl, rfl⟩
    rw [sn_zero]
    go_wp2
    go_ret
    exact ⟨by rw [vl_zero, W_zero]; rfl, rfl⟩
  · have HN : Hid _ := h0
    clear h0
    cases b
    · go_enter Tryz.func99, Tryz.ntmps99
      go_wp2_with fail
      refine (sign_any _ n _).mono ?_
      rintro e w1 ⟨rfl, rfl⟩
      rw [sn_pos HN.out]
      go_wp2
      go_ret
      exact ⟨by rw [W_pos]; rfl, rfl⟩
    · go_enter Tryz.func99, Tryz.ntmps99
      go_wp2_with fail
      refine (sign_any _ n _).mono ?_
      rintro e w1 ⟨rfl, rfl⟩
      rw [sn_neg HN.out]
      go_wp2
      go_ret
      exact ⟨by rw [W_neg HN.out]; rfl, rfl⟩

set_option maxHeartbeats 400000 in
theorem negated_any (b : Bool) (s : ByteArray) (w : World) :
    Calls Tryz.prog 98 #[.agg #[.bool b, .string s]] w fun e w' => e = .returned (.agg #[.bool (!b), .string s]) ∧ w' = (w.alloc (.cells #[.bool b, .string s] 84)).alloc (.cells #[.bool (!b), .string s] 84) := by
  go_enter Tryz.func98, Tryz.ntmps98
  go_wp2
  refine bodyPost_ret (v := .agg #[.bool (!b), .string s]) (by simp [results, Tryz.results98, go_sem]) rfl ⟨rfl, rfl⟩

/-- a text with a minus ahead -/
def mn (s : ByteArray) : Bool := decide (1 ≤ s.size) && ((s.extract 0 1).toList == [45])
/-- what stands behind it -/
def rest (s : ByteArray) : ByteArray := s.extract 1 s.size

set_option maxHeartbeats 400000 in
theorem has_any (s : ByteArray) (w : World) (hs : s.size ≤ 100000) :
    Calls Tryz.prog 112 #[.string s, .string ⟨#[45]⟩] w fun e w' => e = .returned (.bool (mn s)) ∧ w' = w := by
  by_cases h : 1 ≤ s.size
  · have HR : Hid (mn s = ((s.extract 0 1).toList == [45])) := by unfold Hid mn; rw [decide_eq_true h]; rfl
    go_enter Tryz.func112, Tryz.ntmps112
    go_wp2
    go_ret
    exact ⟨by rw [HR.out]; rfl, rfl⟩
  · have HR : Hid (mn s = false) := by unfold Hid mn; rw [decide_eq_false h]; rfl
    go_enter Tryz.func112, Tryz.ntmps112
    go_wp2
    go_ret
    exact ⟨by rw [HR.out]; rfl, rfl⟩

set_option maxHeartbeats 400000 in
theorem cut_yes (s : ByteArray) (w : World) (hs : s.size ≤ 100000) (h : mn s = true) :
    Calls Tryz.prog 95 #[.string s, .string ⟨#[45]⟩] w fun e w' => e = .returned (.tuple #[.string (rest s), .bool true]) ∧ w' = w := by
  have h1 : 1 ≤ s.size := by unfold mn at h; simp at h; exact h.1
  have HM : Hid _ := h
  clear h
  go_enter Tryz.func95, Tryz.ntmps95
  go_wp2_with (first | (go_at_call 112; refine (has_any s _ hs).mono ?_; rintro e w1 ⟨rfl, rfl⟩; rw [show mn s = true from HM.out]) | go_in)
  go_ret2
  exact ⟨rfl, rfl⟩

set_option maxHeartbeats 400000 in
theorem cut_no (s : ByteArray) (w : World) (hs : s.size ≤ 100000) (h : mn s = false) :
    Calls Tryz.prog 95 #[.string s, .string ⟨#[45]⟩] w fun e w' => e = .returned (.tuple #[.string s, .bool false]) ∧ w' = w := by
  have HM : Hid _ := h
  clear h
  go_enter Tryz.func95, Tryz.ntmps95
  go_wp2_with (first | (go_at_call 112; refine (has_any s _ hs).mono ?_; rintro e w1 ⟨rfl, rfl⟩; rw [show mn s = false from HM.out]) | go_in)
  go_ret2
  exact ⟨rfl, rfl⟩

theorem rest_size (s : ByteArray) : (rest s).size ≤ s.size := by unfold rest; simp [ByteArray.size_extract]

set_option maxHeartbeats 400000 in
theorem parse_neg (s : ByteArray) (w : World) (hs : s.size ≤ 100000) (h : mn s = true) (hr : rt (rest s).data.toList = true) (h0 : ((rest s).toList == [48]) = false) :
    Calls Tryz.prog 75 #[.string s] w fun e w' => e = .returned (.tuple #[.agg #[.bool true, .string (rest s)], .bool true]) ∧ w' = w.alloc (.cells #[.bool true, .string (rest s)] 84) := by
  have HM : Hid _ := h
  have HR : Hid _ := hr
  have hz := rest_size s
  clear h hr
  go_enter Tryz.func75, Tryz.ntmps75
  go_wp2_with fail
  refine (cut_yes s _ hs HM.out).mono ?_
  rintro e w1 ⟨rfl, rfl⟩
  go_wp2_with fail
  refine (right_is (rest s) true _ (by omega) HR.out).mono ?_
  rintro e w1 ⟨rfl, rfl⟩
  go_wp2
  refine bodyPost_ret (v := .tuple #[.agg #[.bool true, .string (rest s)], .bool true]) (by simp [results, Tryz.results75, go_sem]) rfl ⟨rfl, rfl⟩

set_option maxHeartbeats 400000 in
theorem parse_negz (s : ByteArray) (w : World) (hs : s.size ≤ 100000) (h : mn s = true) (hr : rt (rest s).data.toList = true) (h0 : ((rest s).toList == [48]) = true) :
    Calls Tryz.prog 75 #[.string s] w fun e w' => e = .returned (.tuple #[.agg #[.bool false, .string ⟨#[]⟩], .bool false]) ∧ w' = w.alloc (.cells #[.bool false, .string ⟨#[]⟩] 84) := by
  have HM : Hid _ := h
  have HR : Hid _ := hr
  have hz := rest_size s
  clear h hr
  go_enter Tryz.func75, Tryz.ntmps75
  go_wp2_with fail
  refine (cut_yes s _ hs HM.out).mono ?_
  rintro e w1 ⟨rfl, rfl⟩
  go_wp2_with fail
  refine (right_is (rest s) true _ (by omega) HR.out).mono ?_
  rintro e w1 ⟨rfl, rfl⟩
  go_wp2
  refine bodyPost_ret (v := .tuple #[.agg #[.bool false, .string ⟨#[]⟩], .bool false]) (by simp [results, Tryz.results75, go_sem]) rfl ⟨rfl, rfl⟩

set_option maxHeartbeats 400000 in
theorem parse_negb (s : ByteArray) (w : World) (hs : s.size ≤ 100000) (h : mn s = true) (hr : rt (rest s).data.toList = false) :
    Calls Tryz.prog 75 #[.string s] w fun e w' => e = .returned (.tuple #[.agg #[.bool false, .string ⟨#[]⟩], .bool false]) ∧ w' = w.alloc (.cells #[.bool false, .string ⟨#[]⟩] 84) := by
  have HM : Hid _ := h
  have HR : Hid _ := hr
  have hz := rest_size s
  clear h hr
  go_enter Tryz.func75, Tryz.ntmps75
  go_wp2_with fail
  refine (cut_yes s _ hs HM.out).mono ?_
  rintro e w1 ⟨rfl, rfl⟩
  go_wp2_with fail
  refine (right_is (rest s) false _ (by omega) HR.out).mono ?_
  rintro e w1 ⟨rfl, rfl⟩
  go_wp2
  refine bodyPost_ret (v := .tuple #[.agg #[.bool false, .string ⟨#[]⟩], .bool false]) (by simp [results, Tryz.results75, go_sem]) rfl ⟨rfl, rfl⟩

set_option maxHeartbeats 400000 in
theorem parse_pos (s : ByteArray) (w : World) (hs : s.size ≤ 100000) (h : mn s = false) (hr : rt s.data.toList = true) :
    Calls Tryz.prog 75 #[.string s] w fun e w' => e = .returned (.tuple #[.agg #[.bool false, .string s], .bool true]) ∧ w' = w.alloc (.cells #[.bool false, .string s] 84) := by
  have HM : Hid _ := h
  have HR : Hid _ := hr
  have hz := rest_size s
  clear h hr
  go_enter Tryz.func75, Tryz.ntmps75
  go_wp2_with fail
  refine (cut_no s _ hs HM.out).mono ?_
  rintro e w1 ⟨rfl, rfl⟩
  go_wp2_with fail
  refine (right_is s true _ (by omega) HR.out).mono ?_
  rintro e w1 ⟨rfl, rfl⟩
  go_wp2
  refine bodyPost_ret (v := .tuple #[.agg #[.bool false, .string s], .bool true]) (by simp [results, Tryz.results75, go_sem]) rfl ⟨rfl, rfl⟩

set_option maxHeartbeats 400000 in
theorem parse_posb (s : ByteArray) (w : World) (hs : s.size ≤ 100000) (h : mn s = false) (hr : rt s.data.toList = false) :
    Calls Tryz.prog 75 #[.string s] w fun e w' => e = .returned (.tuple #[.agg #[.bool false, .string ⟨#[]⟩], .bool false]) ∧ w' = w.alloc (.cells #[.bool false, .string ⟨#[]⟩] 84) := by
  have HM : Hid _ := h
  have HR : Hid _ := hr
  have hz := rest_size s
  clear h hr
  go_enter Tryz.func75, Tryz.ntmps75
  go_wp2_with fail
  refine (cut_no s _ hs HM.out).mono ?_
  rintro e w1 ⟨rfl, rfl⟩
  go_wp2_with fail
  refine (right_is s false _ (by omega) HR.out).mono ?_
  rintro e w1 ⟨rfl, rfl⟩
  go_wp2
  refine bodyPost_ret (v := .tuple #[.agg #[.bool false, .string ⟨#[]⟩], .bool false]) (by simp [results, Tryz.results75, go_sem]) rfl ⟨rfl, rfl⟩

/-- is a text a whole number? -/
def wh (s : ByteArray) : Bool := if mn s then rt (rest s).data.toList && !((rest s).toList == [48]) else rt s.data.toList

theorem first_data (s : ByteArray) : (s.extract 0 1).toList = s.data.toList.take 1 := by
  rw [toList_data]; simp [ByteArray.data_extract]
theorem rest_data (s : ByteArray) : (rest s).data.toList = s.data.toList.drop 1 := by
  unfold rest; simp only [ByteArray.data_extract, Array.toList_extract, List.extract_eq_take_drop]
  rw [List.take_of_length_le]
  rw [List.length_drop, Array.length_toList]; exact Nat.le_refl _
theorem mn_iff (s : ByteArray) : mn s = true ↔ s.data.toList.head? = some 45 := by
  unfold mn
  rw [first_data, ← len_data]
  cases s.data.toList with
  | nil => simp
  | cons c l => simp
theorem ma_data (s : ByteArray) : ((⟨#[45]⟩ : ByteArray) ++ s).data.toList = 45 :: s.data.toList := by simp [ByteArray.data_append]
theorem ba_ext {a b : ByteArray} (h : a.data.toList = b.data.toList) : a = b := by
  cases a with | mk x => cases b with | mk y => simp at h; rw [h]
theorem mn_ma (s : ByteArray) : mn ((⟨#[45]⟩ : ByteArray) ++ s) = true := by rw [mn_iff, ma_data]; rfl
theorem rest_ma (s : ByteArray) : rest ((⟨#[45]⟩ : ByteArray) ++ s) = s := ba_ext (by rw [rest_data, ma_data]; rfl)
theorem of_mn {s : ByteArray} (h : mn s = true) : s = (⟨#[45]⟩ : ByteArray) ++ rest s := by
  apply ba_ext
  rw [ma_data, rest_data]
  rw [mn_iff] at h
  cases hl : s.data.toList with
  | nil => rw [hl] at h; cases h
  | cons c l => rw [hl] at h; simp at h; simp [h]
theorem mn_rt {s : ByteArray} (h : rt s.data.toList = true) : mn s = false := by
  cases hm : mn s with
  | false => rfl
  | true =>
    rw [mn_iff] at hm
    have hd := rt_dg h
    cases hl : s.data.toList with
    | nil => rw [hl] at hm; cases hm
    | cons c l =>
      rw [hl] at hm hd
      simp at hm
      have := hd c (by simp)
      rw [hm] at this
      exact absurd this.1 (by decide)
theorem mn_S (n : Nat) : mn (S n) = false := mn_rt (rt_S n)

theorem vl_W (z : Int) : vl (decide (z < 0)) z.natAbs = z := by
  unfold vl
  by_cases h : z < 0
  · simp [h]; omega
  · simp [h]; omega
theorem W_ng {z : Int} (h : z < 0) : W z = ⟨#[45]⟩ ++ S z.natAbs := by unfold W; rw [if_pos h]
theorem W_nn {z : Int} (h : ¬ z < 0) : W z = S z.natAbs := by unfold W; rw [if_neg h]
theorem W_size (z : Int) : (W z).size ≤ tl z.natAbs + 1 := by
  unfold W; split
  · rw [ByteArray.size_append, S_size]; simp [ByteArray.size]; omega
  · rw [S_size]; omega
theorem tl_W (z : Int) : tl z.natAbs ≤ (W z).size := by
  unfold W; split
  · rw [ByteArray.size_append, S_size]; omega
  · rw [S_size]; omega
theorem wh_W (z : Int) : wh (W z) = true := by
  unfold wh
  by_cases h : z < 0
  · rw [W_ng h, mn_ma, rest_ma, rt_S, is0 (by omega)]; rfl
  · rw [W_nn h, mn_S, rt_S]; rfl
theorem W_of {s : ByteArray} (h : wh s = true) : ∃ z, s = W z := by
  unfold wh at h
  cases hm : mn s with
  | false =>
    rw [hm] at h
    refine ⟨dv s.data.toList, ?_⟩
    rw [W_nn (by omega)]
    exact S_of h
  | true =>
    rw [hm] at h
    have h' : rt (rest s).data.toList = true ∧ ((rest s).toList == [48]) = false := by
      simp only [if_true, Bool.and_eq_true, Bool.not_eq_true'] at h; exact h
    have e := S_of h'.1
    have hz : dv (rest s).data.toList ≠ 0 := by
      intro c
      rw [c] at e
      have := h'.2
      rw [e, is00] at this
      cases this
    refine ⟨-(dv (rest s).data.toList : Int), ?_⟩
    rw [W_ng (by omega), Int.natAbs_neg, Int.natAbs_natCast, ← e]
    exact of_mn hm
theorem W_inj {x y : Int} (h : W x = W y) : x = y := by
  have hm : mn (W x) = mn (W y) := by rw [h]
  have hr : rest (W x) = rest (W y) := by rw [h]
  by_cases a : x < 0 <;> by_cases b : y < 0
  · rw [W_ng a, W_ng b, rest_ma, rest_ma] at hr; have := S_inj hr; omega
  · rw [W_ng a, W_nn b, mn_ma, mn_S] at hm; cases hm
  · rw [W_nn a, W_ng b, mn_ma, mn_S] at hm; cases hm
  · rw [W_nn a, W_nn b] at h; have := S_inj h; omega
theorem eqW {x y : Int} (h : x ≠ y) : ((W x).toList == (W y).toList) = false := by
  rw [toList_data, toList_data]
  apply beq_eq_false_iff_ne.2
  exact fun e => h (W_inj (ba_ext e))

theorem parse_W (z : Int) (w : World) (hz : tl z.natAbs ≤ 50000) :
    Calls Tryz.prog 75 #[.string (W z)] w fun e w' => e = .returned (.tuple #[.agg #[.bool (decide (z < 0)), .string (S z.natAbs)], .bool true]) ∧ w' = w.alloc (.cells #[.bool (decide (z < 0)), .string (S z.natAbs)] 84) := by
  have hs := W_size z
  by_cases h : z < 0
  · have e : rest (W z) = S z.natAbs := by rw [W_ng h, rest_ma]
    have := parse_neg (W z) w (by omega) (by rw [W_ng h, mn_ma]) (by rw [e, rt_S]) (by rw [e, is0 (by omega)])
    rw [e] at this
    rw [decide_eq_true h]
    exact this
  · have e : W z = S z.natAbs := W_nn h
    have := parse_pos (W z) w (by omega) (by rw [e, mn_S]) (by rw [e, rt_S])
    rw [e] at this
    rw [decide_eq_false h, e]
    exact this

theorem parse_no (s : ByteArray) (w : World) (hs : s.size ≤ 100000) (h : wh s = false) :
    Calls Tryz.prog 75 #[.string s] w fun e w' => e = .returned (.tuple #[.agg #[.bool false, .string ⟨#[]⟩], .bool false]) ∧ w' = w.alloc (.cells #[.bool false, .string ⟨#[]⟩] 84) := by
  unfold wh at h
  cases hm : mn s with
  | false =>
    rw [hm] at h
    exact parse_posb s w hs hm h
  | true =>
    rw [hm] at h
    cases hr : rt (rest s).data.toList with
    | false => exact parse_negb s w hs hm hr
    | true =>
      rw [hr] at h
      exact parse_negz s w hs hm hr (by simpa using h)

/-- any text, parsed -/
theorem parse_all (s : ByteArray) (w : World) (hs : s.size ≤ 40000) :
    Calls Tryz.prog 75 #[.string s] w fun e w' => ∃ b t, e = .returned (.tuple #[.agg #[.bool b, .string t], .bool (wh s)]) ∧ w' = w.alloc (.cells #[.bool b, .string t] 84) := by
  cases h : wh s with
  | false => exact (parse_no s w (by omega) h).mono fun e w' hh => ⟨_, _, hh⟩
  | true =>
    obtain ⟨z, rfl⟩ := W_of h
    exact (parse_W z w (by have := tl_W z; omega)).mono fun e w' hh => ⟨_, _, hh⟩

end Go.Proofs.YtpmnfgbbkmodpaaGreatDoor
