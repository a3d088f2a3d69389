/-
  RATIONALS AND THEIR TEXTS, plain. No conditions.
-/
import Derived.Test.YtadgnafafdfioaaGreatDoorWhole
namespace Go.Proofs.YtadgnafafdfioaaGreatDoor
section
set_option maxRecDepth 100000
open Go.RowKit Nm
set_option linter.unusedVariables false

/-- the text of a rational -/
def R (r : Rat) : ByteArray := if r.den = 1 then W r.num else W r.num ++ ⟨#[47]⟩ ++ S r.den

theorem W_data (z : Int) : (W z).data.toList = if z < 0 then 45 :: tx z.natAbs else tx z.natAbs := by
  unfold W; split
  · rw [ma_data, S_data]
  · rw [S_data]
theorem no47_tx (n : Nat) : ∀ c, c ∈ tx n → c ≠ 47 := fun c hc e => by
  have := (rt_dg (rt_tx n)) c hc
  rw [e] at this; exact absurd this.1 (by decide)
theorem no47_W (z : Int) : ∀ c, c ∈ (W z).data.toList → c ≠ 47 := by
  intro c hc
  rw [W_data] at hc
  split at hc
  · rcases List.mem_cons.1 hc with h | h
    · rw [h]; decide
    · exact no47_tx _ c h
  · exact no47_tx _ c hc

/-- ahead of the first stroke -/
def ahead (l : List UInt8) : List UInt8 := l.takeWhile (fun c => !(c == 47))
/-- behind the first stroke -/
def behind (l : List UInt8) : List UInt8 := (l.dropWhile (fun c => !(c == 47))).drop 1
/-- is there one? -/
def stroke (l : List UInt8) : Bool := l.any (fun c => c == 47)

theorem ahead_none {l : List UInt8} (h : ∀ c, c ∈ l → c ≠ 47) : ahead l = l := by
  unfold ahead
  induction l with
  | nil => rfl
  | cons c l ih =>
    have hc : (c == 47) = false := beq_eq_false_iff_ne.2 (h c (by simp))
    rw [List.takeWhile_cons, hc]
    simp only [Bool.not_false, if_true]
    rw [ih (fun d hd => h d (by simp [hd]))]
theorem drop_none {l : List UInt8} (h : ∀ c, c ∈ l → c ≠ 47) (m : List UInt8) : (l ++ m).dropWhile (fun c => !(c == 47)) = m.dropWhile (fun c => !(c == 47)) := by
  induction l with
  | nil => rfl
  | cons c l ih =>
    have hc : (c == 47) = false := beq_eq_false_iff_ne.2 (h c (by simp))
    rw [List.cons_append, List.dropWhile_cons, hc]
    simp only [Bool.not_false, if_true]
    exact ih (fun d hd => h d (by simp [hd]))
theorem ahead_app {l : List UInt8} (h : ∀ c, c ∈ l → c ≠ 47) (m : List UInt8) : ahead (l ++ 47 :: m) = l := by
  induction l with
  | nil => rfl
  | cons c l ih =>
    have hc : (c == 47) = false := beq_eq_false_iff_ne.2 (h c (by simp))
    unfold ahead at ih ⊢
    rw [List.cons_append, List.takeWhile_cons, hc]
    simp only [Bool.not_false, if_true]
    rw [ih (fun d hd => h d (by simp [hd]))]
theorem behind_app {l : List UInt8} (h : ∀ c, c ∈ l → c ≠ 47) (m : List UInt8) : behind (l ++ 47 :: m) = m := by
  unfold behind; rw [drop_none h]; rfl
theorem stroke_none {l : List UInt8} (h : ∀ c, c ∈ l → c ≠ 47) : stroke l = false := by
  unfold stroke; rw [List.any_eq_false]; intro c hc; simpa using h c hc
theorem stroke_app (l m : List UInt8) : stroke (l ++ 47 :: m) = true := by unfold stroke; simp
theorem none_of {l : List UInt8} (h : stroke l = false) : ∀ c, c ∈ l → c ≠ 47 := by
  unfold stroke at h; rw [List.any_eq_false] at h
  intro c hc; simpa using h c hc
theorem app_of {l : List UInt8} (h : stroke l = true) : l = ahead l ++ 47 :: behind l := by
  unfold ahead behind
  induction l with
  | nil => cases h
  | cons c l ih =>
    cases hc : c == 47 with
    | true =>
      have : c = 47 := by simpa using hc
      subst this; rfl
    | false =>
      have h' : stroke l = true := by unfold stroke at h ⊢; rw [List.any_cons, hc, Bool.false_or] at h; exact h
      rw [List.takeWhile_cons, List.dropWhile_cons, hc]
      simp only [Bool.not_false, if_true]
      rw [List.cons_append, ← ih h']

/-- how far a whole number is from 0 -/
def szn (s : ByteArray) : Nat := dv (if mn s then rest s else s).data.toList
theorem szn_W (z : Int) : szn (W z) = z.natAbs := by
  unfold szn
  by_cases h : z < 0
  · rw [W_ng h, mn_ma]; simp only [if_true]; rw [rest_ma, dv_S]
  · rw [W_nn h, mn_S]; simp only [Bool.false_eq_true, if_false]; rw [dv_S]

/-- a row of bytes as a text -/
def bt (l : List UInt8) : ByteArray := ⟨l.toArray⟩
theorem bt_data (l : List UInt8) : (bt l).data.toList = l := by simp [bt]
theorem bt_of (s : ByteArray) : bt s.data.toList = s := ba_ext (bt_data _)

/-- is a text a rational? -/
def ra (s : ByteArray) : Bool :=
  if stroke s.data.toList then
    wh (bt (ahead s.data.toList)) && (rt (behind s.data.toList) && (decide (1 < dv (behind s.data.toList)) && decide (Nat.gcd (szn (bt (ahead s.data.toList))) (dv (behind s.data.toList)) = 1)))
  else wh s

theorem R_one {r : Rat} (h : r.den = 1) : R r = W r.num := by unfold R; rw [if_pos h]
theorem R_more {r : Rat} (h : r.den ≠ 1) : (R r).data.toList = (W r.num).data.toList ++ 47 :: tx r.den := by
  unfold R; rw [if_neg h]
  simp [ByteArray.data_append, S]
theorem ra_R (r : Rat) : ra (R r) = true := by
  unfold ra
  by_cases h : r.den = 1
  · rw [R_one h, stroke_none (no47_W _)]; simp only [Bool.false_eq_true, if_false]; exact wh_W _
  · rw [R_more h, stroke_app, ahead_app (no47_W _), behind_app (no47_W _), bt_of, wh_W, rt_tx, dv_tx, szn_W]
    have h1 := r.den_nz
    rw [decide_eq_true (show 1 < r.den by omega), decide_eq_true r.reduced]; rfl
theorem R_of {s : ByteArray} (h : ra s = true) : ∃ r, s = R r := by
  unfold ra at h
  cases hs : stroke s.data.toList with
  | false =>
    rw [hs] at h; simp only [Bool.false_eq_true, if_false] at h
    obtain ⟨z, e⟩ := W_of h
    exact ⟨(z : Rat), by rw [R_one rfl]; exact e⟩
  | true =>
    rw [hs] at h
    simp only [if_true, Bool.and_eq_true, decide_eq_true_eq] at h
    obtain ⟨h1, h2, h3, h4⟩ := h
    obtain ⟨z, e⟩ := W_of h1
    rw [e, szn_W] at h4
    refine ⟨⟨z, dv (behind s.data.toList), by omega, h4⟩, ?_⟩
    apply ba_ext
    rw [R_more (show dv (behind s.data.toList) ≠ 1 by omega)]
    show s.data.toList = (W z).data.toList ++ 47 :: tx (dv (behind s.data.toList))
    rw [← e, bt_data, tx_dv h2]
    exact app_of hs
theorem R_inj {a b : Rat} (h : R a = R b) : a = b := by
  have key : a.num = b.num ∧ a.den = b.den := by
    by_cases ha : a.den = 1 <;> by_cases hb : b.den = 1
    · rw [R_one ha, R_one hb] at h; exact ⟨W_inj h, by rw [ha, hb]⟩
    · have e : stroke (R a).data.toList = stroke (R b).data.toList := by rw [h]
      rw [R_one ha, stroke_none (no47_W _), R_more hb, stroke_app] at e; cases e
    · have e : stroke (R a).data.toList = stroke (R b).data.toList := by rw [h]
      rw [R_one hb, stroke_none (no47_W _), R_more ha, stroke_app] at e; cases e
    · have e1 : ahead (R a).data.toList = ahead (R b).data.toList := by rw [h]
      have e2 : behind (R a).data.toList = behind (R b).data.toList := by rw [h]
      rw [R_more ha, R_more hb, ahead_app (no47_W _), ahead_app (no47_W _)] at e1
      rw [R_more ha, R_more hb, behind_app (no47_W _), behind_app (no47_W _)] at e2
      exact ⟨W_inj (ba_ext e1), tx_inj e2⟩
  exact Rat.ext key.1 key.2
theorem eqR {a b : Rat} (h : a ≠ b) : ((R a).toList == (R b).toList) = false := by
  rw [toList_data, toList_data]
  apply beq_eq_false_iff_ne.2
  exact fun e => h (R_inj (ba_ext e))

/-- a text's length bounds both numbers' -/
theorem tl_R (r : Rat) : tl r.num.natAbs ≤ (R r).size ∧ tl r.den ≤ (R r).size := by
  by_cases h : r.den = 1
  · rw [R_one h, h]
    have h1 := tl_W r.num
    have h2 := tl_pos r.num.natAbs
    have h3 : tl 1 ≤ 1 := tl_le (by omega) (by omega)
    omega
  · have e : (R r).size = (W r.num).size + 1 + tl r.den := by
      rw [← len_data, R_more h, List.length_append, List.length_cons, len_data]
      show _ + ((tx r.den).length + 1) = _ + 1 + (tx r.den).length
      omega
    have h1 := tl_W r.num
    omega
theorem R_size (r : Rat) : (R r).size ≤ tl r.num.natAbs + tl r.den + 2 := by
  by_cases h : r.den = 1
  · rw [R_one h]; have := W_size r.num; omega
  · have e : (R r).size = (W r.num).size + 1 + tl r.den := by
      rw [← len_data, R_more h, List.length_append, List.length_cons, len_data]
      show _ + ((tx r.den).length + 1) = _ + 1 + (tx r.den).length
      omega
    have := W_size r.num
    omega

/-! lowest terms -/
theorem low_num {p : Int} {q : Nat} (h : q ≠ 0) : (Rat.normalize p q h).num = p / (p.natAbs.gcd q : Int) := by rw [Rat.normalize_eq]
theorem low_den {p : Int} {q : Nat} (h : q ≠ 0) : (Rat.normalize p q h).den = q / p.natAbs.gcd q := by rw [Rat.normalize_eq]
theorem gcd_pos' {n q : Nat} (h : q ≠ 0) : 0 < n.gcd q := Nat.gcd_pos_of_pos_right _ (Nat.pos_of_ne_zero h)
theorem low_abs {p : Int} {q : Nat} (h : q ≠ 0) : (Rat.normalize p q h).num.natAbs = p.natAbs / p.natAbs.gcd q := by
  rw [low_num]
  have hd : ((p.natAbs.gcd q : Nat) : Int) ∣ p := Int.ofNat_dvd_left.2 (Nat.gcd_dvd_left _ _)
  rw [Int.natAbs_ediv_of_dvd hd]
  rfl
theorem low_neg {p : Int} {q : Nat} (h : q ≠ 0) : (Rat.normalize p q h).num < 0 ↔ p < 0 := by
  rw [low_num]
  have g := gcd_pos' (n := p.natAbs) h
  rw [Int.ediv_lt_iff_lt_mul (by omega), Int.zero_mul]
theorem low_vl {p : Int} {q : Nat} (h : q ≠ 0) : (Rat.normalize p q h).num = vl (decide (p < 0)) (p.natAbs / p.natAbs.gcd q) := by
  have h1 := low_abs (p := p) h
  have h2 := low_neg (p := p) h
  unfold vl
  by_cases c : p < 0
  · rw [decide_eq_true c]; simp only [if_true]; have := h2.2 c; omega
  · rw [decide_eq_false c]; simp only [Bool.false_eq_true, if_false]
    have : ¬ (Rat.normalize p q h).num < 0 := fun d => c (h2.1 d)
    omega
theorem low_sign {p : Int} {q : Nat} (h : q ≠ 0) : (Rat.normalize p q h).num.sign = p.sign := by
  have h2 := low_neg (p := p) h
  have h3 : (Rat.normalize p q h).num = 0 ↔ p = 0 := by
    rw [low_num]
    constructor
    · intro e
      have hd : ((p.natAbs.gcd q : Nat) : Int) ∣ p := Int.ofNat_dvd_left.2 (Nat.gcd_dvd_left _ _)
      have := Int.ediv_mul_cancel hd
      rw [e] at this; simpa using this.symm
    · intro e; rw [e]; simp
  rcases Int.lt_trichotomy p 0 with c | c | c
  · rw [Int.sign_eq_neg_one_of_neg c, Int.sign_eq_neg_one_of_neg (h2.2 c)]
  · rw [h3.2 c, c]
  · rw [Int.sign_eq_one_of_pos c, Int.sign_eq_one_of_pos]
    have : ¬ (Rat.normalize p q h).num < 0 := fun d => by have := h2.1 d; omega
    have : (Rat.normalize p q h).num ≠ 0 := fun d => by have := h3.1 d; omega
    omega
theorem low_num_le {p : Int} {q : Nat} (h : q ≠ 0) : tl (Rat.normalize p q h).num.natAbs ≤ tl p.natAbs := by
  rw [low_abs]; exact tl_mono (Nat.div_le_self _ _)
theorem low_den_le {p : Int} {q : Nat} (h : q ≠ 0) : tl (Rat.normalize p q h).den ≤ tl q := by
  rw [low_den]; exact tl_mono (Nat.div_le_self _ _)

/-- less, the same, more -/
def sgr (a b : Rat) : Int := sg (a.num * b.den) (b.num * a.den)
theorem sgr_lt {a b : Rat} (h : a < b) : sgr a b = -1 := sg_lt ((Rat.lt_iff a b).1 h)
theorem sgr_gt {a b : Rat} (h : b < a) : sgr a b = 1 := sg_gt ((Rat.lt_iff b a).1 h)
theorem sgr_eq (a : Rat) : sgr a a = 0 := sg_eq rfl
theorem sgr_three (a b : Rat) : a < b ∨ a = b ∨ b < a := by
  rcases Int.lt_trichotomy (a.num * b.den) (b.num * a.den) with c | c | c
  · exact Or.inl ((Rat.lt_iff a b).2 c)
  · refine Or.inr (Or.inl (Rat.le_antisymm ?_ ?_))
    · exact (Rat.le_iff a b).2 (by omega)
    · exact (Rat.le_iff b a).2 (by omega)
  · exact Or.inr (Or.inr ((Rat.lt_iff b a).2 c))

/-! the quotient of two whole numbers -/
/-- p by q, q not 0 -/
def by' (p q : Int) : Rat := (p : Rat) / (q : Rat)
theorem by_nat (p : Int) {q : Nat} (h : q ≠ 0) : by' p q = Rat.normalize p q h := by
  unfold by'; rw [Rat.normalize_eq_mkRat, Rat.mkRat_eq_div]; rfl
theorem by_neg (p q : Int) : by' (-p) (-q) = by' p q := by
  unfold by'; rw [Rat.intCast_neg, Rat.intCast_neg]; grind
theorem R_parts (r : Rat) : r = (r.num : Rat) / (r.den : Rat) := by
  rw [← Rat.mkRat_eq_div, Rat.mkRat_self]
theorem den_ne (r : Rat) : (r.den : Rat) ≠ 0 := by
  intro h; have := r.den_nz; rw [Rat.natCast_eq_zero_iff] at h; exact this h
theorem num_ne {r : Rat} (h : r ≠ 0) : (r.num : Rat) ≠ 0 := by
  intro e; rw [Rat.intCast_eq_zero_iff, Rat.num_eq_zero] at e; exact h e
theorem add_by (a b : Rat) : a + b = by' (a.num * b.den + b.num * a.den) (a.den * b.den : Nat) := by
  unfold by'
  have h1 := R_parts a; have h2 := R_parts b; have h3 := den_ne a; have h4 := den_ne b
  simp only [Rat.intCast_add, Rat.intCast_mul, Rat.intCast_natCast, Rat.natCast_mul]
  generalize (a.num : Rat) = p at *; generalize (b.num : Rat) = q at *; generalize (a.den : Rat) = m at *; generalize (b.den : Rat) = n at *
  rw [h1, h2]; grind
theorem sub_by (a b : Rat) : a - b = by' (a.num * b.den - b.num * a.den) (a.den * b.den : Nat) := by
  unfold by'
  have h1 := R_parts a; have h2 := R_parts b; have h3 := den_ne a; have h4 := den_ne b
  simp only [Rat.intCast_sub, Rat.intCast_mul, Rat.intCast_natCast, Rat.natCast_mul]
  generalize (a.num : Rat) = p at *; generalize (b.num : Rat) = q at *; generalize (a.den : Rat) = m at *; generalize (b.den : Rat) = n at *
  rw [h1, h2]; grind
theorem mul_by (a b : Rat) : a * b = by' (a.num * b.num) (a.den * b.den : Nat) := by
  unfold by'
  have h1 := R_parts a; have h2 := R_parts b; have h3 := den_ne a; have h4 := den_ne b
  simp only [Rat.intCast_mul, Rat.intCast_natCast, Rat.natCast_mul]
  generalize (a.num : Rat) = p at *; generalize (b.num : Rat) = q at *; generalize (a.den : Rat) = m at *; generalize (b.den : Rat) = n at *
  rw [h1, h2]; grind
theorem quo_by (a b : Rat) (hb : b ≠ 0) : a / b = by' (a.num * b.den) (a.den * b.num) := by
  unfold by'
  have h1 := R_parts a; have h2 := R_parts b; have h3 := den_ne a; have h4 := den_ne b; have h5 := num_ne hb
  simp only [Rat.intCast_mul, Rat.intCast_natCast]
  generalize (a.num : Rat) = p at *; generalize (b.num : Rat) = q at *; generalize (a.den : Rat) = m at *; generalize (b.den : Rat) = n at *
  rw [h1, h2]; grind
theorem by_mul {p q k : Int} (hq : q ≠ 0) (hk : k ≠ 0) : by' (p * k) (q * k) = by' p q := by
  unfold by'
  have h1 : (q : Rat) ≠ 0 := fun e => hq (by rwa [Rat.intCast_eq_zero_iff] at e)
  have h2 : (k : Rat) ≠ 0 := fun e => hk (by rwa [Rat.intCast_eq_zero_iff] at e)
  rw [Rat.intCast_mul, Rat.intCast_mul]; grind
theorem by_back {p q : Int} (hq : q ≠ 0) : by' p q * (q : Rat) = p := by
  unfold by'
  have h1 : (q : Rat) ≠ 0 := fun e => hq (by rwa [Rat.intCast_eq_zero_iff] at e)
  grind
/-- p by q in lowest terms, q on either side -/
theorem by_low {p q : Int} (h : q ≠ 0) : by' p q = Rat.normalize (if q < 0 then -p else p) q.natAbs (by omega) := by
  by_cases c : q < 0
  · rw [← by_neg, ← by_nat, if_pos c]
    congr 1; omega
  · rw [← by_nat, if_neg c]
    congr 1; omega

/-! digits -/
/-- both numbers have at most n digits -/
def Bd (r : Rat) (n : Nat) : Prop := tl r.num.natAbs ≤ n ∧ tl r.den ≤ n
theorem Bd.of_size {r : Rat} {n : Nat} (h : (R r).size ≤ n) : Bd r n := by have := tl_R r; exact ⟨by omega, by omega⟩
theorem Bd.mono {r : Rat} {n m : Nat} (h : Bd r n) (k : n ≤ m) : Bd r m := ⟨Nat.le_trans h.1 k, Nat.le_trans h.2 k⟩
theorem Bd.low {p : Int} {q n : Nat} (h : q ≠ 0) (h1 : tl p.natAbs ≤ n) (h2 : tl q ≤ n) : Bd (Rat.normalize p q h) n :=
  ⟨Nat.le_trans (low_num_le h) h1, Nat.le_trans (low_den_le h) h2⟩
theorem Bd.neg {a : Rat} {n : Nat} (h : Bd a n) : Bd (-a) n := by
  unfold Bd; rw [Rat.neg_num, Rat.neg_den, Int.natAbs_neg]; exact h
theorem Bd.mul {a b : Rat} {n m : Nat} (h : Bd a n) (k : Bd b m) : Bd (a * b) (n + m) := by
  rw [Rat.mul_def]
  refine Bd.low _ ?_ ?_
  · rw [Int.natAbs_mul]; have := tl_mul a.num.natAbs b.num.natAbs; have := h.1; have := k.1; omega
  · have := tl_mul a.den b.den; have := h.2; have := k.2; omega
theorem Bd.add {a b : Rat} {n m : Nat} (h : Bd a n) (k : Bd b m) : Bd (a + b) (2 * (n + m)) := by
  rw [Rat.add_def]
  have h1 := tl_mul a.num.natAbs b.den
  have h2 := tl_mul b.num.natAbs a.den
  have h3 := tl_add (a.num.natAbs * b.den) (b.num.natAbs * a.den)
  have h4 := tl_mul a.den b.den
  have h5 := tl_mono (Int.natAbs_add_le (a.num * b.den) (b.num * a.den))
  rw [Int.natAbs_mul, Int.natAbs_mul, Int.natAbs_natCast, Int.natAbs_natCast] at h5
  have := h.1; have := k.1; have := h.2; have := k.2
  exact Bd.low _ (by omega) (by omega)
theorem Bd.sub {a b : Rat} {n m : Nat} (h : Bd a n) (k : Bd b m) : Bd (a - b) (2 * (n + m)) := by
  rw [Rat.sub_eq_add_neg]; exact h.add k.neg
theorem Bd.by' {p q : Int} {n : Nat} (hq : q ≠ 0) (h1 : tl p.natAbs ≤ n) (h2 : tl q.natAbs ≤ n) : Bd (by' p q) n := by
  rw [by_low hq]
  refine Bd.low _ ?_ h2
  split
  · rw [Int.natAbs_neg]; exact h1
  · exact h1
theorem Bd.quo {a b : Rat} {n m : Nat} (h : Bd a n) (k : Bd b m) (hb : b ≠ 0) : Bd (a / b) (n + m) := by
  rw [quo_by a b hb]
  have hn : b.num ≠ 0 := fun e => hb (Rat.num_eq_zero.1 e)
  have h1 := tl_mul a.num.natAbs b.den
  have h2 := tl_mul a.den b.num.natAbs
  have := h.1; have := k.1; have := h.2; have := k.2
  refine Bd.by' (Int.mul_ne_zero (by have := a.den_nz; omega) hn) ?_ ?_
  · rw [Int.natAbs_mul, Int.natAbs_natCast]; omega
  · rw [Int.natAbs_mul, Int.natAbs_natCast]; omega

/-! signs and order -/
theorem sn_mulr (a b : Rat) : (a * b).num.sign = a.num.sign * b.num.sign := by rw [Rat.mul_def, low_sign, Int.sign_mul]
theorem sn_by {p q : Int} (hq : q ≠ 0) : (by' p q).num.sign = p.sign * q.sign := by
  rw [by_low hq, low_sign]
  split
  · rename_i c; rw [Int.sign_eq_neg_one_of_neg c, Int.sign_neg]; omega
  · rename_i c; rw [Int.sign_eq_one_of_pos (a := q) (by omega), Int.mul_one]
theorem sn_quor (a b : Rat) (hb : b ≠ 0) : (a / b).num.sign = a.num.sign * b.num.sign := by
  have hn : b.num ≠ 0 := fun e => hb (Rat.num_eq_zero.1 e)
  have hd : ∀ r : Rat, ((r.den : Int)).sign = 1 := fun r => Int.sign_eq_one_of_pos (by have := r.den_nz; omega)
  rw [quo_by a b hb, sn_by (Int.mul_ne_zero (by have := a.den_nz; omega) hn), Int.sign_mul, Int.sign_mul, hd, hd, Int.mul_one, Int.one_mul]
theorem sgr_add (a b c : Rat) : sgr (a + c) (b + c) = sgr a b := by
  rcases sgr_three a b with h | h | h
  · rw [sgr_lt h, sgr_lt (Rat.add_lt_add_right.2 h)]
  · rw [h, sgr_eq, sgr_eq]
  · rw [sgr_gt h, sgr_gt (Rat.add_lt_add_right.2 h)]
theorem sgr_neg (a b : Rat) : sgr (-a) (-b) = -sgr a b := by
  rcases sgr_three a b with h | h | h
  · rw [sgr_lt h, sgr_gt (Rat.neg_lt_neg_iff.2 h)]; rfl
  · rw [h, sgr_eq, sgr_eq]; rfl
  · rw [sgr_gt h, sgr_lt (Rat.neg_lt_neg_iff.2 h)]
theorem sgr_turn (a b : Rat) : sgr a b = -sgr b a := by
  rcases sgr_three a b with h | h | h
  · rw [sgr_lt h, sgr_gt h]
  · rw [h, sgr_eq]; rfl
  · rw [sgr_gt h, sgr_lt h]; rfl
theorem sgr_pos {a b : Rat} : 0 < sgr a b ↔ b < a := by
  rcases sgr_three a b with h | h | h
  · rw [sgr_lt h]; constructor
    · intro c; omega
    · intro c; grind
  · rw [h, sgr_eq]; constructor
    · intro c; omega
    · intro c; grind
  · rw [sgr_gt h]; exact ⟨fun _ => h, fun _ => by omega⟩
/-- half way between -/
theorem sgr_half (a b : Rat) : sgr a ((a + b) / 2) = sgr a b ∧ sgr ((a + b) / 2) b = sgr a b := by
  rcases sgr_three a b with h | h | h
  · rw [sgr_lt h, sgr_lt (show a < (a + b) / 2 by grind), sgr_lt (show (a + b) / 2 < b by grind)]; exact ⟨rfl, rfl⟩
  · subst h; rw [show (a + a) / 2 = a by grind, sgr_eq]; exact ⟨rfl, rfl⟩
  · rw [sgr_gt h, sgr_gt (show (a + b) / 2 < a by grind), sgr_gt (show b < (a + b) / 2 by grind)]; exact ⟨rfl, rfl⟩
theorem sgr_sign (a b : Rat) : (a - b).num.sign = sgr a b := by
  rw [Rat.sub_def, low_sign]
  unfold sgr
  rcases Int.lt_trichotomy (a.num * b.den) (b.num * a.den) with c | c | c
  · rw [sg_lt c, Int.sign_eq_neg_one_of_neg (by omega)]
  · rw [sg_eq c, c, Int.sub_self]; rfl
  · rw [sg_gt c, Int.sign_eq_one_of_pos (by omega)]
theorem pow_split (a : Rat) (i k : Nat) : a ^ (i + k) = a ^ i * a ^ k := by
  induction k with
  | zero => rw [Nat.add_zero, Rat.pow_zero, Rat.mul_one]
  | succ k ih => rw [← Nat.add_assoc, Rat.pow_succ, ih, Rat.pow_succ, Rat.mul_assoc]
end
end Go.Proofs.YtadgnafafdfioaaGreatDoor
namespace Go.Proofs.YtadgnafafdfioaaGreatDoor
section
open Nm
set_option linter.unusedVariables false

theorem prod_num (a b : Rat) : (a * b).num = (a.num / (a.num.natAbs.gcd b.den : Nat)) * (b.num / (b.num.natAbs.gcd a.den : Nat)) := by
  show (Rat.mul a b).num = _
  unfold Rat.mul
  simp only [Int.divExact_eq_ediv]
theorem prod_den (a b : Rat) : (a * b).den = (a.den / b.num.natAbs.gcd a.den) * (b.den / a.num.natAbs.gcd b.den) := by
  show (Rat.mul a b).den = _
  unfold Rat.mul
  simp only [Nat.divExact_eq_div]

/-- what stands above the shared bottom -/
def above (a b : Rat) : Int := a.num * (b.den / a.den.gcd b.den : Nat) + b.num * (a.den / a.den.gcd b.den : Nat)
theorem sum_both (a b : Rat) : (a + b).num = above a b / ((above a b).natAbs.gcd (a.den.gcd b.den) : Nat) ∧ (a + b).den = (a.den / a.den.gcd b.den) * (b.den / (above a b).natAbs.gcd (a.den.gcd b.den)) := by
  show (Rat.add a b).num = _ ∧ (Rat.add a b).den = _
  unfold Rat.add
  by_cases hg : a.den.gcd b.den = 1
  · simp only [hg, dif_pos, above, Nat.div_one, Nat.gcd_one_right]
    simp
  · simp only [hg, dif_neg, not_false_eq_true]
    rw [Rat.maybeNormalize_eq]
    refine ⟨rfl, ?_⟩
    show a.den / a.den.gcd b.den * b.den / (above a b).natAbs.gcd (a.den.gcd b.den) = _
    rw [Nat.mul_div_assoc _ (Nat.dvd_trans (Nat.gcd_dvd_right _ _) (Nat.gcd_dvd_right _ _))]

/-- turned over -/
theorem inv_num (b : Rat) : (b⁻¹).num = vl (decide (b.num < 0)) b.den ∨ b.num = 0 := by
  by_cases h0 : b.num = 0
  · exact Or.inr h0
  · left
    rw [Rat.num_inv]
    by_cases h : b.num < 0
    · rw [Int.sign_eq_neg_one_of_neg h]; simp [vl, h]
    · rw [Int.sign_eq_one_of_pos (by omega)]; simp [vl, h]
theorem inv_den {b : Rat} (h : b.num ≠ 0) : (b⁻¹).den = b.num.natAbs := by rw [Rat.den_inv, if_neg h]
theorem num_zero {b : Rat} : b.num = 0 ↔ b = 0 := ⟨fun h => by rw [← Rat.normalize_self b]; simp [h], fun h => by subst h; rfl⟩

/-- a rational is known by what stands above and below -/
theorem same_rat {a b : Rat} (h1 : a.num = b.num) (h2 : a.den = b.den) : a = b := Rat.ext h1 h2
theorem W_nat (n : Nat) : W (n : Int) = S n := by rw [W_nn (by omega)]; rfl
theorem den_gt (r : Rat) : 0 < r.den := Nat.pos_of_ne_zero r.den_nz

/-- a whole number by a natural that divides it -/
theorem shorter {z : Int} {g : Nat} (hg : g ≠ 0) (hd : g ∣ z.natAbs) : vl (decide (z < 0)) (z.natAbs / g) = z / (g : Int) := by
  obtain ⟨k, hk⟩ := hd
  have hgz : (g : Int) ≠ 0 := by omega
  rw [hk, Nat.mul_div_cancel_left _ (Nat.pos_of_ne_zero hg)]
  by_cases h : z < 0
  · have e : z = (g : Int) * (-(k : Int)) := by
      have : z = -((z.natAbs : Nat) : Int) := by omega
      rw [this, hk]; push_cast; rw [Int.mul_neg]
    have e2 : z / (g : Int) = -(k : Int) := by rw [e]; exact Int.mul_ediv_cancel_left _ hgz
    rw [e2, decide_eq_true h]; simp [vl]
  · have e : z = (g : Int) * (k : Int) := by
      have : z = ((z.natAbs : Nat) : Int) := by omega
      rw [this, hk]; push_cast; rfl
    have e2 : z / (g : Int) = (k : Int) := by rw [e]; exact Int.mul_ediv_cancel_left _ hgz
    rw [e2, decide_eq_false h]; simp [vl]
theorem shorter_gt {z : Int} {g : Nat} (hg : g ≠ 0) (hd : g ∣ z.natAbs) (h : z < 0) : 0 < z.natAbs / g := by
  exact Nat.div_pos (Nat.le_of_dvd (by omega) hd) (Nat.pos_of_ne_zero hg)
theorem shorter_le {z : Int} {g : Nat} (hg : g ≠ 0) (hd : g ∣ z.natAbs) : (z / (g : Int)).natAbs ≤ z.natAbs := by
  rw [← shorter hg hd]
  have : (vl (decide (z < 0)) (z.natAbs / g)).natAbs = z.natAbs / g := by
    generalize z.natAbs / g = m
    cases decide (z < 0) <;> simp [vl]
  rw [this]; exact Nat.div_le_self _ _
end
end Go.Proofs.YtadgnafafdfioaaGreatDoor
