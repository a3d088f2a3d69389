/-
  PLAIN FACTS ON LONG DIVISION OF LIMBS: nothing of the program is named here. No conditions.
-/
import Derived.Test.YtpmnfgbbkmodpaaGreatDoorNmDiv
namespace Go.Proofs.YtpmnfgbbkmodpaaGreatDoor.Nm
set_option maxRecDepth 100000

/-! times a limb -/
structure TmI (o f : Nat → Nat) (d k c : Nat) : Prop where
  lim : ∀ i, i < k → o i < 1000000000
  car : c < 1000000000
  val : lv o k + c * 1000000000 ^ k = lv f k * d

theorem TmI.step {o f : Nat → Nat} {d k c : Nat} (h : TmI o f d k c) (hf : f k < 1000000000) (hd : d < 1000000000) : TmI (up o k ((f k * d + c) % 1000000000)) f d (k + 1) ((f k * d + c) / 1000000000) := by
  have hb := mul_bd hf hd
  have hc := h.car
  refine ⟨fun i hi => ?_, by omega, ?_⟩
  · by_cases e : i = k
    · subst e; rw [up_same]; omega
    · rw [up_other _ _ e]; exact h.lim i (by omega)
  · rw [lv_succ, lv_succ, up_same, lv_up (Nat.le_refl _), Nat.pow_succ, carry_step, Nat.add_mul, Nat.add_mul]
    have h1 := h.val
    have h2 : f k * 1000000000 ^ k * d = f k * d * 1000000000 ^ k := by rw [Nat.mul_right_comm]
    omega

/-! a multiple taken off -/
structure TkI (S R v : Nat → Nat) (N i q k m : Nat) : Prop where
  lim : ∀ t, t < N → S t < 1000000000
  out : ∀ t, t < i ∨ i + k ≤ t → S t = R t
  car : m < 1000000000
  val : lv (sh S i) k + q * lv v k = lv (sh R i) k + m * 1000000000 ^ k

theorem lv_sh_up {S : Nat → Nat} {i k l : Nat} : lv (sh (up S (i + k) l) i) (k + 1) = lv (sh S i) k + l * 1000000000 ^ k := by
  rw [lv_succ]
  have e1 : lv (sh (up S (i + k) l) i) k = lv (sh S i) k := lv_congr fun t ht => by unfold sh; rw [up_other _ _ (by omega)]
  have e2 : sh (up S (i + k) l) i k = l := by unfold sh; rw [up_same]
  rw [e1, e2]

theorem TkI.gen {S R v : Nat → Nat} {N i q k m p : Nat} (h : TkI S R v N i q k m) (hN : i + k < N) (hp : p ≤ 999999998000000001) :
    ∃ l m', ((S (i + k) : Int) - (p : Int) + -(m : Int)) % 1000000000 = (l : Nat) ∧ ((S (i + k) : Int) - (p : Int) + -(m : Int)) / 1000000000 = -((m' : Nat) : Int) ∧ l < 1000000000 ∧ m' < 1000000000 ∧ l + p + m = S (i + k) + m' * 1000000000 := by
  have hr := h.lim (i + k) hN
  have hm := h.car
  refine ⟨(((S (i + k) : Int) - (p : Int) + -(m : Int)) % 1000000000).toNat, (-(((S (i + k) : Int) - (p : Int) + -(m : Int)) / 1000000000)).toNat, ?_, ?_, ?_, ?_, ?_⟩ <;> omega

theorem TkI.mk' {S R v : Nat → Nat} {N i q k m l m' : Nat} (h : TkI S R v N i q k m) (hl : l < 1000000000) (hm : m' < 1000000000) (e : l + v k * q + m = S (i + k) + m' * 1000000000) : TkI (up S (i + k) l) R v N i q (k + 1) m' := by
  refine ⟨fun t ht => ?_, fun t ht => ?_, hm, ?_⟩
  · by_cases c : t = i + k
    · subst c; rw [up_same]; exact hl
    · rw [up_other _ _ c]; exact h.lim t ht
  · rw [up_other _ _ (by omega)]; exact h.out t (by omega)
  · rw [lv_sh_up, lv_succ, lv_succ, Nat.pow_succ, Nat.mul_add]
    have e3 : sh R i k = S (i + k) := by unfold sh; exact (h.out (i + k) (by omega)).symm
    rw [e3]
    have h1 := h.val
    have h2 : (l + v k * q + m) * 1000000000 ^ k = (S (i + k) + m' * 1000000000) * 1000000000 ^ k := by rw [e]
    rw [Nat.add_mul, Nat.add_mul, Nat.add_mul, Nat.mul_assoc m', Nat.mul_comm 1000000000 (1000000000 ^ k), Nat.mul_comm (v k) q, Nat.mul_assoc q] at h2
    omega

theorem TkI.step {S R v : Nat → Nat} {N i q k m : Nat} (h : TkI S R v N i q k m) (hN : i + k < N) (hv : v k < 1000000000) (hq : q < 1000000000) :
    ∃ l m', ((S (i + k) : Int) - (v k : Int) * (q : Int) + -(m : Int)) % 1000000000 = (l : Nat) ∧ ((S (i + k) : Int) - (v k : Int) * (q : Int) + -(m : Int)) / 1000000000 = -((m' : Nat) : Int) ∧ l < 1000000000 ∧ TkI (up S (i + k) l) R v N i q (k + 1) m' := by
  obtain ⟨l, m', h1, h2, h3, h4, h5⟩ := h.gen hN (mul_bd hv hq)
  refine ⟨l, m', ?_, ?_, h3, h.mk' h3 h4 h5⟩
  · rw [← h1]; simp
  · rw [← h2]; simp

/-- the last limb -/
theorem TkI.last {S R v : Nat → Nat} {N i q n m : Nat} (h : TkI S R v N i q n m) (hN : i + n < N) :
    ∃ l m', ((S (i + n) : Int) + -(m : Int)) % 1000000000 = (l : Nat) ∧ ((S (i + n) : Int) + -(m : Int)) / 1000000000 = -((m' : Nat) : Int) ∧ l < 1000000000 ∧ m' ≤ 1 ∧
      (∀ t, t < N → up S (i + n) l t < 1000000000) ∧ (∀ t, t < i ∨ i + (n + 1) ≤ t → up S (i + n) l t = R t) ∧ lv (sh (up S (i + n) l) i) (n + 1) + q * lv v n = lv (sh R i) (n + 1) + m' * 1000000000 ^ (n + 1) := by
  obtain ⟨l, m', h1, h2, h3, h4, h5⟩ := h.gen (p := 0) hN (by omega)
  have hm := h.car
  refine ⟨l, m', by rw [← h1]; simp, by rw [← h2]; simp, h3, by omega, fun t ht => ?_, fun t ht => ?_, ?_⟩
  · by_cases c : t = i + n
    · subst c; rw [up_same]; exact h3
    · rw [up_other _ _ c]; exact h.lim t ht
  · rw [up_other _ _ (by omega)]; exact h.out t (by omega)
  · rw [lv_sh_up, lv_succ, Nat.pow_succ]
    have e3 : sh R i n = S (i + n) := by unfold sh; exact (h.out (i + n) (by omega)).symm
    rw [e3]
    have k1 := h.val
    have k2 : (l + 0 + m) * 1000000000 ^ n = (S (i + n) + m' * 1000000000) * 1000000000 ^ n := by rw [h5]
    rw [Nat.add_zero, Nat.add_mul, Nat.add_mul, Nat.mul_assoc m', Nat.mul_comm 1000000000 (1000000000 ^ n)] at k2
    omega

/-! the divisor put back -/
structure PbI (S R v : Nat → Nat) (N i k c : Nat) : Prop where
  lim : ∀ t, t < N → S t < 1000000000
  out : ∀ t, t < i ∨ i + k ≤ t → S t = R t
  car : c ≤ 1
  val : lv (sh S i) k + c * 1000000000 ^ k = lv (sh R i) k + lv v k

theorem PbI.step {S R v : Nat → Nat} {N i k c : Nat} (h : PbI S R v N i k c) (hN : i + k < N) (hv : v k < 1000000000) :
    PbI (up S (i + k) ((S (i + k) + v k + c) % 1000000000)) R v N i (k + 1) ((S (i + k) + v k + c) / 1000000000) := by
  have hr := h.lim (i + k) hN
  have hc := h.car
  refine ⟨fun t ht => ?_, fun t ht => ?_, by omega, ?_⟩
  · by_cases e : t = i + k
    · subst e; rw [up_same]; omega
    · rw [up_other _ _ e]; exact h.lim t ht
  · rw [up_other _ _ (by omega)]; exact h.out t (by omega)
  · rw [lv_sh_up, lv_succ, lv_succ, Nat.pow_succ, carry_step, Nat.add_mul, Nat.add_mul]
    have e3 : sh R i k = S (i + k) := by unfold sh; exact (h.out (i + k) (by omega)).symm
    rw [e3]
    have := h.val
    omega

theorem PbI.last {S R v : Nat → Nat} {N i n c : Nat} (h : PbI S R v N i n c) (hN : i + n < N) :
    (∀ t, t < N → up S (i + n) ((S (i + n) + c) % 1000000000) t < 1000000000) ∧ (∀ t, t < i ∨ i + (n + 1) ≤ t → up S (i + n) ((S (i + n) + c) % 1000000000) t = R t) ∧
      lv (sh (up S (i + n) ((S (i + n) + c) % 1000000000)) i) (n + 1) + (S (i + n) + c) / 1000000000 * 1000000000 ^ (n + 1) = lv (sh R i) (n + 1) + lv v n := by
  have hr := h.lim (i + n) hN
  refine ⟨fun t ht => ?_, fun t ht => ?_, ?_⟩
  · by_cases e : t = i + n
    · subst e; rw [up_same]; omega
    · rw [up_other _ _ e]; exact h.lim t ht
  · rw [up_other _ _ (by omega)]; exact h.out t (by omega)
  · rw [lv_sh_up, lv_succ, Nat.pow_succ, carry_step, Nat.add_mul]
    have e3 : sh R i n = S (i + n) := by unfold sh; exact (h.out (i + n) (by omega)).symm
    rw [e3]
    have := h.val
    omega

/-! the guess: P is T rows of W and pl, V is v rows of W and vl -/
theorem guess_low {T W pl v vl q : Nat} (_hW : 0 < W) (hp : pl < W) (h : q * (v * W + vl) ≤ T * W + pl) : q * v ≤ T := by
  have h1 : q * v * W ≤ q * (v * W + vl) := by rw [Nat.mul_add, Nat.mul_assoc]; omega
  have h2 : q * v * W < (T + 1) * W := by rw [Nat.add_mul, Nat.one_mul]; omega
  have := Nat.lt_of_mul_lt_mul_right h2
  omega

/-- a guess and what is left, of the top two limbs -/
structure GsI (q l p0 p1 v1 Q : Nat) : Prop where
  val : q * v1 + l = p0 * 1000000000 + p1
  ge : Q ≤ q

theorem GsI.start {p0 p1 p2 v1 v2 W pl vl : Nat} (hW : 0 < W) (hpl : pl < W) (hp2 : p2 < 1000000000) (hv : 0 < v1) :
    GsI ((p0 * 1000000000 + p1) / v1) ((p0 * 1000000000 + p1) % v1) p0 p1 v1 ((((p0 * 1000000000 + p1) * 1000000000 + p2) * W + pl) / ((v1 * 1000000000 + v2) * W + vl)) := by
  refine ⟨by rw [Nat.mul_comm]; exact Nat.div_add_mod _ _, ?_⟩
  generalize hQ : (((p0 * 1000000000 + p1) * 1000000000 + p2) * W + pl) / ((v1 * 1000000000 + v2) * W + vl) = Q
  have h1 : Q * ((v1 * 1000000000 + v2) * W + vl) ≤ ((p0 * 1000000000 + p1) * 1000000000 + p2) * W + pl := by rw [← hQ]; exact Nat.div_mul_le_self _ _
  have h2 := guess_low hW hpl h1
  rw [Nat.le_div_iff_mul_le hv]
  rw [Nat.mul_add, ← Nat.mul_assoc] at h2
  have h3 : Q * v1 * 1000000000 < (p0 * 1000000000 + p1 + 1) * 1000000000 := by omega
  have := Nat.lt_of_mul_lt_mul_right h3
  omega

theorem GsI.step {q l p0 p1 p2 v1 v2 W pl vl : Nat} (h : GsI q l p0 p1 v1 ((((p0 * 1000000000 + p1) * 1000000000 + p2) * W + pl) / ((v1 * 1000000000 + v2) * W + vl))) (hW : 0 < W) (hpl : pl < W)
    (hB : ((p0 * 1000000000 + p1) * 1000000000 + p2) * W + pl < 1000000000 * ((v1 * 1000000000 + v2) * W + vl)) (hc : 1000000000 ≤ q ∨ l * 1000000000 + p2 < q * v2) :
    1 ≤ q ∧ GsI (q - 1) (l + v1) p0 p1 v1 ((((p0 * 1000000000 + p1) * 1000000000 + p2) * W + pl) / ((v1 * 1000000000 + v2) * W + vl)) := by
  have hv := h.val
  have hlt : (((p0 * 1000000000 + p1) * 1000000000 + p2) * W + pl) / ((v1 * 1000000000 + v2) * W + vl) < q := by
    rcases hc with c | c
    · have hpos : 0 < (v1 * 1000000000 + v2) * W + vl := by omega
      have : (((p0 * 1000000000 + p1) * 1000000000 + p2) * W + pl) / ((v1 * 1000000000 + v2) * W + vl) < 1000000000 := by rw [Nat.div_lt_iff_lt_mul hpos]; exact hB
      omega
    · rcases Nat.lt_or_ge ((((p0 * 1000000000 + p1) * 1000000000 + p2) * W + pl) / ((v1 * 1000000000 + v2) * W + vl)) q with d | d
      · exact d
      · exfalso
        have h1 : q * ((v1 * 1000000000 + v2) * W + vl) ≤ ((p0 * 1000000000 + p1) * 1000000000 + p2) * W + pl := Nat.le_trans (Nat.mul_le_mul_right _ d) (Nat.div_mul_le_self _ _)
        have h2 := guess_low hW hpl h1
        rw [Nat.mul_add, ← Nat.mul_assoc] at h2
        omega
  have hq : 1 ≤ q := Nat.lt_of_le_of_lt (Nat.zero_le _) hlt
  refine ⟨hq, ?_, Nat.le_sub_one_of_lt hlt⟩
  obtain ⟨r, rfl⟩ : ∃ r, q = r + 1 := ⟨q - 1, by omega⟩
  rw [Nat.add_sub_cancel]
  rw [Nat.add_mul] at hv
  omega

theorem GsI.done {q l p0 p1 p2 v1 v2 W pl vl : Nat} (h : GsI q l p0 p1 v1 ((((p0 * 1000000000 + p1) * 1000000000 + p2) * W + pl) / ((v1 * 1000000000 + v2) * W + vl))) (hW : 0 < W) (hvl : vl < W) (hv1 : 0 < v1) (hv2 : v2 < 1000000000)
    (hp0 : p0 ≤ v1) (hp1 : p1 < 1000000000) (hc : ¬ (l < 1000000000 ∧ (1000000000 ≤ q ∨ l * 1000000000 + p2 < q * v2))) :
    q < 1000000000 ∧ q ≤ (((p0 * 1000000000 + p1) * 1000000000 + p2) * W + pl) / ((v1 * 1000000000 + v2) * W + vl) + 1 := by
  have hv := h.val
  have hq : q < 1000000000 := by
    rcases Nat.lt_or_ge q 1000000000 with c | c
    · exact c
    · exfalso
      have h1 : 1000000000 * v1 ≤ q * v1 := Nat.mul_le_mul_right _ c
      have h2 : l < 1000000000 := by omega
      exact hc ⟨h2, Or.inl c⟩
  refine ⟨hq, ?_⟩
  have key : q * v2 ≤ l * 1000000000 + p2 := by
    rcases Nat.lt_or_ge l 1000000000 with c | c
    · rcases Nat.lt_or_ge (l * 1000000000 + p2) (q * v2) with d | d
      · exact absurd ⟨c, Or.inr d⟩ hc
      · exact d
    · have := mul_bd hq hv2
      omega
  have k1 : q * (v1 * 1000000000 + v2) ≤ (p0 * 1000000000 + p1) * 1000000000 + p2 := by
    rw [Nat.mul_add, ← Nat.mul_assoc]; omega
  obtain ⟨T, hT⟩ : ∃ T, T = (p0 * 1000000000 + p1) * 1000000000 + p2 := ⟨_, rfl⟩
  rw [← hT] at k1 ⊢
  clear hT h hv key
  have hpos : 0 < (v1 * 1000000000 + v2) * W + vl := by
    have : 1 * W ≤ (v1 * 1000000000 + v2) * W := Nat.mul_le_mul_right _ (by omega)
    omega
  have k2 : (q - 1) * ((v1 * 1000000000 + v2) * W + vl) ≤ T * W + pl := by
    rcases Nat.eq_zero_or_pos q with c | c
    · subst c; simp
    · obtain ⟨r, rfl⟩ : ∃ r, q = r + 1 := ⟨q - 1, by omega⟩
      rw [Nat.add_sub_cancel]
      have k3 : (r + 1) * (v1 * 1000000000 + v2) * W ≤ T * W := Nat.mul_le_mul_right _ k1
      have k4 : (r + 1) * vl ≤ 1000000000 * W := Nat.mul_le_mul (by omega) (by omega)
      have k5 : 1000000000 * W ≤ (v1 * 1000000000 + v2) * W := Nat.mul_le_mul_right _ (by omega)
      have k6 : (r + 1) * ((v1 * 1000000000 + v2) * W + vl) = (r + 1) * (v1 * 1000000000 + v2) * W + (r + 1) * vl := by rw [Nat.mul_add, Nat.mul_assoc]
      have k7 : (r + 1) * ((v1 * 1000000000 + v2) * W + vl) = r * ((v1 * 1000000000 + v2) * W + vl) + ((v1 * 1000000000 + v2) * W + vl) := by rw [Nat.add_mul, Nat.one_mul]
      omega
  have := (Nat.le_div_iff_mul_le hpos).2 k2
  omega

/-! scaling -/
theorem scale_ge {t : Nat} (h1 : 1 ≤ t) (h2 : t < 1000000000) : 500000000 ≤ 1000000000 / (t + 1) * t := by
  have hd := Nat.div_add_mod 1000000000 (t + 1)
  have hm := Nat.mod_lt 1000000000 (show 0 < t + 1 by omega)
  generalize 1000000000 / (t + 1) = d at *
  generalize 1000000000 % (t + 1) = r at *
  rw [Nat.add_mul, Nat.one_mul, Nat.mul_comm t d] at hd
  rcases Nat.lt_or_ge (d * t) 500000000 with c | c
  · exfalso
    have k1 : 500000001 ≤ d + t := by omega
    rcases Nat.lt_or_ge t 500000001 with e | e
    · have k2 : (500000001 - t) * t ≤ d * t := Nat.mul_le_mul_right _ (by omega)
      obtain ⟨s, rfl⟩ : ∃ s, t = s + 1 := ⟨t - 1, by omega⟩
      have k3 : 500000000 ≤ (500000001 - (s + 1)) * (s + 1) := by
        rw [Nat.mul_add, Nat.mul_one]
        obtain ⟨u, hu⟩ : ∃ u, 500000001 - (s + 1) = u := ⟨_, rfl⟩
        rw [hu]
        have : u + s = 500000000 := by omega
        rcases Nat.eq_zero_or_pos u with z | z
        · omega
        · have : 1 * s ≤ u * s := Nat.mul_le_mul_right _ z
          omega
      omega
    · rcases Nat.eq_zero_or_pos d with z | z
      · subst z; omega
      · have : 1 * t ≤ d * t := Nat.mul_le_mul_right _ z
        omega
  · exact c

/-! the rounds -/
structure LgI (R Q : Nat → Nat) (N M U V k : Nat) : Prop where
  lim : ∀ t, t < N → R t < 1000000000
  qlim : ∀ t, k ≤ t → t < M → Q t < 1000000000
  rest : lv (sh R k) (N - k) < V
  val : U = lv R N + V * (1000000000 ^ k * lv (sh Q k) (M - k))

theorem high_zero {h : Nat → Nat} {m n : Nat} (hl : lv h m < 1000000000 ^ n) : ∀ t, n ≤ t → t < m → h t = 0 := by
  intro t ht hm
  rcases Nat.eq_zero_or_pos (h t) with c | c
  · exact c
  · exfalso
    have h1 := lv_hi (f := h) (n := t) (by omega)
    have h2 : lv h (t + 1) ≤ lv h m := by
      obtain ⟨d, rfl⟩ : ∃ d, m = (t + 1) + d := ⟨m - (t + 1), by omega⟩
      rw [lv_split h (t + 1) d]; omega
    have h3 : 1000000000 ^ n ≤ 1000000000 ^ t := Nat.pow_le_pow_right (by omega) ht
    omega

/-- what a round meets: the part is what is left from here on, and below base times V -/
theorem LgI.part {R Q : Nat → Nat} {N M U V i n : Nat} (h : LgI R Q N M U V (i + 1)) (hV : V < 1000000000 ^ n) (hN : i + n + 1 ≤ N) :
    lv (sh R i) (N - i) = lv (sh R i) (n + 1) ∧ lv (sh R i) (n + 1) < 1000000000 * V ∧ lv (sh R (i + 1)) n < V := by
  have hz := high_zero (Nat.lt_trans h.rest hV)
  have e1 : lv (sh R (i + 1)) (N - (i + 1)) = lv (sh R (i + 1)) n := lv_cut (by omega) (fun t a b => hz t a b)
  have hr := h.rest
  rw [e1] at hr
  have hl := h.lim i (by omega)
  refine ⟨?_, ?_, hr⟩
  · rw [show N - i = (N - (i + 1)) + 1 by omega, sh_cons, sh_cons, e1]
  · rw [sh_cons]; omega

theorem LgI.step {R S Q : Nat → Nat} {N M U V i n : Nat} (h : LgI R Q N M U V (i + 1)) (hV0 : 0 < V) (hV : V < 1000000000 ^ n) (hN : i + n + 1 ≤ N) (hM : i < M)
    (hS : ∀ t, t < N → S t < 1000000000) (ho : ∀ t, t < i ∨ i + (n + 1) ≤ t → S t = R t) (hv : lv (sh S i) (n + 1) = lv (sh R i) (n + 1) % V) :
    LgI S (up Q i (lv (sh R i) (n + 1) / V)) N M U V i := by
  obtain ⟨p1, p2, p3⟩ := h.part hV hN
  have hq : lv (sh R i) (n + 1) / V < 1000000000 := by rw [Nat.div_lt_iff_lt_mul hV0]; exact p2
  have hz := high_zero (Nat.lt_trans h.rest hV)
  have e0 : lv (sh S i) (N - i) = lv (sh S i) (n + 1) := lv_cut (by omega) (fun t a b => by
    show S (i + t) = 0
    rw [ho (i + t) (by omega)]
    have := hz (t - 1) (by omega) (by omega)
    unfold sh at this
    rw [← this]; congr 1; omega)
  refine ⟨hS, fun t a b => ?_, ?_, ?_⟩
  · by_cases e : t = i
    · subst e; rw [up_same]; exact hq
    · rw [up_other _ _ e]; exact h.qlim t (by omega) b
  · rw [e0, hv]; exact Nat.mod_lt _ hV0
  · have hval := h.val
    have e1 : lv R N = lv R i + 1000000000 ^ i * lv (sh R i) (n + 1) := by
      have := lv_split R i (N - i)
      rw [show i + (N - i) = N by omega, p1] at this
      exact this
    have e2 : lv S N = lv R i + 1000000000 ^ i * (lv (sh R i) (n + 1) % V) := by
      have := lv_split S i (N - i)
      rw [show i + (N - i) = N by omega, e0, hv] at this
      rw [this]
      congr 1
      exact lv_congr fun t ht => ho t (by omega)
    have e3 : lv (sh (up Q i (lv (sh R i) (n + 1) / V)) i) (M - i) = lv (sh R i) (n + 1) / V + 1000000000 * lv (sh Q (i + 1)) (M - (i + 1)) := by
      rw [show M - i = (M - (i + 1)) + 1 by omega, sh_cons, up_same]
      congr 2
      exact lv_congr fun t ht => by unfold sh; rw [up_other _ _ (by omega)]
    rw [e3, e2]
    rw [e1, Nat.pow_succ] at hval
    generalize lv (sh R i) (n + 1) = P at *
    generalize 1000000000 ^ i = W at *
    generalize lv (sh Q (i + 1)) (M - (i + 1)) = K at *
    have hdm := Nat.div_add_mod P V
    have k1 : W * P = W * (V * (P / V) + P % V) := by rw [hdm]
    have k2 : V * (W * (P / V + 1000000000 * K)) = W * (V * (P / V)) + V * (W * 1000000000 * K) := by
      rw [Nat.mul_add, Nat.mul_add, Nat.mul_left_comm V W, Nat.mul_assoc W 1000000000 K]
    rw [Nat.mul_add] at k1
    omega

theorem LgI.done {R Q : Nat → Nat} {N M f g d : Nat} (h : LgI R Q N M (f * d) (g * d) 0) (hd : 0 < d) : lv Q M = f / g ∧ lv R N / d = f % g := by
  have hr := h.rest
  have hv := h.val
  rw [sh_zero, Nat.sub_zero] at hr
  rw [sh_zero, Nat.sub_zero, Nat.pow_zero, Nat.one_mul] at hv
  generalize lv R N = r at *
  generalize lv Q M = q at *
  have hdvd : d ∣ r := by
    have h1 : d ∣ f * d := Nat.dvd_mul_left _ _
    have h2 : d ∣ g * d * q := Nat.dvd_mul_right_of_dvd (Nat.dvd_mul_left _ _) _
    rw [hv] at h1
    exact (Nat.dvd_add_left h2).1 h1
  obtain ⟨s, rfl⟩ := hdvd
  have hs : s < g := by
    rw [Nat.mul_comm] at hr
    exact Nat.lt_of_mul_lt_mul_right hr
  have hf : f = s + g * q := by
    have : f * d = (s + g * q) * d := by rw [hv, Nat.add_mul, Nat.mul_comm d s, Nat.mul_right_comm]
    exact Nat.eq_of_mul_eq_mul_right hd this
  rw [hf, Nat.mul_div_cancel_left _ hd]
  exact ⟨by rw [Nat.add_comm, Nat.mul_add_div (by omega), Nat.div_eq_of_lt hs]; omega, by rw [Nat.add_comm, Nat.mul_add_mod, Nat.mod_eq_of_lt hs]⟩
end Go.Proofs.YtpmnfgbbkmodpaaGreatDoor.Nm
