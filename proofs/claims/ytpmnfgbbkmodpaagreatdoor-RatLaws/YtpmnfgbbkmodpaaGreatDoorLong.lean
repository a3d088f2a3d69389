/-
  LONG DIVISION: what a call of divideLong, of divide and of Div gives. Conditions: sizes; the limbs' form; the divisor is above 0.
-/
import Derived.Test.YtpmnfgbbkmodpaaGreatDoorGuess
import Derived.Test.YtpmnfgbbkmodpaaGreatDoorQuot
namespace Go.Proofs.YtpmnfgbbkmodpaaGreatDoor
set_option maxRecDepth 100000
open Go.RowKit Nm
set_option linter.unusedVariables false

theorem sh_sh (R : Nat → Nat) (i : Nat) : sh (sh R i) 1 = sh R (i + 1) := by funext t; unfold sh; congr 1; omega

/-- one too often, or not -/
theorem round_q {P V q m s : Nat} (hV : 0 < V) (hQ : P / V ≤ q) (hQ1 : q ≤ P / V + 1) {W : Nat} (hs : s < W) (hVW : V < W) (hm : m ≤ 1) (he : s + q * V = P + m * W) :
    (m = 0 → q = P / V ∧ s = P % V) ∧ (m = 1 → q = P / V + 1) := by
  have hdm := Nat.div_add_mod P V
  have hml := Nat.mod_lt P hV
  generalize P / V = Q at *
  generalize P % V = r at *
  rcases Nat.lt_or_ge Q q with c | c
  · have e : q = Q + 1 := by omega
    subst e
    rw [Nat.add_mul, Nat.one_mul, Nat.mul_comm Q V] at he
    refine ⟨fun h => ?_, fun _ => rfl⟩
    subst h; omega
  · have e : q = Q := by omega
    subst e
    rw [Nat.mul_comm q V] at he
    refine ⟨fun h => ?_, fun h => ?_⟩
    · subst h; exact ⟨rfl, by omega⟩
    · subst h; omega

theorem round_back {P V q s t c W : Nat} (hV : 0 < V) (hq : q = P / V + 1) (hVW : V < W) (ht : t < W) (hs : s + q * V = P + 1 * W) (hb : t + c * W = s + V) : t = P % V := by
  have hdm := Nat.div_add_mod P V
  have hml := Nat.mod_lt P hV
  subst hq
  generalize P / V = Q at *
  generalize P % V = r at *
  rw [Nat.add_mul, Nat.one_mul, Nat.mul_comm Q V] at hs
  have h1 : t + c * W = r + W := by omega
  rcases Nat.lt_trichotomy c 1 with d | d | d
  · have : c = 0 := by omega
    subst this; omega
  · subst d; omega
  · have : 2 * W ≤ c * W := Nat.mul_le_mul_right _ d
    omega

theorem trim_len {O : Nat → Nat} {n k V : Nat} (hO : ∀ i, i < n + 1 → O i < 1000000000) (hv : lv O (n + 1) = V) (hhi : V < 1000000000 ^ n) (hlo : 1000000000 ^ (n - 1) ≤ V) (hn : 0 < n) (hk : k ≤ n + 1) (hz : ∀ i, k ≤ i → i < n + 1 → O i = 0) (ht : k = 0 ∨ O (k - 1) ≠ 0) : k = n := by
  have h1 : O n = 0 := high_zero (h := O) (m := n + 1) (n := n) (by rw [hv]; exact hhi) n (Nat.le_refl _) (by omega)
  have h2 := lv_cut hk hz
  rw [hv] at h2
  have h3 := lv_lt (f := O) (n := k) (fun i hi => hO i (by omega))
  rcases Nat.lt_trichotomy k n with c | c | c
  · exfalso
    have : 1000000000 ^ k ≤ 1000000000 ^ (n - 1) := Nat.pow_le_pow_right (by omega) (by omega)
    omega
  · exact c
  · exfalso
    have : k = n + 1 := by omega
    subst this
    rcases ht with e | e
    · omega
    · exact e (by simpa using h1)

/-- the scale -/
theorem scale_ok {g : Nat → Nat} {n d : Nat} (hg : Nrm g (n + 1)) (hd : d = 1000000000 / (g n + 1)) : 0 < d ∧ d < 1000000000 ∧ lv g (n + 1) * d < 1000000000 ^ (n + 1) ∧ 1000000000 ^ n ≤ lv g (n + 1) * d := by
  have h1 := hg.1 n (by omega)
  have h2 : 0 < g n := by
    rcases hg.2 with e | e
    · omega
    · simp at e; omega
  have hdp : 0 < d := by rw [hd]; exact Nat.div_pos (by omega) (by omega)
  have hdl : d * (g n + 1) ≤ 1000000000 := by rw [hd]; exact Nat.div_mul_le_self _ _
  have h3 := lv_lt (f := g) (n := n) (fun i hi => hg.1 i (by omega))
  have h4 := hg.hi (by omega)
  rw [Nat.add_sub_cancel] at h4
  have hd2 : d * 2 ≤ d * (g n + 1) := Nat.mul_le_mul_left _ (by omega)
  refine ⟨hdp, by omega, ?_, ?_⟩
  · have k1 : lv g (n + 1) < (g n + 1) * 1000000000 ^ n := by rw [lv_succ, Nat.add_mul, Nat.one_mul]; omega
    have k2 : lv g (n + 1) * d < (g n + 1) * 1000000000 ^ n * d := Nat.mul_lt_mul_of_pos_right k1 hdp
    have k3 : (g n + 1) * 1000000000 ^ n * d = d * (g n + 1) * 1000000000 ^ n := by rw [Nat.mul_comm, Nat.mul_assoc]
    have k4 : d * (g n + 1) * 1000000000 ^ n ≤ 1000000000 * 1000000000 ^ n := Nat.mul_le_mul_right _ hdl
    rw [Nat.pow_succ]; omega
  · have : lv g (n + 1) * 1 ≤ lv g (n + 1) * d := Nat.mul_le_mul_left _ hdp
    omega

theorem LgI.start {U : Nat → Nat} {Q : Nat → Nat} {n1 n2 f g d : Nat} (hU : ∀ t, t < n1 + 1 → U t < 1000000000) (hv : lv U (n1 + 1) = f * d) (hf : f < 1000000000 ^ n1) (hd : 0 < d) (hg : 1000000000 ^ (n2 - 1) ≤ g) (h2 : 1 ≤ n2) (h12 : n2 ≤ n1) :
    LgI U Q (n1 + 1) (n1 - n2 + 1) (f * d) (g * d) (n1 - n2 + 1) := by
  refine ⟨hU, fun t a b => by omega, ?_, ?_⟩
  · have h := lv_split U (n1 - n2 + 1) n2
    rw [show n1 - n2 + 1 + n2 = n1 + 1 by omega, hv] at h
    rw [show n1 + 1 - (n1 - n2 + 1) = n2 by omega]
    have h3 : 1000000000 ^ (n1 - n2 + 1) * lv (sh U (n1 - n2 + 1)) n2 < 1000000000 ^ (n1 - n2 + 1) * (g * d) := by
      have k1 : f * d < 1000000000 ^ n1 * d := Nat.mul_lt_mul_of_pos_right hf hd
      have k2 : 1000000000 ^ n1 = 1000000000 ^ (n1 - n2 + 1) * 1000000000 ^ (n2 - 1) := by rw [← Nat.pow_add]; congr 1; omega
      have k3 : 1000000000 ^ (n1 - n2 + 1) * 1000000000 ^ (n2 - 1) * d ≤ 1000000000 ^ (n1 - n2 + 1) * g * d := Nat.mul_le_mul_right _ (Nat.mul_le_mul_left _ hg)
      rw [k2] at k1
      rw [← Nat.mul_assoc]
      omega
    exact Nat.lt_of_mul_lt_mul_left h3
  · rw [Nat.sub_self, lv_zero, Nat.mul_zero, Nat.mul_zero, Nat.add_zero, hv]

set_option maxRecDepth 100000 in
set_option maxHeartbeats 1000000 in
theorem divideLong_any (b1 n1 c1 b2 m c2 : Nat) (f g : Nat → Nat) (w : World) (hn1 : n1 ≤ 10000) (h1 : Rw w b1 0 f n1) (h2 : Rw w b2 0 g (m + 2)) (hf : Nrm f n1) (hg : Nrm g (m + 2)) (hle : lv g (m + 2) ≤ lv f n1) :
    Calls Tryz.prog 129 #[.slice (some ⟨b1, 0, none⟩) n1 c1, .slice (some ⟨b2, 0, none⟩) (m + 2) c2] w fun e w' => Quo w (lv f n1) (lv g (m + 2)) e w' := by
  obtain ⟨i0, hi, hz0, hz1, hz2⟩ := info_parts Tryz.info2
  have h12 : m + 2 ≤ n1 := hg.len_le hf hle
  have hgt := hg.1 (m + 1) (by omega)
  have ct := h2 (m + 1) (by omega)
  simp only [Nat.zero_add] at ct
  obtain ⟨d, hd⟩ : ∃ d, d = 1000000000 / (g (m + 1) + 1) := ⟨_, rfl⟩
  obtain ⟨d0, dl, dhi, dlo⟩ := scale_ok hg hd
  have hdi : (1000000000 : Int) / ((g (m + 1) : Int) + 1) = ((d : Nat) : Int) := by rw [hd]; simp
  have HDLO : Hid _ := dlo
  have HDHI : Hid _ := dhi
  clear hd dlo dhi
  go_enter Tryz.func129, Tryz.ntmps129
  go_wp2_with fail
  refine (timesLimb_any b1 0 n1 c1 d f _ (by omega) dl h1 hf.1).mono ?_
  rintro e w1 ⟨U, rfl, oU, limU, valU, be1⟩
  have h2' := h2.below' be1
  have s1 := be1.size
  have s1' := oU.lt
  go_wp2_with fail
  refine (timesLimb_any b2 0 (m + 2) c2 d g _ (by omega) dl h2' hg.1).mono ?_
  rintro e w2 ⟨O, rfl, oO, limO, valO, be2⟩
  have s2 := be2.size
  have s2' := oO.lt
  go_wp2_with fail
  refine (trim_any w1.heap.size 0 (m + 2 + 1) (m + 2 + 1) O _ (by omega) (Nat.le_refl _) (by omega) oO.rw).mono ?_
  rintro e w3 ⟨⟨k, hk, kz, kt, rfl⟩, rfl⟩
  have hkn : k = m + 2 := trim_len limO valO HDHI.out HDLO.out (by omega) hk kz kt
  subst hkn
  have valV : lv O (m + 2) = lv g (m + 2) * d := by rw [← lv_cut hk kz, valO]
  have VT : Hid (O (m + 1) ≠ 0) := by rcases kt with e | e; omega; exact e
  have VV : Hid _ := valV
  clear kt kz valO valV
  have oU2 := oU.below be2 oU.lt
  go_wp2_with (first | (at_make; refine wpList_make_full _ rfl _ _ 114 rfl w3.heap.size 2 i0 (.int .i64 0) 1 Tryz.underlying114 hi hz0 hz1 _ _ _ _ (n1 - (m + 2) + 1) rfl rfl (by omega) (by omega) (by rw [hz2]; omega) (by unfold maxLen; omega) (Nat.le_refl _) ?_))
  intro w4 hown4 hgrow4
  have oQ := Ow.of_own hown4
  have be4 : Below w3.heap.size w3 w4 := (Below.refl _ _).grown hgrow4 (Nat.le_refl _) (fun k h => by cases h)
  clear hown4 hgrow4
  have oU4 := oU2.below be4 oU2.lt
  have oO4 := oO.below be4 oO.lt
  have bAll : Below w.heap.size w w4 := (be1.trans (be2.mono s1)).trans (be4.mono (Nat.le_trans s1 s2))
  go_wp2_with fail
  obtain ⟨M, hM⟩ : ∃ M, M = n1 - (m + 2) + 1 := ⟨_, rfl⟩
  have HM : Hid (M = n1 - (m + 2) + 1) := hM
  have hst0 : LgI U (fun _ => 0) (n1 + 1) M (lv f n1 * d) (lv g (m + 2) * d) M := by
    rw [hM]; exact LgI.start limU valU hf.lt d0 (hg.hi (by omega)) (by omega) h12
  have hVpos : 0 < lv g (m + 2) * d := Nat.mul_pos (by have := hg.hi (by omega); have := posB (m + 2 - 1); omega) d0
  have hMb : M + (m + 2) = n1 + 1 := by omega
  rw [← hM] at oQ
  clear hM
  go_loopw [9] (fun i wr => ∃ k R Q, k ≤ M ∧ (k = 0 ∧ i = .int .i64 (-1) ∨ ∃ t, k = t + 1 ∧ i = .int .i64 (t : Nat)) ∧ Ow wr .i64 w.heap.size R (n1 + 1) ∧ Ow wr .i64 w1.heap.size O (m + 2 + 1) ∧ Ow wr .i64 w3.heap.size Q M ∧ LgI R Q (n1 + 1) M (lv f n1 * d) (lv g (m + 2) * d) k ∧ Below w.heap.size w wr) (fun i _ => (intOf i + 1).toNat)
  case atStart => exact ⟨M, U, fun _ => 0, Nat.le_refl _, Or.inr ⟨n1 - (m + 2), by have := HM.out; omega, by go_num⟩, oU4, oO4, oQ, hst0, bAll⟩
  case round =>
    obtain ⟨k, R, Q, hk', hii, oR, oV, oK, hL, hB⟩ := hrel
    clear oU4 oO4 oQ oU2 oU oO hst0 bAll be1 be2 be4
    have HV := VV.out
    rcases hii with ⟨rfl, rfl⟩ | ⟨t, rfl, rfl⟩
    · obtain ⟨dn1, dn2⟩ := hL.done d0
      have DN1 : Hid _ := dn1
      have DN2 : Hid _ := dn2
      clear dn1 dn2 HV
      go_wp2_with fail
      refine (trim_any w.heap.size 0 (n1 + 1) (n1 + 1) R _ (by omega) (Nat.le_refl _) (by omega) oR.rw).mono ?_
      rintro e w5 ⟨⟨k1, hk1, kz1, kt1, rfl⟩, rfl⟩
      have rR := oR.rw.mono hk1
      have KC : Hid _ := lv_cut hk1 kz1
      clear kz1 kt1
      go_wp2_with fail
      refine (divideByLimb_any w.heap.size 0 k1 (n1 + 1) d R _ (by omega) d0 dl rR (fun i hi => hL.lim i (by omega))).mono ?_
      rintro e w6 ⟨g6, m6, c6, q6, rfl, o6, h6, h6c, s6, nr6, vl6, be6, sh6⟩
      have oK6 := oK.below be6 oK.lt
      go_wp2_with fail
      rw [← HM.out]
      refine (trim_any w3.heap.size 0 M M Q _ (by omega) (Nat.le_refl _) (by omega) oK6.rw).mono ?_
      rintro e w7 ⟨⟨k2, hk2, kz2, kt2, rfl⟩, rfl⟩
      have KC2 : Hid _ := lv_cut hk2 kz2
      have hb' := hB.size
      go_wp2
      go_ret2
      refine ⟨some ⟨w3.heap.size, 0, none⟩, k2, M, Q, g6, m6, c6, q6, rfl, Or.inr ⟨_, rfl, ⟨fun i hi => oK6.cell i (by omega), oK6.frz, oK6.lt⟩⟩, ⟨fun i hi => hL.qlim i (by omega) (by omega), kt2⟩, ?_, by omega, o6, h6, nr6, ?_, by omega, by omega, hB.trans (be6.mono hb'), sh6⟩
      · rw [← KC2.out, DN1.out]
      · rw [vl6, ← KC.out, DN2.out]
    · obtain ⟨p1, p2, p3⟩ := hL.part (n := m + 2) HDHI.out (by omega)
      have rR : Rw wr w.heap.size t (sh R t) (m + 3) := oR.rwAt (by omega)
      have rV := oV.rw.mono (m := m + 2) (by omega)
      have limV : ∀ i, i < m + 2 → O i < 1000000000 := fun i hi => limO i (by omega)
      have hx : lv (sh (sh R t) 1) (m + 2) < lv O (m + 2) := by rw [sh_sh, HV]; exact p3
      have hBV : lv (sh R t) (m + 3) < 1000000000 * lv O (m + 2) := by rw [HV]; exact p2
      have HX : Hid _ := hx
      have HBV : Hid _ := hBV
      clear p1 p2 p3 HV hx hBV
      go_wp2_with fail
      rw [show t + (m + 2) + 1 - t = m + 3 by omega]
      refine (guessLimb_any w.heap.size t (n1 + 1 - t) w1.heap.size 0 (m + 2 + 1) m (sh R t) O _ (by omega) rR rV (fun i hi => hL.lim _ (by omega)) limV (by have := VT.out; omega) HX.out HBV.out).mono ?_
      rintro e w5 ⟨q, rfl, q1, q2, q3, hS⟩
      rw [VV.out] at q2 q3
      have oR5 := oR.sm hS
      have rV5 := rV.sm hS
      go_wp2_with fail
      rw [show m + 3 = m + 2 + 1 from rfl]
      refine (takeOff_any w.heap.size t (m + 2) (n1 + 1) (n1 + 1 - t) w1.heap.size 0 (m + 2 + 1) q R O _ (by omega) (by omega) (by omega) (by omega) q1 (by omega) oR5 hL.lim rV5 limV (by omega)).mono ?_
      rintro e w6 ⟨S, mm, rfl, mle, oS, limS, outS, valS, hW⟩
      rw [VV.out] at valS
      have hVW : lv g (m + 2) * d < 1000000000 ^ (m + 2 + 1) := Nat.lt_of_lt_of_le HDHI.out (Nat.pow_le_pow_right (by omega) (by omega))
      have hsl : lv (sh S t) (m + 2 + 1) < 1000000000 ^ (m + 2 + 1) := lv_lt fun i hi => limS _ (by omega)
      obtain ⟨z0, z1⟩ := round_q hVpos q2 q3 hsl hVW mle valS
      have Z0 : Hid _ := z0
      have Z1 : Hid _ := z1
      have Q2 : Hid _ := q2
      have Q3 : Hid _ := q3
      have VS : Hid _ := valS
      have VW : Hid _ := hVW
      have SL : Hid _ := hsl
      clear z0 z1 q2 q3 valS hVW hsl
      have oK6 := (oK.sm hS).kept hW (by omega)
      have oV6 := (oV.sm hS).kept hW (by omega)
      have rV6 := rV5.kept hW (by omega)
      have hB6 := (hB.trans (hS.below _)).trans (hW.below (Nat.le_refl _))
      rcases Nat.eq_zero_or_pos mm with cm | cm
      · subst cm
        obtain ⟨y1, y2⟩ := Z0.out rfl
        have hcl := oK6.cell t (by omega)
        have hfz := oK6.frz t
        have hnew := hL.step (S := S) hVpos HDHI.out (by omega) (by omega) limS outS y2
        rw [← y1] at hnew
        have NEW : Hid _ := hnew
        clear y1 y2 hnew
        have oK7 := oK6.store (j := t) (by omega) q
        have wK : Wr w6 (w6.setCell ⟨w3.heap.size, t, none⟩ (.int .i64 (q : Nat))) w3.heap.size := (Wr.refl _ _).setCell _ _
        have oS7 := oS.kept wK (by omega)
        have oV7 := oV6.kept wK (by omega)
        rw [show decide ((0 : Nat) = 1) = false from rfl]
        go_wp2
        go_roundw
        case rel =>
          refine ⟨t, S, _, by omega, ?_, oS7, oV7, oK7, NEW.out, hB6.setCell (p := ⟨w3.heap.size, t, none⟩) (by show w.heap.size ≤ w3.heap.size; omega) _⟩
          rcases Nat.eq_zero_or_pos t with e | e
          · exact Or.inl ⟨e, by subst e; rfl⟩
          · exact Or.inr ⟨t - 1, by omega, by go_num⟩
        case measure => simp [intOf]
      · have cm1 : mm = 1 := by omega
        subst cm1
        have y1 := Z1.out rfl
        have Y1 : Hid _ := y1
        clear y1
        have hq1 : 1 ≤ q := Nat.le_trans (Nat.le_add_left 1 _) (Nat.le_of_eq Y1.out.symm)
        rw [show decide ((1 : Nat) = 1) = true from rfl]
        go_wp2_with fail
        rw [show m + 3 = m + 2 + 1 from rfl]
        refine (putBack_any w.heap.size t (m + 2) (n1 + 1) (n1 + 1 - t) w1.heap.size 0 (m + 2 + 1) S O _ (by omega) (by omega) (by omega) (by omega) (by omega) oS limS rV6 limV (by omega)).mono ?_
        rintro e w7 ⟨Z, c, rfl, oZ, limZ, outZ, valZ, hW7⟩
        rw [VV.out] at valZ
        have hzl : lv (sh Z t) (m + 2 + 1) < 1000000000 ^ (m + 2 + 1) := lv_lt fun i hi => limZ _ (by omega)
        have y2 := round_back hVpos Y1.out VW.out hzl VS.out valZ
        have oK7 := oK6.kept hW7 (by omega)
        have oV7 := oV6.kept hW7 (by omega)
        have hB7 := hB6.trans (hW7.below (Nat.le_refl _))
        have hcl := oK7.cell t (by omega)
        have hfz := oK7.frz t
        have hnew := hL.step (S := Z) hVpos HDHI.out (by omega) (by omega) limZ (fun i hi => by rw [outZ i hi, outS i hi]) y2
        have hqe : lv (sh R t) (m + 2 + 1) / (lv g (m + 2) * d) = q - 1 := Nat.eq_sub_of_add_eq Y1.out.symm
        rw [hqe] at hnew
        have NEW : Hid _ := hnew
        clear y2 hnew hqe valZ hzl
        have oK8 := oK7.store (j := t) (by omega) (q - 1)
        have wK : Wr w7 (w7.setCell ⟨w3.heap.size, t, none⟩ (.int .i64 ((q - 1 : Nat) : Int))) w3.heap.size := (Wr.refl _ _).setCell _ _
        have oZ8 := oZ.kept wK (by omega)
        have oV8 := oV7.kept wK (by omega)
        have hqi : (q : Int) - 1 = ((q - 1 : Nat) : Int) := by omega
        go_wp2
        go_roundw
        case rel =>
          refine ⟨t, Z, _, by omega, ?_, oZ8, oV8, oK8, NEW.out, hB7.setCell (p := ⟨w3.heap.size, t, none⟩) (by show w.heap.size ≤ w3.heap.size; omega) _⟩
          rcases Nat.eq_zero_or_pos t with e | e
          · exact Or.inl ⟨e, by subst e; rfl⟩
          · exact Or.inr ⟨t - 1, by omega, by go_num⟩
        case measure => simp [intOf]
end Go.Proofs.YtpmnfgbbkmodpaaGreatDoor
