/-
  THE GREATEST COMMON DIVISOR: what a call of commonDivisor and of Gcd gives. Conditions: sizes; the limbs' form.
-/
import Derived.Test.YtpmnfgbbkmodpaaGreatDoorApply
namespace Go.Proofs.YtpmnfgbbkmodpaaGreatDoor
set_option maxRecDepth 100000
open Go.RowKit Nm
set_option linter.unusedVariables false

def rd (w : World) (g : Nat) : Nat → Nat := fun i => match w.cell? ⟨g, i, none⟩ with
  | some (.int _ z) => z.toNat
  | _ => 0
def mv (v : Value) (w : World) : Nat := match v with
  | .slice (some ad) n _ => lv (rd w ad.block) n
  | _ => 0

theorem mv_of {w : World} {g n c : Nat} {f : Nat → Nat} (h : Ow w .i64 g f n) : mv (.slice (some ⟨g, 0, none⟩) n c) w = lv f n := by
  show lv (rd w g) n = lv f n
  refine lv_congr fun i hi => ?_
  unfold rd
  rw [h.cell i hi]
  simp

/-- two rows of limbs, the first one not less, with a greatest common divisor -/
def Two (w0 : World) (base D : Nat) (va vb : Value) (w : World) : Prop :=
  ∃ ga na ca gb nb cb f g, va = .slice (some ⟨ga, 0, none⟩) na ca ∧ vb = .slice (some ⟨gb, 0, none⟩) nb cb ∧ Ow w .i64 ga f na ∧ Shp w ga ca ∧ na ≤ ca ∧ Ow w .i64 gb g nb ∧ Shp w gb cb ∧ nb ≤ cb ∧ gb ≠ ga ∧ base ≤ ga ∧ base ≤ gb ∧ Nrm f na ∧ Nrm g nb ∧ lv g nb ≤ lv f na ∧ Nat.gcd (lv f na) (lv g nb) = D ∧ na ≤ 10000 ∧ Below base w0 w ∧ base ≤ w.heap.size

/-- what a mixture does to two numbers -/
theorem mix_use {X Y U V : Nat} {a b c d : Int} (hm : Mix X Y a b c d) (hb : b ≠ 0) (hl : Lead X Y U V) :
    ∃ U' V' : Nat, a * (U : Int) + b * (V : Int) = (U' : Int) ∧ c * (U : Int) + d * (V : Int) = (V' : Int) ∧ V' < U' ∧ U' ≤ U ∧ V' < V ∧ Nat.gcd U' V' = Nat.gcd U V ∧ Opp a b ∧ Opp c d := by
  obtain ⟨E, α, β, e1, e2, h1, h2, _, _⟩ := hl
  rcases hm with ⟨_, h, _⟩ | ⟨x, y, p, r, s, t, hr, bp, br, bs, bt, ⟨ea, eb, ec, ed, hv⟩ | ⟨ea, eb, ec, ed, hv⟩⟩
  · exact absurd h hb
  · obtain ⟨U', V', k1, k2, k3, k4, k5⟩ := hv.fin h1 h2
    rw [← e1, ← e2] at k1 k2
    rw [← e1] at k4
    rw [← e2] at k5
    have t1 : 1 * U' ≤ t * U' := Nat.mul_le_mul_right _ hv.t1
    have s1 : 1 * U' ≤ s * U' := Nat.mul_le_mul_right _ hv.s1
    have i1 : (p : Int) * (U : Int) = (U' : Int) + (r : Int) * (V : Int) := by rw [← Int.natCast_mul, ← Int.natCast_mul, ← Int.natCast_add, k1]
    have i2 : (t : Int) * (V : Int) = (V' : Int) + (s : Int) * (U : Int) := by rw [← Int.natCast_mul, ← Int.natCast_mul, ← Int.natCast_add, k2]
    refine ⟨U', V', ?_, ?_, k3, by omega, by omega, gcd_mix k1 k2 k4 k5, ⟨p, r, bp, br, Or.inl ⟨ea, eb⟩⟩, ⟨s, t, bs, bt, Or.inr ⟨ec, ed⟩⟩⟩
    · rw [ea, eb, Int.neg_mul]; omega
    · rw [ec, ed, Int.neg_mul]; omega
  · obtain ⟨U', V', k1, k2, k3, k4, k5⟩ := hv.fin h2 h1
    rw [← e1, ← e2] at k1 k2
    rw [← e2] at k4
    rw [← e1] at k5
    have t1 : 1 * U' ≤ s * U' := Nat.mul_le_mul_right _ hv.t1
    have s1 : 1 * U' ≤ t * U' := Nat.mul_le_mul_right _ hv.s1
    have i1 : (r : Int) * (V : Int) = (U' : Int) + (p : Int) * (U : Int) := by rw [← Int.natCast_mul, ← Int.natCast_mul, ← Int.natCast_add, k1]
    have i2 : (s : Int) * (U : Int) = (V' : Int) + (t : Int) * (V : Int) := by rw [← Int.natCast_mul, ← Int.natCast_mul, ← Int.natCast_add, k2]
    refine ⟨U', V', ?_, ?_, k3, by omega, by omega, by rw [gcd_mix k1 k2 k4 k5, Nat.gcd_comm], ⟨p, r, bp, br, Or.inr ⟨ea, eb⟩⟩, ⟨s, t, bs, bt, Or.inl ⟨ec, ed⟩⟩⟩
    · rw [ea, eb, Int.neg_mul]; omega
    · rw [ec, ed, Int.neg_mul]; omega

set_option maxRecDepth 100000 in
set_option maxHeartbeats 2000000 in
theorem common_more (g1 n1 c1 g2 n2 c2 base : Nat) (F G : Nat → Nat) (w : World) (hn1 : n1 ≤ 10000) (hn2 : n2 ≤ 10000) (hc1 : n1 ≤ c1) (hc2 : n2 ≤ c2) (hne : g2 ≠ g1) (hb0 : base ≤ w.heap.size) (hb1 : base ≤ g1) (hb2 : base ≤ g2)
    (oF : Ow w .i64 g1 F n1) (sF : Shp w g1 c1) (oG : Ow w .i64 g2 G n2) (sG : Shp w g2 c2) (hF : Nrm F n1) (hG : Nrm G n2) (hord : lv G n2 ≤ lv F n1) :
    Calls Tryz.prog 103 #[.slice (some ⟨g1, 0, none⟩) n1 c1, .slice (some ⟨g2, 0, none⟩) n2 c2] w fun e w' =>
      ∃ g n cap f, e = .returned (.slice (some ⟨g, 0, none⟩) n cap) ∧ Ow w' .i64 g f n ∧ Nrm f n ∧ lv f n = Nat.gcd (lv F n1) (lv G n2) ∧ n ≤ 100000 ∧ Below base w w' := by
  have hsg : ¬ sg (lv F n1 : Nat) (lv G n2 : Nat) < 0 := sg_nonneg (by omega)
  go_enter Tryz.func103, Tryz.ntmps103
  go_wp2_with fail
  refine (compare_any g1 0 n1 c1 g2 0 n2 c2 F G _ (by omega) (by omega) oF.rw oG.rw hF hG).mono ?_
  rintro e w1 ⟨rfl, hS⟩
  have oF' := oF.sm hS
  have oG' := oG.sm hS
  have sF' := sF.heap hS.heap
  have sG' := sG.heap hS.heap
  have hB1 := hS.below base
  have hsz1 : base ≤ w1.heap.size := by rw [hS.heap]; exact hb0
  go_wp2_with fail
  go_loopw [0, 1] (fun va vb wr => Two w base (Nat.gcd (lv F n1) (lv G n2)) va vb wr) (fun _ vb wr => mv vb wr)
  case atStart => exact ⟨g1, n1, c1, g2, n2, c2, F, G, rfl, rfl, oF', sF', hc1, oG', sG', hc2, hne, hb1, hb2, hF, hG, by omega, rfl, by omega, hB1, hsz1⟩
  case round =>
    obtain ⟨ga, na, ca, gb, nb, cb, f, g, rfl, rfl, oA, sA, hca, oB, sB, hcb, hab, hba, hbb, nA, nB, hle, hgcd, hna, hB, hsz⟩ := hrel
    clear hB1 hsz1 oF' oG' sF' sG' hS
    have HG : Hid _ := hgcd
    clear hgcd
    have hnb : nb ≤ na := nB.len_le nA hle
    have lA := oA.lt
    have lB := oB.lt
    by_cases h3 : 2 < na
    · rcases Nat.eq_zero_or_pos nb with h0 | h0
      · subst h0
        go_wp2
        go_ret
        exact ⟨ga, na, ca, f, rfl, oA, nA, by rw [← HG.out]; simp [lv], by omega, hB⟩
      · obtain ⟨m, rfl⟩ : ∃ m, na = m + 3 := ⟨na - 3, by omega⟩
        go_wp2_with fail
        refine (leading_any ga m ca gb nb cb f g _ (by omega) (by omega) oA.rw oB.rw nA nB hle).mono ?_
        rintro e w2 ⟨X, Y, rfl, hLead, hS2⟩
        have hXY : X < 1000000000000000000 ∧ Y ≤ X := by obtain ⟨_, _, _, _, _, _, _, h1, h2⟩ := hLead; exact ⟨h1, h2⟩
        obtain ⟨hX, hYX⟩ := hXY
        have HLD : Hid _ := hLead
        clear hLead
        have oA2 := oA.sm hS2
        have oB2 := oB.sm hS2
        have sA2 := sA.heap hS2.heap
        have sB2 := sB.heap hS2.heap
        have hB2 := hB.trans (hS2.below base)
        have hsz2 : base ≤ w2.heap.size := by rw [hS2.heap]; exact hsz
        have hMV : Hid (mv (.slice (some ⟨gb, 0, none⟩) nb cb) wr = lv g nb) := mv_of oB
        clear oA oB sA sB lA lB
        go_wp2_with fail
        refine (stepsOf_any X Y _ hX hYX).mono ?_
        rintro e w3 ⟨a, b, c, d, rfl, hMix, be3⟩
        have HMX : Hid _ := hMix
        clear hMix
        have oA3 := oA2.below be3 oA2.lt
        have oB3 := oB2.below be3 oB2.lt
        have sA3 := sA2.below be3 oA2.lt
        have sB3 := sB2.below be3 oB2.lt
        have hB3 := hB2.trans (be3.mono hsz2)
        have hsz3 : base ≤ w3.heap.size := Nat.le_trans hsz2 be3.size
        clear oA2 oB2 sA2 sB2
        have hVpos : 0 < lv g nb := by have := nB.hi h0; have := posB (nb - 1); omega
        have be4 : Below w3.heap.size w3 (w3.alloc (.cells #[.int .i64 a, .int .i64 b, .int .i64 c, .int .i64 d] 139)) := (Below.refl _ _).alloc (Nat.le_refl _) _
        have oA4 := oA3.below be4 oA3.lt
        have oB4 := oB3.below be4 oB3.lt
        have sA4 := sA3.below be4 oA3.lt
        have sB4 := sB3.below be4 oB3.lt
        have hB4 := hB3.trans (be4.mono hsz3)
        have hsz4 : base ≤ (w3.alloc (.cells #[.int .i64 a, .int .i64 b, .int .i64 c, .int .i64 d] 139)).heap.size := Nat.le_trans hsz3 be4.size
        clear oA3 oB3 sA3 sB3
        by_cases hb : b = 0
        · have hb' : (b == 0) = true := by simp [hb]
          clear hb
          go_wp2_with fail
          refine (none_any a b c d _).mono ?_
          rintro e w5 ⟨rfl, be5⟩
          have oA5 := oA4.below be5 oA4.lt
          have oB5 := oB4.below be5 oB4.lt
          have sB5 := sB4.below be5 oB4.lt
          have hB5 := hB4.trans (be5.mono hsz4)
          have hsz5 : base ≤ w5.heap.size := Nat.le_trans hsz4 be5.size
          clear oA4 oB4 sA4 sB4 be4 be5
          go_wp2_with fail
          refine (divide_any ga (m + 3) ca gb nb cb f g _ (by omega) (by omega) oA5.rw oB5.rw nA nB hVpos).mono ?_
          rintro e w6 ⟨ao, m3, c3, q, g4, n, c4, r, rfl, hq, hqn, hqv, hm, hO, hnc, hrn, hrv, hn, hg4, hB6, hSh⟩
          have oB6 := oB5.below hB6 oB5.lt
          have sB6 := sB5.below hB6 oB5.lt
          have hB7 := hB5.trans (hB6.mono hsz5)
          have hsz6 : base ≤ w6.heap.size := Nat.le_trans hsz5 hB6.size
          have lB5 := oB5.lt
          have hml := Nat.mod_lt (lv f (m + 3)) hVpos
          go_wp2
          go_roundw
          case rel =>
            refine ⟨gb, nb, cb, g4, n, c4, g, r, rfl, rfl, oB6, sB6, hcb, hO, hSh, hnc, by omega, hbb, by omega, nB, hrn, by rw [hrv]; omega, ?_, by omega, hB7, hsz6⟩
            rw [← HG.out, hrv, Nat.gcd_comm (lv g nb), ← Nat.gcd_rec, Nat.gcd_comm]
          case measure => rw [mv_of hO, hMV.out, hrv]; exact hml
        · have hb' : (b == 0) = false := by simp [hb]
          obtain ⟨U', V', u1, u2, u3, u4, u5, u6, u7, u8⟩ := mix_use HMX.out hb HLD.out
          have hlt := nA.lt
          have U1 : Hid _ := u1
          have U2 : Hid _ := u2
          have U6 : Hid _ := u6
          have UL : Hid (U' < 1000000000 ^ (m + 3)) := Nat.lt_of_le_of_lt u4 hlt
          have VL : Hid (V' < 1000000000 ^ (m + 3)) := Nat.lt_of_lt_of_le u3 (Nat.le_of_lt UL.out)
          clear u1 u2 u6 hlt
          go_wp2_with fail
          refine (none_any a b c d _).mono ?_
          rintro e w5 ⟨rfl, be5⟩
          have oA5 := oA4.below be5 oA4.lt
          have oB5 := oB4.below be5 oB4.lt
          have sA5 := sA4.below be5 oA4.lt
          have sB5 := sB4.below be5 oB4.lt
          have hB5 := hB4.trans (be5.mono hsz4)
          have hsz5 : base ≤ w5.heap.size := Nat.le_trans hsz4 be5.size
          have hM4 : M4 w5 w3.heap.size a b c d := by
            have h : M4 (w3.alloc (.cells #[.int .i64 a, .int .i64 b, .int .i64 c, .int .i64 d] 139)) w3.heap.size a b c d := by constructor <;> simp [go_sem]
            exact h.same (be5.block w3.heap.size (by simp))
          have m0 := hM4.c0
          have m1 := hM4.c1
          have m2 := hM4.c2
          have m3 := hM4.c3
          clear oA4 oB4 sA4 sB4 be4 be5 hM4
          go_wp2_with fail
          refine (apply_any a b c d ga (m + 3) ca gb nb cb base U' V' f g _ (by omega) hnb hca hcb hab hsz5 hba hbb oA5 sA5 oB5 sB5 nA.1 nB.1 u7 u8 U1.out U2.out UL.out VL.out).mono ?_
          rintro e w6 ⟨k1, g6, k2, c6, A, B, rfl, o1, s1, l1, r1, v1, o2, s2, l2, r2, v2, n6, b6, q1, q2, be6⟩
          have hB6 := hB5.trans be6
          have hsz6 : base ≤ w6.heap.size := Nat.le_trans hsz5 be6.size
          go_wp2
          go_roundw
          case rel => exact ⟨ga, k1, ca, g6, k2, c6, A, B, rfl, rfl, o1, s1, l1, o2, s2, l2, n6, hba, b6, r1, r2, by rw [v1, v2]; omega, by rw [v1, v2, U6.out, HG.out], by omega, hB6, hsz6⟩
          case measure => rw [mv_of o2, hMV.out, v2]; exact u5
    · have hd : decide ((2 : Int) < (na : Int)) = false := by simp; omega
      rcases Nat.eq_zero_or_pos nb with h0 | h0
      · subst h0
        go_wp2
        go_ret
        exact ⟨ga, na, ca, f, rfl, oA, nA, by rw [← HG.out]; simp [lv], by omega, hB⟩
      · have hz : (((nb : Nat) : Int) == 0) = false := by simp; omega
        go_wp2_with fail
        refine (smallDivisor_any ga na ca gb nb cb f g _ (by omega) (by omega) oA.rw oB.rw nA.1 nB.1).mono ?_
        rintro e w2 ⟨g3, n3, c3, f3, rfl, ow3, le3, cp3, gs3, nr3, vl3, be3⟩
        go_wp2
        go_ret
        exact ⟨g3, n3, c3, f3, rfl, ow3, nr3, by rw [vl3, HG.out], by omega, hB.trans (be3.mono hsz)⟩

set_option maxRecDepth 100000 in
set_option maxHeartbeats 2000000 in
theorem common_less (g1 n1 c1 g2 n2 c2 base : Nat) (F G : Nat → Nat) (w : World) (hn1 : n1 ≤ 10000) (hn2 : n2 ≤ 10000) (hc1 : n1 ≤ c1) (hc2 : n2 ≤ c2) (hne : g2 ≠ g1) (hb0 : base ≤ w.heap.size) (hb1 : base ≤ g1) (hb2 : base ≤ g2)
    (oF : Ow w .i64 g1 F n1) (sF : Shp w g1 c1) (oG : Ow w .i64 g2 G n2) (sG : Shp w g2 c2) (hF : Nrm F n1) (hG : Nrm G n2) (hord : lv F n1 < lv G n2) :
    Calls Tryz.prog 103 #[.slice (some ⟨g1, 0, none⟩) n1 c1, .slice (some ⟨g2, 0, none⟩) n2 c2] w fun e w' =>
      ∃ g n cap f, e = .returned (.slice (some ⟨g, 0, none⟩) n cap) ∧ Ow w' .i64 g f n ∧ Nrm f n ∧ lv f n = Nat.gcd (lv F n1) (lv G n2) ∧ n ≤ 100000 ∧ Below base w w' := by
  have hsg : sg (lv F n1 : Nat) (lv G n2 : Nat) < 0 := by rw [sg_lt (by omega)]; omega
  go_enter Tryz.func103, Tryz.ntmps103
  go_wp2_with fail
  refine (compare_any g1 0 n1 c1 g2 0 n2 c2 F G _ (by omega) (by omega) oF.rw oG.rw hF hG).mono ?_
  rintro e w1 ⟨rfl, hS⟩
  have oF' := oF.sm hS
  have oG' := oG.sm hS
  have sF' := sF.heap hS.heap
  have sG' := sG.heap hS.heap
  have hB1 := hS.below base
  have hsz1 : base ≤ w1.heap.size := by rw [hS.heap]; exact hb0
  go_wp2_with fail
  go_loopw [0, 1] (fun va vb wr => Two w base (Nat.gcd (lv F n1) (lv G n2)) va vb wr) (fun _ vb wr => mv vb wr)
  case atStart => exact ⟨g2, n2, c2, g1, n1, c1, G, F, rfl, rfl, oG', sG', hc2, oF', sF', hc1, Ne.symm hne, hb2, hb1, hG, hF, by omega, by rw [Nat.gcd_comm], by omega, hB1, hsz1⟩
  case round =>
    obtain ⟨ga, na, ca, gb, nb, cb, f, g, rfl, rfl, oA, sA, hca, oB, sB, hcb, hab, hba, hbb, nA, nB, hle, hgcd, hna, hB, hsz⟩ := hrel
    clear hB1 hsz1 oF' oG' sF' sG' hS
    have HG : Hid _ := hgcd
    clear hgcd
    have hnb : nb ≤ na := nB.len_le nA hle
    have lA := oA.lt
    have lB := oB.lt
    by_cases h3 : 2 < na
    · rcases Nat.eq_zero_or_pos nb with h0 | h0
      · subst h0
        go_wp2
        go_ret
        exact ⟨ga, na, ca, f, rfl, oA, nA, by rw [← HG.out]; simp [lv], by omega, hB⟩
      · obtain ⟨m, rfl⟩ : ∃ m, na = m + 3 := ⟨na - 3, by omega⟩
        go_wp2_with fail
        refine (leading_any ga m ca gb nb cb f g _ (by omega) (by omega) oA.rw oB.rw nA nB hle).mono ?_
        rintro e w2 ⟨X, Y, rfl, hLead, hS2⟩
        have hXY : X < 1000000000000000000 ∧ Y ≤ X := by obtain ⟨_, _, _, _, _, _, _, h1, h2⟩ := hLead; exact ⟨h1, h2⟩
        obtain ⟨hX, hYX⟩ := hXY
        have HLD : Hid _ := hLead
        clear hLead
        have oA2 := oA.sm hS2
        have oB2 := oB.sm hS2
        have sA2 := sA.heap hS2.heap
        have sB2 := sB.heap hS2.heap
        have hB2 := hB.trans (hS2.below base)
        have hsz2 : base ≤ w2.heap.size := by rw [hS2.heap]; exact hsz
        have hMV : Hid (mv (.slice (some ⟨gb, 0, none⟩) nb cb) wr = lv g nb) := mv_of oB
        clear oA oB sA sB lA lB
        go_wp2_with fail
        refine (stepsOf_any X Y _ hX hYX).mono ?_
        rintro e w3 ⟨a, b, c, d, rfl, hMix, be3⟩
        have HMX : Hid _ := hMix
        clear hMix
        have oA3 := oA2.below be3 oA2.lt
        have oB3 := oB2.below be3 oB2.lt
        have sA3 := sA2.below be3 oA2.lt
        have sB3 := sB2.below be3 oB2.lt
        have hB3 := hB2.trans (be3.mono hsz2)
        have hsz3 : base ≤ w3.heap.size := Nat.le_trans hsz2 be3.size
        clear oA2 oB2 sA2 sB2
        have hVpos : 0 < lv g nb := by have := nB.hi h0; have := posB (nb - 1); omega
        have be4 : Below w3.heap.size w3 (w3.alloc (.cells #[.int .i64 a, .int .i64 b, .int .i64 c, .int .i64 d] 139)) := (Below.refl _ _).alloc (Nat.le_refl _) _
        have oA4 := oA3.below be4 oA3.lt
        have oB4 := oB3.below be4 oB3.lt
        have sA4 := sA3.below be4 oA3.lt
        have sB4 := sB3.below be4 oB3.lt
        have hB4 := hB3.trans (be4.mono hsz3)
        have hsz4 : base ≤ (w3.alloc (.cells #[.int .i64 a, .int .i64 b, .int .i64 c, .int .i64 d] 139)).heap.size := Nat.le_trans hsz3 be4.size
        clear oA3 oB3 sA3 sB3
        by_cases hb : b = 0
        · have hb' : (b == 0) = true := by simp [hb]
          clear hb
          go_wp2_with fail
          refine (none_any a b c d _).mono ?_
          rintro e w5 ⟨rfl, be5⟩
          have oA5 := oA4.below be5 oA4.lt
          have oB5 := oB4.below be5 oB4.lt
          have sB5 := sB4.below be5 oB4.lt
          have hB5 := hB4.trans (be5.mono hsz4)
          have hsz5 : base ≤ w5.heap.size := Nat.le_trans hsz4 be5.size
          clear oA4 oB4 sA4 sB4 be4 be5
          go_wp2_with fail
          refine (divide_any ga (m + 3) ca gb nb cb f g _ (by omega) (by omega) oA5.rw oB5.rw nA nB hVpos).mono ?_
          rintro e w6 ⟨ao, m3, c3, q, g4, n, c4, r, rfl, hq, hqn, hqv, hm, hO, hnc, hrn, hrv, hn, hg4, hB6, hSh⟩
          have oB6 := oB5.below hB6 oB5.lt
          have sB6 := sB5.below hB6 oB5.lt
          have hB7 := hB5.trans (hB6.mono hsz5)
          have hsz6 : base ≤ w6.heap.size := Nat.le_trans hsz5 hB6.size
          have lB5 := oB5.lt
          have hml := Nat.mod_lt (lv f (m + 3)) hVpos
          go_wp2
          go_roundw
          case rel =>
            refine ⟨gb, nb, cb, g4, n, c4, g, r, rfl, rfl, oB6, sB6, hcb, hO, hSh, hnc, by omega, hbb, by omega, nB, hrn, by rw [hrv]; omega, ?_, by omega, hB7, hsz6⟩
            rw [← HG.out, hrv, Nat.gcd_comm (lv g nb), ← Nat.gcd_rec, Nat.gcd_comm]
          case measure => rw [mv_of hO, hMV.out, hrv]; exact hml
        · have hb' : (b == 0) = false := by simp [hb]
          obtain ⟨U', V', u1, u2, u3, u4, u5, u6, u7, u8⟩ := mix_use HMX.out hb HLD.out
          have hlt := nA.lt
          have U1 : Hid _ := u1
          have U2 : Hid _ := u2
          have U6 : Hid _ := u6
          have UL : Hid (U' < 1000000000 ^ (m + 3)) := Nat.lt_of_le_of_lt u4 hlt
          have VL : Hid (V' < 1000000000 ^ (m + 3)) := Nat.lt_of_lt_of_le u3 (Nat.le_of_lt UL.out)
          clear u1 u2 u6 hlt
          go_wp2_with fail
          refine (none_any a b c d _).mono ?_
          rintro e w5 ⟨rfl, be5⟩
          have oA5 := oA4.below be5 oA4.lt
          have oB5 := oB4.below be5 oB4.lt
          have sA5 := sA4.below be5 oA4.lt
          have sB5 := sB4.below be5 oB4.lt
          have hB5 := hB4.trans (be5.mono hsz4)
          have hsz5 : base ≤ w5.heap.size := Nat.le_trans hsz4 be5.size
          have hM4 : M4 w5 w3.heap.size a b c d := by
            have h : M4 (w3.alloc (.cells #[.int .i64 a, .int .i64 b, .int .i64 c, .int .i64 d] 139)) w3.heap.size a b c d := by constructor <;> simp [go_sem]
            exact h.same (be5.block w3.heap.size (by simp))
          have m0 := hM4.c0
          have m1 := hM4.c1
          have m2 := hM4.c2
          have m3 := hM4.c3
          clear oA4 oB4 sA4 sB4 be4 be5 hM4
          go_wp2_with fail
          refine (apply_any a b c d ga (m + 3) ca gb nb cb base U' V' f g _ (by omega) hnb hca hcb hab hsz5 hba hbb oA5 sA5 oB5 sB5 nA.1 nB.1 u7 u8 U1.out U2.out UL.out VL.out).mono ?_
          rintro e w6 ⟨k1, g6, k2, c6, A, B, rfl, o1, s1, l1, r1, v1, o2, s2, l2, r2, v2, n6, b6, q1, q2, be6⟩
          have hB6 := hB5.trans be6
          have hsz6 : base ≤ w6.heap.size := Nat.le_trans hsz5 be6.size
          go_wp2
          go_roundw
          case rel => exact ⟨ga, k1, ca, g6, k2, c6, A, B, rfl, rfl, o1, s1, l1, o2, s2, l2, n6, hba, b6, r1, r2, by rw [v1, v2]; omega, by rw [v1, v2, U6.out, HG.out], by omega, hB6, hsz6⟩
          case measure => rw [mv_of o2, hMV.out, v2]; exact u5
    · have hd : decide ((2 : Int) < (na : Int)) = false := by simp; omega
      rcases Nat.eq_zero_or_pos nb with h0 | h0
      · subst h0
        go_wp2
        go_ret
        exact ⟨ga, na, ca, f, rfl, oA, nA, by rw [← HG.out]; simp [lv], by omega, hB⟩
      · have hz : (((nb : Nat) : Int) == 0) = false := by simp; omega
        go_wp2_with fail
        refine (smallDivisor_any ga na ca gb nb cb f g _ (by omega) (by omega) oA.rw oB.rw nA.1 nB.1).mono ?_
        rintro e w2 ⟨g3, n3, c3, f3, rfl, ow3, le3, cp3, gs3, nr3, vl3, be3⟩
        go_wp2
        go_ret
        exact ⟨g3, n3, c3, f3, rfl, ow3, nr3, by rw [vl3, HG.out], by omega, hB.trans (be3.mono hsz)⟩

theorem commonDivisor_any (g1 n1 c1 g2 n2 c2 base : Nat) (F G : Nat → Nat) (w : World) (hn1 : n1 ≤ 10000) (hn2 : n2 ≤ 10000) (hc1 : n1 ≤ c1) (hc2 : n2 ≤ c2) (hne : g2 ≠ g1) (hb0 : base ≤ w.heap.size) (hb1 : base ≤ g1) (hb2 : base ≤ g2)
    (oF : Ow w .i64 g1 F n1) (sF : Shp w g1 c1) (oG : Ow w .i64 g2 G n2) (sG : Shp w g2 c2) (hF : Nrm F n1) (hG : Nrm G n2) :
    Calls Tryz.prog 103 #[.slice (some ⟨g1, 0, none⟩) n1 c1, .slice (some ⟨g2, 0, none⟩) n2 c2] w fun e w' =>
      ∃ g n cap f, e = .returned (.slice (some ⟨g, 0, none⟩) n cap) ∧ Ow w' .i64 g f n ∧ Nrm f n ∧ lv f n = Nat.gcd (lv F n1) (lv G n2) ∧ n ≤ 100000 ∧ Below base w w' := by
  rcases Nat.lt_or_ge (lv F n1) (lv G n2) with c | c
  · exact common_less g1 n1 c1 g2 n2 c2 base F G w hn1 hn2 hc1 hc2 hne hb0 hb1 hb2 oF sF oG sG hF hG c
  · exact common_more g1 n1 c1 g2 n2 c2 base F G w hn1 hn2 hc1 hc2 hne hb0 hb1 hb2 oF sF oG sG hF hG c

set_option maxHeartbeats 1000000 in
theorem Gcd_any (x y : Nat) (w : World) (hx : tl x ≤ 10000) (hy : tl y ≤ 10000) :
    Calls Tryz.prog 81 #[.string (S x), .string (S y)] w fun e w' => e = .returned (.tuple #[.string (S (Nat.gcd x y)), .int .i64 0]) ∧ Below w.heap.size w w' := by
  have HX : Hid _ := S_size x
  have HY : Hid _ := S_size y
  have zx : (S x).size ≤ 10000 := by rw [HX.out]; exact hx
  have zy : (S y).size ≤ 10000 := by rw [HY.out]; exact hy
  go_enter Tryz.func81, Tryz.ntmps81
  go_wp2_with fail
  refine (bothRight_yes (S x) (S y) _ (by omega) (by omega) (rt_S x) (rt_S y)).mono ?_
  rintro e w2 ⟨rfl, rfl⟩
  go_wp2_with fail
  refine (parse_any (S x) _ zx (rt_dg (rt_S x))).mono ?_
  rintro e w1 ⟨g1, n1, c1, f1, rfl, ow1, le1, cp1, gs1, nr1, vl1, be1, sh1⟩
  go_wp2_with fail
  refine (parse_any (S y) _ zy (rt_dg (rt_S y))).mono ?_
  rintro e w3 ⟨g2, n2, c2, f2, rfl, ow2, le2, cp2, gs2, nr2, vl2, be2, sh2⟩
  rw [dv_S] at vl1 vl2
  have l1 := len_bd nr1 vl1
  have l2 := len_bd nr2 vl2
  have lt1 := ow1.lt
  have ow1' := ow1.below be2 lt1
  have sh1' := sh1.below be2 lt1
  have z1 := be1.size
  have z2 := be2.size
  go_wp2_with fail
  refine (commonDivisor_any g1 n1 c1 g2 n2 c2 w2.heap.size f1 f2 _ (by omega) (by omega) le1 le2 (by omega) (by omega) gs1 (by omega) ow1' sh1' ow2 sh2 nr1 nr2).mono ?_
  rintro e w4 ⟨g3, n3, c3, f3, rfl, ow3, nr3, vl3, ln3, be3⟩
  have hB3 := (be1.trans (be2.mono z1)).trans be3
  go_wp2_with fail
  refine (text_S g3 0 n3 c3 f3 _ ln3 ow3.rw nr3).mono ?_
  rintro e w5 ⟨rfl, be4⟩
  rw [vl3, vl1, vl2]
  go_wp2
  go_ret2
  exact ⟨rfl, hB3.trans (be4.mono hB3.size)⟩
end Go.Proofs.YtpmnfgbbkmodpaaGreatDoor
