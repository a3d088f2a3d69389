/-
  QUOTIENTS OF LIMBS, where the divisor is above the number or has one limb: what a call of divide gives then. Conditions: sizes; the limbs' form.
-/
import Derived.Test.YtpmnfgbbkmodpaaGreatDoorShort
namespace Go.Proofs.YtpmnfgbbkmodpaaGreatDoor
set_option maxRecDepth 100000
open Go.RowKit Nm
set_option linter.unusedVariables false

/-- a quotient, and what is left over -/
def Quo (w : World) (x y : Nat) (e : Ending) (w' : World) : Prop :=
  ∃ ao m c1 q g n c2 r, e = .returned (.tuple #[.slice ao m c1, .slice (some ⟨g, 0, none⟩) n c2]) ∧ (m = 0 ∨ ∃ g1, ao = some ⟨g1, 0, none⟩ ∧ Ow w' .i64 g1 q m) ∧ Nrm q m ∧ lv q m = x / y ∧ m ≤ 100000 ∧
    Ow w' .i64 g r n ∧ n ≤ c2 ∧ Nrm r n ∧ lv r n = x % y ∧ n ≤ 100000 ∧ w.heap.size ≤ g ∧ Below w.heap.size w w' ∧ Shp w' g c2

theorem Shp.new (w : World) (xs : Array Value) (h : xs.size ≤ 100) : Shp (w.alloc (.cells xs 2)) w.heap.size xs.size := by
  refine ⟨xs, ?_, rfl, by unfold maxLen; omega⟩
  show (w.heap.push (.cells xs 2))[w.heap.size]? = _
  rw [Array.getElem?_push, if_pos rfl]

theorem Ow.one (w : World) (r : Nat) : Ow (w.alloc (.cells #[.int .i64 (r : Nat)] 2)) .i64 w.heap.size (fun _ => r) 1 := by
  refine ⟨fun i hi => ?_, fun i => ?_, by simp⟩
  · obtain rfl : i = 0 := by omega
    rw [World.cell?_alloc_new]; rfl
  · rw [World.frozen?_alloc_new]

set_option maxHeartbeats 1000000 in
theorem divide_lt (b1 o1 n1 c1 b2 o2 n2 c2 : Nat) (f g : Nat → Nat) (w : World) (hn1 : n1 ≤ 40000) (hn2 : n2 ≤ 40000) (h1 : Rw w b1 o1 f n1) (h2 : Rw w b2 o2 g n2) (hf : Nrm f n1) (hg : Nrm g n2) (hlt : lv f n1 < lv g n2) :
    Calls Tryz.prog 106 #[.slice (some ⟨b1, o1, none⟩) n1 c1, .slice (some ⟨b2, o2, none⟩) n2 c2] w fun e w' => Quo w (lv f n1) (lv g n2) e w' := by
  have hsg : sg (lv f n1 : Nat) (lv g n2 : Nat) < 0 := by rw [sg_lt (by omega)]; omega
  go_enter Tryz.func106, Tryz.ntmps106
  go_wp2_with fail
  refine (compare_any b1 o1 n1 c1 b2 o2 n2 c2 f g _ (by omega) (by omega) h1 h2 hf hg).mono ?_
  rintro e w1 ⟨rfl, hS⟩
  have h1' := h1.sm hS
  go_wp2_with fail
  refine (clone_any b1 o1 n1 c1 f _ (by omega) h1').mono ?_
  rintro e w2 ⟨g2, c, rfl, hO, hc, hg2, hB, hSh⟩
  have hB2 : Below w.heap.size w w2 := (hS.below w.heap.size).trans (hB.mono (by rw [hS.heap]; exact Nat.le_refl _))
  go_wp2
  go_ret2
  exact ⟨none, 0, 0, fun _ => 0, g2, n1, c, f, rfl, Or.inl rfl, ⟨fun i h => by omega, Or.inl rfl⟩, by rw [Nat.div_eq_of_lt hlt]; rfl, by omega, hO, hc, hf, (Nat.mod_eq_of_lt hlt).symm, by omega, by rw [← hS.heap]; exact hg2, hB2, hSh⟩

theorem sg_nonneg {a b : Int} (h : b ≤ a) : ¬ sg a b < 0 := by unfold sg; split; omega; split <;> omega

set_option maxHeartbeats 1000000 in
theorem divide_one (b1 o1 n1 c1 b2 o2 c2 : Nat) (f g : Nat → Nat) (w : World) (hn1 : n1 ≤ 40000) (h1 : Rw w b1 o1 f n1) (h2 : Rw w b2 o2 g 1) (hf : Nrm f n1) (hg : Nrm g 1) (hle : lv g 1 ≤ lv f n1) :
    Calls Tryz.prog 106 #[.slice (some ⟨b1, o1, none⟩) n1 c1, .slice (some ⟨b2, o2, none⟩) 1 c2] w fun e w' => Quo w (lv f n1) (lv g 1) e w' := by
  have hsg : ¬ sg (lv f n1 : Nat) (lv g 1 : Nat) < 0 := sg_nonneg (by omega)
  have hv : lv g 1 = g 0 := by simp [lv]
  have hg0 := hg.1 0 (by omega)
  have hg1 : 0 < g 0 := by
    rcases hg.2 with e | e
    · omega
    · simp at e; omega
  have HV : Hid _ := hv
  clear hv
  go_enter Tryz.func106, Tryz.ntmps106
  go_wp2_with fail
  refine (compare_any b1 o1 n1 c1 b2 o2 1 c2 f g _ (by omega) (by omega) h1 h2 hf hg).mono ?_
  rintro e w1 ⟨rfl, hS⟩
  have h1' := h1.sm hS
  have h2' := (h2.sm hS) 0 (by omega)
  simp only [Nat.add_zero] at h2'
  go_wp2_with fail
  refine (divideByLimb_any b1 o1 n1 c1 (g 0) f _ hn1 hg1 hg0 h1' hf.1).mono ?_
  rintro e w2 ⟨g1, m, c, q, rfl, hO, hc, hcc, hgs, hN, hval, hB, _⟩
  have hrest : lv f n1 % g 0 < 1000000000 := Nat.lt_trans (Nat.mod_lt _ hg1) hg0
  have hrest0 : lv f n1 % g 0 = lv f n1 % lv g 1 := by rw [HV.out]
  have HR : Hid _ := hrest0
  clear hrest0
  have hB2 : Below w.heap.size w w2 := (hS.below w.heap.size).trans (hB.mono (by rw [hS.heap]; exact Nat.le_refl _))
  generalize lv f n1 % g 0 = rr at *
  have hO1 := Ow.one w2 rr
  have hB3 := hB2.alloc hB2.size (.cells #[.int .i64 (rr : Nat)] 2)
  have hO' := hO.below ((Below.refl w2.heap.size w2).alloc (Nat.le_refl _) (.cells #[.int .i64 (rr : Nat)] 2)) hO.lt
  go_wp2_with fail
  refine (trim_any w2.heap.size 0 1 1 _ _ (by omega) (by omega) (by omega) hO1.rw).mono ?_
  rintro e w4 ⟨⟨k, hk, hzero, htop, rfl⟩, rfl⟩
  go_wp2
  go_ret2
  refine ⟨some ⟨g1, 0, none⟩, m, c, q, w2.heap.size, k, 1, fun _ => rr, rfl, Or.inr ⟨g1, rfl, hO'⟩, hN, by rw [hval, HV.out], by omega, ⟨fun i hi => hO1.cell i (by omega), hO1.frz, hO1.lt⟩, hk, ⟨fun i hi => hrest, htop⟩, ?_, by omega, hB2.size, hB3, Shp.new w2 _ (by simp)⟩
  rw [← lv_cut hk hzero, ← HR.out]
  simp [lv]

theorem eq0 (y : Nat) (h : 0 < y) : ((S y).toList == [48]) = false := by
  rw [toList_data, S_data]
  apply beq_eq_false_iff_ne.2
  intro e
  have := congrArg dv e
  rw [dv_tx] at this
  have h0 : dv [48] = 0 := by decide
  omega

set_option maxHeartbeats 1000000 in
theorem Div_of (x y : Nat) (w : World) (hx : tl x ≤ 10000) (hy : tl y ≤ 10000) (h0 : 0 < y)
    (hdiv : ∀ (b1 n1 c1 b2 n2 c2 : Nat) (f g : Nat → Nat) (w : World), n1 ≤ 10000 → n2 ≤ 10000 → Rw w b1 0 f n1 → Rw w b2 0 g n2 → Nrm f n1 → Nrm g n2 → lv f n1 = x → lv g n2 = y →
      Calls Tryz.prog 106 #[.slice (some ⟨b1, 0, none⟩) n1 c1, .slice (some ⟨b2, 0, none⟩) n2 c2] w fun e w' => Quo w x y e w') :
    Calls Tryz.prog 82 #[.string (S x), .string (S y)] w fun e w' => e = .returned (.tuple #[.string (S (x / y)), .string (S (x % y)), .int .i64 0]) ∧ Below w.heap.size w w' := by
  have HX : Hid _ := S_size x
  have HY : Hid _ := S_size y
  have e0 := eq0 y h0
  have HDIV : Hid _ := hdiv
  clear hdiv
  go_enter Tryz.func82, Tryz.ntmps82
  go_wp2_with fail
  refine (bothRight_yes (S x) (S y) _ (by rw [HX.out]; omega) (by rw [HY.out]; omega) (rt_S x) (rt_S y)).mono ?_
  rintro e w2 ⟨rfl, rfl⟩
  go_wp2_with fail
  refine (parse_S x _ hx).mono ?_
  rintro e w1 ⟨g1, n1, c1, f1, rfl, ow1, le1, cp1, gs1, nr1, vl1, be1⟩
  go_wp2_with fail
  refine (parse_S y _ hy).mono ?_
  rintro e w3 ⟨g2, n2, c2, f2, rfl, ow2, le2, cp2, gs2, nr2, vl2, be2⟩
  have r1 := ow1.rw.below' be2
  have l1 := len_bd nr1 vl1
  have l2 := len_bd nr2 vl2
  go_wp2_with fail
  refine (HDIV.out g1 n1 c1 g2 n2 c2 f1 f2 _ (by omega) (by omega) r1 ow2.rw nr1 nr2 vl1 vl2).mono ?_
  rintro e w4 ⟨ao, m, c3, q, g4, n, c4, r, rfl, hq, hqn, hqv, hm, hO, hnc, hrn, hrv, hn, hg4, hB, _⟩
  clear e0
  go_wp2_with fail
  have ht1 : Calls Tryz.prog 105 #[.slice ao m c3] w4 fun e w' => e = .returned (.string (S (x / y))) ∧ Below w4.heap.size w4 w' := by
    rcases hq with rfl | ⟨g5, rfl, hO5⟩
    · refine (text_none _ _ _).mono ?_
      rintro e w' ⟨rfl, rfl⟩
      exact ⟨by rw [← hqv]; rfl, Below.refl _ _⟩
    · rw [← hqv]; exact text_S g5 0 m c3 q _ hm hO5.rw hqn
  refine ht1.mono ?_
  rintro e w5 ⟨rfl, hB5⟩
  clear ht1
  have hO' := hO.below hB5 hO.lt
  go_wp2_with fail
  refine (text_S g4 0 n c4 r _ hn hO'.rw hrn).mono ?_
  rintro e w6 ⟨rfl, hB6⟩
  rw [hrv]
  go_wp2
  go_ret3
  have z1 := be1.size
  have z2 := be2.size
  have z3 := hB.size
  have z4 := hB5.size
  exact ⟨rfl, (((be1.trans (be2.mono (by omega))).trans (hB.mono (by omega))).trans (hB5.mono (by omega))).trans (hB6.mono (by omega))⟩

theorem Div_short (x y : Nat) (w : World) (hx : tl x ≤ 10000) (h0 : 0 < y) (hy : y < 1000000000) :
    Calls Tryz.prog 82 #[.string (S x), .string (S y)] w fun e w' => e = .returned (.tuple #[.string (S (x / y)), .string (S (x % y)), .int .i64 0]) ∧ Below w.heap.size w w' := by
  have hy' : tl y ≤ 9 := tl_le (by omega) (by omega)
  refine Div_of x y w hx (by omega) h0 ?_
  intro b1 n1 c1 b2 n2 c2 f g w' hn1 hn2 h1 h2 hf hg e1 e2
  subst e1; subst e2
  by_cases hlt : lv f n1 < lv g n2
  · exact divide_lt b1 0 n1 c1 b2 0 n2 c2 f g w' (by omega) (by omega) h1 h2 hf hg hlt
  · have hn : n2 = 1 := by
      rcases Nat.lt_trichotomy n2 1 with c | c | c
      · have : n2 = 0 := by omega
        subst this; simp [lv] at h0
      · exact c
      · exfalso
        have k1 := hg.hi (by omega)
        have k2 : 1000000000 ^ 1 ≤ 1000000000 ^ (n2 - 1) := Nat.pow_le_pow_right (by omega) (by omega)
        omega
    subst hn
    exact divide_one b1 0 n1 c1 b2 0 c2 f g w' (by omega) h1 h2 hf hg (by omega)

set_option maxHeartbeats 400000 in
theorem Div_zero (x : Nat) (w : World) (hx : tl x ≤ 10000) :
    Calls Tryz.prog 82 #[.string (S x), .string (S 0)] w fun e w' => e = .returned (.tuple #[.string ⟨#[]⟩, .string ⟨#[]⟩, .int .i64 3]) ∧ Below w.heap.size w w' := by
  have HX : Hid _ := S_size x
  have HY : Hid (rt (⟨#[48]⟩ : ByteArray).data.toList = true) := by unfold Hid; decide
  rw [S_zero]
  go_enter Tryz.func82, Tryz.ntmps82
  go_wp2_with fail
  refine (bothRight_yes (S x) _ _ (by rw [HX.out]; omega) (by simp [ByteArray.size]) (rt_S x) HY.out).mono ?_
  rintro e w2 ⟨rfl, rfl⟩
  go_wp2
  go_ret3
  exact ⟨rfl, Below.refl _ _⟩
end Go.Proofs.YtpmnfgbbkmodpaaGreatDoor
