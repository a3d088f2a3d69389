/-
  SUMS, DIFFERENCES, PRODUCTS AND ORDER OF TEXTS: what a call of Add, Sub, Mul and Compare gives. Conditions: sizes.
-/
import Derived.Test.YtpmnfgbbkmodpaaGreatDoorOrd
import Derived.Test.YtpmnfgbbkmodpaaGreatDoorDiff
import Derived.Test.YtpmnfgbbkmodpaaGreatDoorProd
namespace Go.Proofs.YtpmnfgbbkmodpaaGreatDoor
set_option maxRecDepth 100000
open Go.RowKit Nm
set_option linter.unusedVariables false

theorem cmp_bytes : ∀ (l m : List UInt8), Dg l → Dg m → l.length = m.length → Lib.compareBytes l m = sg (dv l) (dv m) := by
  intro l
  induction l with
  | nil =>
    intro m _ _ h
    have hm : m = [] := List.length_eq_zero_iff.1 (by simpa using h.symm)
    subst hm; rfl
  | cons c l ih =>
    intro m hl hm h
    match m, h with
    | d :: m, h =>
      have h' : l.length = m.length := by simpa using h
      have a1 := dv_lt (l := l) (fun e he => hl e (by simp [he]))
      have a2 := dv_lt (l := m) (fun e he => hm e (by simp [he]))
      have b1 := hl c (by simp)
      have b2 := hm d (by simp)
      simp only [Lib.compareBytes]
      rw [dv_cons, dv_cons, h']
      rw [h'] at a1
      generalize 10 ^ m.length = P at *
      by_cases e1 : c < d
      · rw [if_pos e1]
        have e1' : c.toNat < d.toNat := e1
        have : (c.toNat - 48 + 1) * P ≤ (d.toNat - 48) * P := Nat.mul_le_mul_right _ (by omega)
        rw [Nat.add_mul, Nat.one_mul] at this
        unfold sg; rw [if_pos (by omega)]
      · rw [if_neg e1]
        by_cases e2 : d < c
        · rw [if_pos e2]
          have e2' : d.toNat < c.toNat := e2
          have : (d.toNat - 48 + 1) * P ≤ (c.toNat - 48) * P := Nat.mul_le_mul_right _ (by omega)
          rw [Nat.add_mul, Nat.one_mul] at this
          unfold sg; rw [if_neg (by omega), if_pos (by omega)]
        · rw [if_neg e2]
          have e3 : c.toNat = d.toNat := by
            have x1 : ¬ c.toNat < d.toNat := e1
            have x2 : ¬ d.toNat < c.toNat := e2
            omega
          rw [ih m (fun e he => hl e (by simp [he])) (fun e he => hm e (by simp [he])) h', e3]
          unfold sg
          have : ∀ k : Nat, (((k + dv l : Nat) : Int) < ((k + dv m : Nat) : Int) ↔ (dv l : Int) < (dv m : Int)) ∧ (((k + dv m : Nat) : Int) < ((k + dv l : Nat) : Int) ↔ (dv m : Int) < (dv l : Int)) := fun k => by omega
          simp only [this]

theorem sg_lt {a b : Int} (h : a < b) : sg a b = -1 := by simp [sg, h]
theorem sg_gt {a b : Int} (h : b < a) : sg a b = 1 := by unfold sg; rw [if_neg (by omega), if_pos h]
theorem sg_eq {a b : Int} (h : a = b) : sg a b = 0 := by unfold sg; rw [if_neg (by omega), if_neg (by omega)]

set_option maxHeartbeats 400000 in
theorem compareTexts_any (x y : Nat) (w : World) (hx : tl x ≤ 50000) (hy : tl y ≤ 50000) :
    Calls Tryz.prog 114 #[.string (S x), .string (S y)] w fun e w' => e = .returned (.int .i64 (sg x y)) ∧ w' = w := by
  have sx := S_size x
  have sy := S_size y
  have SX : Hid _ := sx
  have SY : Hid _ := sy
  clear sx sy
  rcases Nat.lt_trichotomy (tl x) (tl y) with c | c | c
  · have HR : Hid (sg x y = -1) := sg_lt (by
      rcases Nat.lt_or_ge x y with d | d
      · omega
      · have := tl_mono d; omega)
    have h1 : sg (S x).size (S y).size = -1 := sg_lt (by rw [SX.out, SY.out]; omega)
    go_enter Tryz.func114, Tryz.ntmps114
    go_wp2_with fail
    refine (cmpInt_any _ _ _).mono ?_
    rintro e w2 ⟨rfl, rfl⟩
    go_wp2
    go_ret
    exact ⟨by rw [HR.out]; rfl, rfl⟩
  · have HR : Hid (Lib.compareBytes (S x).data.toList (S y).data.toList = sg x y) := by
      show Lib.compareBytes (S x).data.toList (S y).data.toList = sg x y
      rw [S_data, S_data, cmp_bytes _ _ (rt_dg (rt_tx x)) (rt_dg (rt_tx y)) c, dv_tx, dv_tx]
    have h1 : sg (S x).size (S y).size = 0 := sg_eq (by rw [SX.out, SY.out]; omega)
    go_enter Tryz.func114, Tryz.ntmps114
    go_wp2_with fail
    refine (cmpInt_any _ _ _).mono ?_
    rintro e w2 ⟨rfl, rfl⟩
    go_wp2_with fail
    refine (stringsCompare_any _ _ _).mono ?_
    rintro e w2 ⟨rfl, rfl⟩
    rw [HR.out]
    go_wp2
    go_ret
    exact ⟨rfl, rfl⟩
  · have HR : Hid (sg x y = 1) := sg_gt (by
      rcases Nat.lt_or_ge y x with d | d
      · omega
      · have := tl_mono d; omega)
    have h1 : sg (S x).size (S y).size = 1 := sg_gt (by rw [SX.out, SY.out]; omega)
    go_enter Tryz.func114, Tryz.ntmps114
    go_wp2_with fail
    refine (cmpInt_any _ _ _).mono ?_
    rintro e w2 ⟨rfl, rfl⟩
    go_wp2
    go_ret
    exact ⟨by rw [HR.out]; rfl, rfl⟩

theorem rt_S (x : Nat) : rt (S x).data.toList = true := by rw [S_data]; exact rt_tx x
theorem dv_S (x : Nat) : dv (S x).data.toList = x := by rw [S_data]; exact dv_tx x

/-- a text, parsed -/
theorem parse_S (x : Nat) (w : World) (hx : tl x ≤ 10000) : Calls Tryz.prog 104 #[.string (S x)] w fun e w' => Res w x e w' := by
  refine (parse_any (S x) w (by rw [S_size]; exact hx) (rt_dg (rt_S x))).mono ?_
  rintro e w' ⟨g, n, cap, f, h1, h2, h3, h4, h5, h6, h7, h8, _⟩
  exact ⟨g, n, cap, f, h1, h2, h3, by omega, h5, h6, by rw [h7, dv_S], h8⟩

/-- limbs, told -/
theorem text_S (b off n cap : Nat) (f : Nat → Nat) (w : World) (hn : n ≤ 100000) (hR : Rw w b off f n) (hN : Nrm f n) :
    Calls Tryz.prog 105 #[.slice (some ⟨b, off, none⟩) n cap] w fun e w' => e = .returned (.string (S (lv f n))) ∧ Below w.heap.size w w' := by
  rcases Nat.eq_zero_or_pos n with c | c
  · subst c
    refine (text_none _ _ _).mono ?_
    rintro e w' ⟨rfl, rfl⟩
    exact ⟨rfl, Below.refl _ _⟩
  · exact text_any b off n cap f w hn c hR hN

/-- a limb's number is at most the text's -/
theorem len_bd {f : Nat → Nat} {n x : Nat} (h : Nrm f n) (e : lv f n = x) : n ≤ tl x := by
  rcases Nat.eq_zero_or_pos n with c | c
  · omega
  · have h1 := h.hi c
    rw [e] at h1
    have h2 := lt_tl x
    rcases Nat.lt_or_ge (tl x) n with d | d
    · exfalso
      have h3 : 10 ^ tl x ≤ 10 ^ (n - 1) := Nat.pow_le_pow_right (by omega) (by omega)
      have h4 : 10 ^ (n - 1) ≤ 1000000000 ^ (n - 1) := Nat.pow_le_pow_left (by omega) _
      omega
    · exact d

set_option maxHeartbeats 1000000 in
theorem Add_any (x y : Nat) (w : World) (hx : tl x ≤ 10000) (hy : tl y ≤ 10000) :
    Calls Tryz.prog 130 #[.string (S x), .string (S y)] w fun e w' => e = .returned (.tuple #[.string (S (x + y)), .int .i64 0]) ∧ Below w.heap.size w w' := by
  have HX : Hid _ := S_size x
  have HY : Hid _ := S_size y
  go_enter Tryz.func130, Tryz.ntmps130
  go_wp2_with fail
  refine (bothRight_yes (S x) (S y) _ (by rw [HX.out]; omega) (by rw [HY.out]; omega) (rt_S x) (rt_S y)).mono ?_
  rintro e w2 ⟨rfl, rfl⟩
  go_wp2_with fail
  refine (parse_S x _ hx).mono ?_
  rintro e w1 ⟨g1, n1, c1, f1, rfl, ow1, le1, cp1, gs1, nr1, vl1, be1⟩
  go_wp2_with fail
  refine (parse_S y _ hy).mono ?_
  rintro e w3 ⟨g2, n2, c2, f2, rfl, ow2, le2, cp2, gs2, nr2, vl2, be2⟩
  have r1 := ow1.rw.below' be2
  have l1 := len_bd nr1 vl1
  have l2 := len_bd nr2 vl2
  go_wp2_with fail
  refine (add_any g1 0 n1 c1 g2 0 n2 c2 f1 f2 _ (by omega) (by omega) r1 ow2.rw nr1.1 nr2.1).mono ?_
  rintro e w4 ⟨g3, n3, c3, f3, rfl, ow3, le3, cp3, gs3, nr3, vl3, be3⟩
  go_wp2_with fail
  refine (text_S g3 0 n3 c3 f3 _ (by omega) ow3.rw nr3).mono ?_
  rintro e w5 ⟨rfl, be4⟩
  rw [vl3, vl1, vl2]
  go_wp2
  go_ret2
  exact ⟨rfl, ((be1.trans (be2.mono be1.size)).trans (be3.mono (Nat.le_trans be1.size be2.size))).trans (be4.mono (Nat.le_trans be1.size (Nat.le_trans be2.size be3.size)))⟩

set_option maxHeartbeats 1000000 in
theorem Mul_any (x y : Nat) (w : World) (hx : tl x ≤ 10000) (hy : tl y ≤ 10000) :
    Calls Tryz.prog 108 #[.string (S x), .string (S y)] w fun e w' => e = .returned (.tuple #[.string (S (x * y)), .int .i64 0]) ∧ Below w.heap.size w w' := by
  have HX : Hid _ := S_size x
  have HY : Hid _ := S_size y
  go_enter Tryz.func108, Tryz.ntmps108
  go_wp2_with fail
  refine (bothRight_yes (S x) (S y) _ (by rw [HX.out]; omega) (by rw [HY.out]; omega) (rt_S x) (rt_S y)).mono ?_
  rintro e w2 ⟨rfl, rfl⟩
  go_wp2_with fail
  refine (parse_S x _ hx).mono ?_
  rintro e w1 ⟨g1, n1, c1, f1, rfl, ow1, le1, cp1, gs1, nr1, vl1, be1⟩
  go_wp2_with fail
  refine (parse_S y _ hy).mono ?_
  rintro e w3 ⟨g2, n2, c2, f2, rfl, ow2, le2, cp2, gs2, nr2, vl2, be2⟩
  have r1 := ow1.rw.below' be2
  have l1 := len_bd nr1 vl1
  have l2 := len_bd nr2 vl2
  go_wp2_with fail
  refine (multiply_any g1 0 n1 c1 g2 0 n2 c2 f1 f2 _ (by omega) (by omega) r1 ow2.rw nr1.1 nr2.1).mono ?_
  rintro e w4 ⟨g3, n3, c3, f3, rfl, ow3, le3, cp3, gs3, nr3, vl3, be3⟩
  go_wp2_with fail
  refine (text_S g3 0 n3 c3 f3 _ (by omega) ow3.rw nr3).mono ?_
  rintro e w5 ⟨rfl, be4⟩
  rw [vl3, vl1, vl2]
  go_wp2
  go_ret2
  exact ⟨rfl, ((be1.trans (be2.mono be1.size)).trans (be3.mono (Nat.le_trans be1.size be2.size))).trans (be4.mono (Nat.le_trans be1.size (Nat.le_trans be2.size be3.size)))⟩

set_option maxHeartbeats 1000000 in
theorem Sub_yes (x y : Nat) (w : World) (hx : tl x ≤ 10000) (hy : tl y ≤ 10000) (hle : y ≤ x) :
    Calls Tryz.prog 131 #[.string (S x), .string (S y)] w fun e w' => e = .returned (.tuple #[.string (S (x - y)), .int .i64 0]) ∧ Below w.heap.size w w' := by
  have HX : Hid _ := S_size x
  have HY : Hid _ := S_size y
  have hsg : ¬ sg x y < 0 := by unfold sg; split; omega; split <;> omega
  go_enter Tryz.func131, Tryz.ntmps131
  go_wp2_with fail
  refine (bothRight_yes (S x) (S y) _ (by rw [HX.out]; omega) (by rw [HY.out]; omega) (rt_S x) (rt_S y)).mono ?_
  rintro e w2 ⟨rfl, rfl⟩
  go_wp2_with fail
  refine (compareTexts_any x y _ (by omega) (by omega)).mono ?_
  rintro e w2 ⟨rfl, rfl⟩
  go_wp2_with fail
  refine (parse_S x _ hx).mono ?_
  rintro e w1 ⟨g1, n1, c1, f1, rfl, ow1, le1, cp1, gs1, nr1, vl1, be1⟩
  go_wp2_with fail
  refine (parse_S y _ hy).mono ?_
  rintro e w3 ⟨g2, n2, c2, f2, rfl, ow2, le2, cp2, gs2, nr2, vl2, be2⟩
  have r1 := ow1.rw.below' be2
  have l1 := len_bd nr1 vl1
  have l2 := len_bd nr2 vl2
  have hll : n2 ≤ n1 := nr2.len_le nr1 (by rw [vl1, vl2]; exact hle)
  go_wp2_with fail
  refine (subtract_any g1 0 n1 c1 g2 0 n2 c2 f1 f2 _ (by omega) hll r1 ow2.rw nr1.1 nr2.1 (by rw [vl1, vl2]; exact hle)).mono ?_
  rintro e w4 ⟨g3, n3, c3, f3, rfl, ow3, le3, cp3, gs3, nr3, vl3, be3⟩
  go_wp2_with fail
  refine (text_S g3 0 n3 c3 f3 _ (by omega) ow3.rw nr3).mono ?_
  rintro e w5 ⟨rfl, be4⟩
  rw [vl3, vl1, vl2]
  go_wp2
  go_ret2
  exact ⟨rfl, ((be1.trans (be2.mono be1.size)).trans (be3.mono (Nat.le_trans be1.size be2.size))).trans (be4.mono (Nat.le_trans be1.size (Nat.le_trans be2.size be3.size)))⟩

set_option maxHeartbeats 1000000 in
theorem Sub_no (x y : Nat) (w : World) (hx : tl x ≤ 10000) (hy : tl y ≤ 10000) (hlt : x < y) :
    Calls Tryz.prog 131 #[.string (S x), .string (S y)] w fun e w' => e = .returned (.tuple #[.string ⟨#[]⟩, .int .i64 1]) ∧ Below w.heap.size w w' := by
  have HX : Hid _ := S_size x
  have HY : Hid _ := S_size y
  have hsg : sg x y < 0 := by rw [sg_lt (by omega)]; omega
  go_enter Tryz.func131, Tryz.ntmps131
  go_wp2_with fail
  refine (bothRight_yes (S x) (S y) _ (by rw [HX.out]; omega) (by rw [HY.out]; omega) (rt_S x) (rt_S y)).mono ?_
  rintro e w2 ⟨rfl, rfl⟩
  go_wp2_with fail
  refine (compareTexts_any x y _ (by omega) (by omega)).mono ?_
  rintro e w2 ⟨rfl, rfl⟩
  go_wp2
  go_ret2
  exact ⟨rfl, Below.refl _ _⟩

set_option maxHeartbeats 1000000 in
theorem Compare_any (x y : Nat) (w : World) (hx : tl x ≤ 10000) (hy : tl y ≤ 10000) :
    Calls Tryz.prog 94 #[.string (S x), .string (S y)] w fun e w' => e = .returned (.tuple #[.int .i64 (sg x y), .int .i64 0]) ∧ w' = w := by
  have HX : Hid _ := S_size x
  have HY : Hid _ := S_size y
  go_enter Tryz.func94, Tryz.ntmps94
  go_wp2_with fail
  refine (bothRight_yes (S x) (S y) _ (by rw [HX.out]; omega) (by rw [HY.out]; omega) (rt_S x) (rt_S y)).mono ?_
  rintro e w2 ⟨rfl, rfl⟩
  go_wp2_with fail
  refine (compareTexts_any x y _ (by omega) (by omega)).mono ?_
  rintro e w2 ⟨rfl, rfl⟩
  go_wp2
  go_ret2
  exact ⟨rfl, rfl⟩
end Go.Proofs.YtpmnfgbbkmodpaaGreatDoor
