/-
  THE DOCUMENT'S SUMS, DIFFERENCES, PRODUCTS AND ORDER: what a call of each gives. Conditions: sizes; the texts are naturals.
-/
import Derived.Test.YtpmnfgbbkmodpaaGreatDoorRef
import Derived.Test.YtpmnfgbbkmodpaaGreatDoorShort
namespace Go.Proofs.YtpmnfgbbkmodpaaGreatDoor
set_option maxRecDepth 100000
open Go.RowKit Nm
set_option linter.unusedVariables false

theorem dl_S (x n : Nat) (h : tl x ≤ n) : dl (dg (S x).data.toList) n = x := by
  rw [dl_dg _ n (by rw [len_data, S_size]; exact h), dv_S]

set_option maxHeartbeats 1000000 in
theorem refAdd_any (x y : Nat) (w : World) (hx : tl x ≤ 1000) (hy : tl y ≤ 1000) :
    Calls Tryz.prog 68 #[.string (S x), .string (S y)] w fun e w' => e = .returned (.string (S (x + y))) ∧ Below w.heap.size w w' := by
  obtain ⟨i0, hi, hz0, hz1, hz2⟩ := info_parts Tryz.info3
  have dx := rt_dg (rt_S x)
  have dy := rt_dg (rt_S y)
  have px := tl_pos x
  have py := tl_pos y
  have zx : (S x).size = tl x := S_size x
  have zy : (S y).size = tl y := S_size y
  have lx : dl (dg (S x).data.toList) ((S x).size + (S y).size) = x := dl_S x _ (by omega)
  have ly : dl (dg (S y).data.toList) ((S x).size + (S y).size) = y := dl_S y _ (by omega)
  have hzx : (S x).size ≤ 1000 := by omega
  have hzy : (S y).size ≤ 1000 := by omega
  have hpx : 1 ≤ (S x).size := by omega
  have hxy : x + y < 10 ^ ((S x).size + (S y).size) := by rw [zx, zy]; exact Nat.lt_of_lt_of_le (lt_tl _) (Nat.pow_le_pow_right (by omega) (tl_add x y))
  have HXY : Hid _ := hxy
  clear hxy
  have LX : Hid _ := lx
  have LY : Hid _ := ly
  clear lx ly zx zy
  generalize S x = a at *
  generalize S y = b at *
  go_enter Tryz.func68, Tryz.ntmps68
  go_wp2_with fail
  go_loopw [5, 6, 7] (fun v c i wr => ∃ k o q, k ≤ a.size + b.size ∧ i = .int .i64 (k : Nat) ∧ c = .int .i64 (q : Nat) ∧ wr.ownsRow w.heap.size 3 1 v k (vals o k) ∧ Add10 o (dg a.data.toList) (dg b.data.toList) k q ∧ Below w.heap.size w wr) (fun _ _ i _ => a.size + b.size - (intOf i).toNat)
  case atStart => exact ⟨0, fun _ => 0, 0, by omega, rfl, rfl, World.ownsRow_nil _ _ _ _, ⟨fun i h => by omega, by omega, rfl⟩, Below.refl _ _⟩
  case round =>
    obtain ⟨k, o, q, hk, rfl, rfl, hown, hA, hB⟩ := hrel
    have hq := hA.car
    by_cases hlt : k < a.size + b.size
    · have x1 := dg_lt dx k
      have x2 := dg_lt dy k
      have hst := hA.step x1 x2
      go_wp2_with fail
      refine (digit_any a k _ (by omega) (by omega) dx).mono ?_
      rintro e w2 ⟨rfl, rfl⟩
      go_wp2_with fail
      refine (digit_any b k _ (by omega) (by omega) dy).mono ?_
      rintro e w2 ⟨rfl, rfl⟩
      generalize dg a.data.toList k = d1 at *
      generalize dg b.data.toList k = d2 at *
      have hsn := vals_snoc o k ((q + (d1 + d2)) % 10)
      have HS : Hid _ := hsn
      clear hsn
      go_wp2_with (first | (at_builtin; refine wpList_append_own _ rfl _ _ 88 rfl w.heap.size 3 i0 (.int .i64 0) 1 8 Tryz.underlying88 hi hz0 hz1 hz2 rfl (by decide) _ _ _ rfl (hown.alloc _) _ 1 1 [.int .i64 (((q : Int) + ((d1 : Int) + (d2 : Int))) % 10)] rfl rfl (cell_one_new _ _ _) (by intro u hu; simp at hu; subst hu; rfl) (by unfold maxLen; omega) (by omega) (by have := hB.size; simp; omega) ?_))
      intro v2 w3 hown2 hgrow2 _
      go_wp2
      go_roundw
      case rel =>
        refine ⟨k + 1, _, _, by omega, by go_num, ?_, ?_, hst, (hB.alloc hB.size _).grown hgrow2 (by have := hB.size; simp; omega) (fun j hj => (hown.lt j hj).1)⟩
        · simp
        · have := HS.out
          simp only [Int.natCast_add, Int.natCast_emod, Int.cast_ofNat_Int] at this
          rw [this] at hown2
          exact hown2
      case measure => simp [intOf]; omega
    · obtain rfl : k = a.size + b.size := by omega
      obtain ⟨g2, c2, hv, hc2, hg2⟩ := own_some hown (by omega)
      rw [hv] at hown
      rw [hv]
      clear hv
      have hO := Ow.of_vals hown
      have HF : Hid (dl o (a.size + b.size) = x + y) := by
        show dl o (a.size + b.size) = x + y
        have hva := hA.val
        rw [LX.out, LY.out] at hva
        have h3 := HXY.out
        rcases Nat.eq_zero_or_pos q with c | c
        · subst c; omega
        · have : 1 * 10 ^ (a.size + b.size) ≤ q * 10 ^ (a.size + b.size) := Nat.mul_le_mul_right _ c
          omega
      go_wp2_with fail
      refine (of_any g2 (a.size + b.size) c2 o _ (by omega) (by omega) hO hA.lim).mono ?_
      rintro e w2 ⟨rfl, hb2⟩
      rw [HF.out]
      go_wp2
      go_ret
      exact ⟨rfl, hB.trans (hb2.mono hB.size)⟩

set_option maxHeartbeats 1000000 in
theorem refSub_any (x y : Nat) (w : World) (hx : tl x ≤ 1000) (hy : tl y ≤ 1000) (hle : y ≤ x) :
    Calls Tryz.prog 70 #[.string (S x), .string (S y)] w fun e w' => e = .returned (.string (S (x - y))) ∧ Below w.heap.size w w' := by
  obtain ⟨i0, hi, hz0, hz1, hz2⟩ := info_parts Tryz.info3
  have dx := rt_dg (rt_S x)
  have dy := rt_dg (rt_S y)
  have px := tl_pos x
  have hmono := tl_mono hle
  have zx : (S x).size = tl x := S_size x
  have zy : (S y).size = tl y := S_size y
  have lx : dl (dg (S x).data.toList) (S x).size = x := dl_S x _ (by omega)
  have ly : dl (dg (S y).data.toList) (S x).size = y := dl_S y _ (by omega)
  have hzx : (S x).size ≤ 1000 := by omega
  have hzy : (S y).size ≤ 1000 := by omega
  have hpx : 1 ≤ (S x).size := by omega
  have LX : Hid _ := lx
  have LY : Hid _ := ly
  clear lx ly zx zy
  generalize S x = a at *
  generalize S y = b at *
  go_enter Tryz.func70, Tryz.ntmps70
  go_wp2_with fail
  go_loopw [5, 6, 7] (fun v c i wr => ∃ k o q, k ≤ a.size ∧ i = .int .i64 (k : Nat) ∧ c = .int .i64 (q : Nat) ∧ wr.ownsRow w.heap.size 3 1 v k (vals o k) ∧ Sub10 o (dg a.data.toList) (dg b.data.toList) k q ∧ Below w.heap.size w wr) (fun _ _ i _ => a.size - (intOf i).toNat)
  case atStart => exact ⟨0, fun _ => 0, 0, by omega, rfl, rfl, World.ownsRow_nil _ _ _ _, ⟨fun i h => by omega, by omega, rfl⟩, Below.refl _ _⟩
  case round =>
    obtain ⟨k, o, q, hk, rfl, rfl, hown, hA, hB⟩ := hrel
    have hq := hA.car
    by_cases hlt : k < a.size
    · have x1 := dg_lt dx k
      have x2 := dg_lt dy k
      by_cases hneg : dg b.data.toList k + q ≤ dg a.data.toList k
      · have hst := hA.step (l := dg a.data.toList k - dg b.data.toList k - q) (d := 0) (by omega) (by omega) (by omega)
        go_wp2_with fail
        refine (digit_any a k _ (by omega) (by omega) dx).mono ?_
        rintro e w2 ⟨rfl, rfl⟩
        go_wp2_with fail
        refine (digit_any b k _ (by omega) (by omega) dy).mono ?_
        rintro e w2 ⟨rfl, rfl⟩
        generalize dg a.data.toList k = d1 at *
        generalize dg b.data.toList k = d2 at *
        have hsn := vals_snoc o k (d1 - d2 - q)
        rw [show ((d1 - d2 - q : Nat) : Int) = (d1 : Int) - (d2 : Int) - (q : Int) by omega] at hsn
        have HS : Hid _ := hsn
        clear hsn
        go_wp2_with (first | (at_builtin; refine wpList_append_own _ rfl _ _ 88 rfl w.heap.size 3 i0 (.int .i64 0) 1 8 Tryz.underlying88 hi hz0 hz1 hz2 rfl (by decide) _ _ _ rfl (hown.alloc _) _ 1 1 [.int .i64 ((d1 : Int) - (d2 : Int) - (q : Int))] rfl rfl (cell_one_new _ _ _) (by intro u hu; simp at hu; subst hu; rfl) (by unfold maxLen; omega) (by omega) (by have := hB.size; simp; omega) ?_))
        intro v2 w3 hown2 hgrow2 _
        go_wp2
        go_roundw
        case rel =>
          refine ⟨k + 1, _, _, by omega, by go_num, ?_, ?_, hst, (hB.alloc hB.size _).grown hgrow2 (by have := hB.size; simp; omega) (fun j hj => (hown.lt j hj).1)⟩
          · rfl
          · rw [HS.out] at hown2; exact hown2
        case measure => simp [intOf]; omega
      · have hst := hA.step (l := dg a.data.toList k + 10 - dg b.data.toList k - q) (d := 1) (by omega) (by omega) (by omega)
        go_wp2_with fail
        refine (digit_any a k _ (by omega) (by omega) dx).mono ?_
        rintro e w2 ⟨rfl, rfl⟩
        go_wp2_with fail
        refine (digit_any b k _ (by omega) (by omega) dy).mono ?_
        rintro e w2 ⟨rfl, rfl⟩
        generalize dg a.data.toList k = d1 at *
        generalize dg b.data.toList k = d2 at *
        have hsn := vals_snoc o k (d1 + 10 - d2 - q)
        rw [show ((d1 + 10 - d2 - q : Nat) : Int) = (d1 : Int) - (d2 : Int) - (q : Int) + 10 by omega] at hsn
        have HS : Hid _ := hsn
        clear hsn
        go_wp2_with (first | (at_builtin; refine wpList_append_own _ rfl _ _ 88 rfl w.heap.size 3 i0 (.int .i64 0) 1 8 Tryz.underlying88 hi hz0 hz1 hz2 rfl (by decide) _ _ _ rfl (hown.alloc _) _ 1 1 [.int .i64 ((d1 : Int) - (d2 : Int) - (q : Int) + 10)] rfl rfl (cell_one_new _ _ _) (by intro u hu; simp at hu; subst hu; rfl) (by unfold maxLen; omega) (by omega) (by have := hB.size; simp; omega) ?_))
        intro v2 w3 hown2 hgrow2 _
        go_wp2
        go_roundw
        case rel =>
          refine ⟨k + 1, _, _, by omega, by go_num, ?_, ?_, hst, (hB.alloc hB.size _).grown hgrow2 (by have := hB.size; simp; omega) (fun j hj => (hown.lt j hj).1)⟩
          · rfl
          · rw [HS.out] at hown2; exact hown2
        case measure => simp [intOf]; omega
    · obtain rfl : k = a.size := by omega
      obtain ⟨g2, c2, hv, hc2, hg2⟩ := own_some hown (by omega)
      rw [hv] at hown
      rw [hv]
      clear hv
      have hO := Ow.of_vals hown
      have HF : Hid (dl o a.size = x - y) := by
        show dl o a.size = x - y
        have hva := hA.val
        rw [LX.out, LY.out] at hva
        have hlo := dl_lt hA.lim
        rcases Nat.eq_zero_or_pos q with c | c
        · subst c; omega
        · have : 1 * 10 ^ a.size ≤ q * 10 ^ a.size := Nat.mul_le_mul_right _ c
          omega
      go_wp2_with fail
      refine (of_any g2 a.size c2 o _ (by omega) (by omega) hO hA.lim).mono ?_
      rintro e w2 ⟨rfl, hb2⟩
      rw [HF.out]
      go_wp2
      go_ret
      exact ⟨rfl, hB.trans (hb2.mono hB.size)⟩

set_option maxHeartbeats 1000000 in
theorem refMul_any (x y : Nat) (w : World) (hx : tl x ≤ 1000) (hy : tl y ≤ 1000) :
    Calls Tryz.prog 59 #[.string (S x), .string (S y)] w fun e w' => e = .returned (.string (S (x * y))) ∧ Below w.heap.size w w' := by
  obtain ⟨i0, hi, hz0, hz1, hz2⟩ := info_parts Tryz.info3
  have dx := rt_dg (rt_S x)
  have dy := rt_dg (rt_S y)
  have px := tl_pos x
  have zx : (S x).size = tl x := S_size x
  have zy : (S y).size = tl y := S_size y
  have lx : dl (dg (S x).data.toList) (S x).size = x := dl_S x _ (by omega)
  have ly : dl (dg (S y).data.toList) (S y).size = y := dl_S y _ (by omega)
  have hzx : (S x).size ≤ 1000 := by omega
  have hzy : (S y).size ≤ 1000 := by omega
  have hpx : 1 ≤ (S x).size := by omega
  have LX : Hid _ := lx
  have LY : Hid _ := ly
  clear lx ly zx zy
  generalize S x = a at *
  generalize S y = b at *
  go_enter Tryz.func59, Tryz.ntmps59
  go_wp2_with (first | (at_make; refine wpList_make_full _ rfl _ _ 88 rfl w.heap.size 3 i0 (.int .i64 0) 1 Tryz.underlying88 hi hz0 hz1 _ _ _ _ (a.size + b.size) rfl rfl (by omega) (by omega) (by rw [hz2]; omega) (by unfold maxLen; omega) (Nat.le_refl _) ?_))
  intro w1 hown1 hgrow1
  go_wp2_with fail
  have hO1 := Ow.of_own hown1
  have hB1 : Below w.heap.size w w1 := (Below.refl _ _).grown hgrow1 (Nat.le_refl _) (fun k h => by cases h)
  clear hown1 hgrow1
  go_loopw [6] (fun i wr => ∃ k p, k ≤ a.size ∧ i = .int .i64 (k : Nat) ∧ Ow wr .i64 w.heap.size p (a.size + b.size) ∧ Mul10 p (dg a.data.toList) (a.size + b.size) b.size (dl (dg b.data.toList) b.size) k ∧ Below w.heap.size w wr) (fun i _ => a.size - (intOf i).toNat)
  case atStart => exact ⟨0, fun _ => 0, by omega, rfl, hO1, Mul10.start, hB1⟩
  case round =>
    obtain ⟨k, P, hk, rfl, hO, hI, hB⟩ := hrel
    clear hO1 hB1
    by_cases hlt : k < a.size
    · have x1 := dg_lt dx k
      go_wp2_with fail
      obtain ⟨wo, hwo⟩ : ∃ wo : World, wo = wr := ⟨_, rfl⟩
      subst hwo
      go_loopw [7, 8] (fun c i wr => ∃ j p q, j ≤ b.size ∧ i = .int .i64 (j : Nat) ∧ c = .int .i64 (q : Nat) ∧ Ow wr .i64 w.heap.size p (a.size + b.size) ∧ Mul10J p P (dg b.data.toList) (a.size + b.size) k j q (dg a.data.toList k) ∧ Below w.heap.size w wr) (fun _ i _ => b.size - (intOf i).toNat)
      case atStart => exact ⟨0, P, 0, by omega, rfl, rfl, hO, Mul10J.start hI.lim, hB⟩
      case round =>
        obtain ⟨j, p, q, hj, rfl, rfl, hO', hJ, hB'⟩ := hrel
        have hq := hJ.car
        by_cases hlt2 : j < b.size
        · have x2 := dg_lt dy j
          have hb := mul9 x1 x2
          have hcl := hO'.cell (k + j) (by omega)
          have hfz := hO'.frz (k + j)
          have hpl := hJ.lim (k + j) (by omega)
          have hst := hJ.step (by omega) x1 x2
          have hst2 := hO'.store (j := k + j) (by omega) ((q + (p (k + j) + dg a.data.toList k * dg b.data.toList j)) % 10)
          have hm0 : (0 : Int) ≤ (dg a.data.toList k : Int) * (dg b.data.toList j : Int) := by omega
          have hm1 : (dg a.data.toList k : Int) * (dg b.data.toList j : Int) ≤ 81 := by omega
          have hkj : (k : Int) + (j : Int) < (a.size : Int) + (b.size : Int) := by omega
          go_wp2_with fail
          go_quiet ((go_at_call 79; exact Calls.quiet_of_same (digit_any _ _ _ (by omega) (by omega) (by assumption))))
          go_wp2
          go_roundw
          case rel =>
            refine ⟨j + 1, _, _, by omega, by go_num, ?_, ?_, hst, ?_⟩
            · simp
            · have h := hst2.sm (Sm.drewN _ nq)
              simp only [Int.natCast_add, Int.natCast_emod, Int.natCast_mul, Int.cast_ofNat_Int] at h
              exact h
            · exact (hB'.setCell (p := ⟨w.heap.size, k + j, none⟩) (Nat.le_refl _) _).trans ((Sm.drewN _ nq).below _)
          case measure => simp [intOf]; omega
        · obtain rfl : j = b.size := by omega
          have hcl := hO'.cell (k + b.size) (by omega)
          have hfz := hO'.frz (k + b.size)
          have hst := hI.step hJ
          have hst2 := hO'.store (j := k + b.size) (by omega) q
          go_wp2
          go_roundw
          case rel => exact ⟨k + 1, _, by omega, by go_num, hst2, hst, hB'.setCell (Nat.le_refl _) _⟩
          case measure => simp [intOf]; omega
    · obtain rfl : k = a.size := by omega
      have HF : Hid (dl P (a.size + b.size) = x * y) := by
        show dl P (a.size + b.size) = x * y
        rw [hI.val, LX.out, LY.out]
      go_wp2_with fail
      refine (of_any w.heap.size (a.size + b.size) (a.size + b.size) P _ (by omega) (by omega) hO hI.lim).mono ?_
      rintro e w2 ⟨rfl, hb2⟩
      rw [HF.out]
      go_wp2
      go_ret
      exact ⟨rfl, hB.trans (hb2.mono hB.size)⟩

theorem less_bytes : ∀ (l m : List UInt8), Dg l → Dg m → l.length = m.length → Op.bytesLess l m = decide (dv l < dv m) := by
  intro l
  induction l with
  | nil =>
    intro m _ _ h
    have hm : m = [] := List.length_eq_zero_iff.1 (by simpa using h.symm)
    subst hm; rfl
  | cons c l ih =>
    intro m hl hm h
    match m, h with
    | d :: m, h =>
      have h' : l.length = m.length := by simpa using h
      have a1 := dv_lt (l := l) (fun e he => hl e (by simp [he]))
      have a2 := dv_lt (l := m) (fun e he => hm e (by simp [he]))
      have b1 := hl c (by simp)
      have b2 := hm d (by simp)
      simp only [Op.bytesLess]
      rw [dv_cons, dv_cons, h']
      rw [h'] at a1
      generalize 10 ^ m.length = P at *
      rcases Nat.lt_trichotomy c.toNat d.toNat with e | e | e
      · have e' : c < d := e
        have : (c.toNat - 48 + 1) * P ≤ (d.toNat - 48) * P := Nat.mul_le_mul_right _ (by omega)
        rw [Nat.add_mul, Nat.one_mul] at this
        have hd : decide ((c.toNat - 48) * P + dv l < (d.toNat - 48) * P + dv m) = true := decide_eq_true (by omega)
        rw [hd]; simp [e']
      · have e' : c = d := UInt8.toNat_inj.1 e
        subst e'
        rw [ih m (fun e he => hl e (by simp [he])) (fun e he => hm e (by simp [he])) h']
        have hn : ¬ c < c := Nat.lt_irrefl _
        simp [hn]
      · have e1 : ¬ c < d := fun x => by have : c.toNat < d.toNat := x; omega
        have e2 : ¬ c = d := fun x => by subst x; omega
        have : (d.toNat - 48 + 1) * P ≤ (c.toNat - 48) * P := Nat.mul_le_mul_right _ (by omega)
        rw [Nat.add_mul, Nat.one_mul] at this
        have hd : decide ((c.toNat - 48) * P + dv l < (d.toNat - 48) * P + dv m) = false := decide_eq_false (by omega)
        rw [hd]; simp [e1, e2]

theorem less_S {x y : Nat} (h : tl x = tl y) : Op.bytesLess (S x).toList (S y).toList = decide (x < y) := by
  rw [toList_data, toList_data, less_bytes _ _ (rt_dg (rt_S x)) (rt_dg (rt_S y)) (by rw [len_data, len_data, S_size, S_size, h]), dv_S, dv_S]

set_option maxHeartbeats 400000 in
theorem refCompare_any (x y : Nat) (w : World) (hx : tl x ≤ 50000) (hy : tl y ≤ 50000) :
    Calls Tryz.prog 69 #[.string (S x), .string (S y)] w fun e w' => e = .returned (.int .i64 (sg x y)) ∧ w' = w := by
  have SX : Hid _ := S_size x
  have SY : Hid _ := S_size y
  have z1 : (S x).size ≤ 50000 := by rw [SX.out]; exact hx
  have z2 : (S y).size ≤ 50000 := by rw [SY.out]; exact hy
  rcases Nat.lt_trichotomy (tl x) (tl y) with c | c | c
  · have HR : Hid (sg x y = -1) := sg_lt (by
      rcases Nat.lt_or_ge x y with d | d
      · omega
      · have := tl_mono d; omega)
    have h1 : (S x).size < (S y).size := by rw [SX.out, SY.out]; omega
    have h2 : (((S x).size : Int) != ((S y).size : Int)) = true := by rw [bne_iff_ne]; omega
    go_enter Tryz.func69, Tryz.ntmps69
    go_wp2
    go_ret
    exact ⟨by rw [HR.out]; rfl, rfl⟩
  · have h2 : (((S x).size : Int) != ((S y).size : Int)) = false := by
      rw [bne_eq_false_iff_eq, SX.out, SY.out, c]
    have HL : Hid _ := less_S c
    rcases Nat.lt_trichotomy x y with d | d | d
    · have HR : Hid (sg x y = -1) := sg_lt (by omega)
      have h3 : Op.bytesLess (S x).toList (S y).toList = true := by rw [HL.out]; simp; exact d
      go_enter Tryz.func69, Tryz.ntmps69
      go_wp2
      go_ret
      exact ⟨by rw [HR.out]; rfl, rfl⟩
    · subst d
      have HR : Hid (sg x x = 0) := sg_eq rfl
      have h3 : Op.bytesLess (S x).toList (S x).toList = false := by rw [HL.out]; simp
      go_enter Tryz.func69, Tryz.ntmps69
      go_wp2
      go_ret
      exact ⟨by rw [HR.out]; rfl, rfl⟩
    · have HR : Hid (sg x y = 1) := sg_gt (by omega)
      have h3 : Op.bytesLess (S x).toList (S y).toList = false := by rw [HL.out]; simp; omega
      have h4 : ((S x).toList == (S y).toList) = false := eqS (by omega)
      go_enter Tryz.func69, Tryz.ntmps69
      go_wp2
      go_ret
      exact ⟨by rw [HR.out]; rfl, rfl⟩
  · have HR : Hid (sg x y = 1) := sg_gt (by
      rcases Nat.lt_or_ge y x with d | d
      · omega
      · have := tl_mono d; omega)
    have h1 : ¬ (S x).size < (S y).size := by rw [SX.out, SY.out]; omega
    have h2 : (((S x).size : Int) != ((S y).size : Int)) = true := by rw [bne_iff_ne, SX.out, SY.out]; omega
    go_enter Tryz.func69, Tryz.ntmps69
    go_wp2
    go_ret
    exact ⟨by rw [HR.out]; rfl, rfl⟩
end Go.Proofs.YtpmnfgbbkmodpaaGreatDoor
