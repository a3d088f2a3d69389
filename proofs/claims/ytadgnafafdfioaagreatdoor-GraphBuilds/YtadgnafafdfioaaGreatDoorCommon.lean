/-
  WHAT DIVIDES BOTH. Conditions: each theorem's own.
-/
import Derived.Test.YtadgnafafdfioaaGreatDoorDiv
import Derived.Test.YtadgnafafdfioaaGreatDoorNm
import Derived.Test.YtadgnafafdfioaaGreatDoorRef
import Derived.ArgAppend
namespace Go.Proofs.YtadgnafafdfioaaGreatDoor
section
set_option maxRecDepth 100000
open Go.RowKit Nm
set_option linter.unusedVariables false

def two (x y : Nat) : Nat → Nat := fun i => if i = 0 then x else y

theorem Ow.two (w : World) (x y : Nat) : Ow (w.alloc (.cells #[.int .i64 (x : Nat), .int .i64 (y : Nat)] 2)) .i64 w.heap.size (two x y) 2 := by
  refine ⟨fun i hi => ?_, fun i => ?_, by simp⟩
  · rw [World.cell?_alloc_new]
    match i, hi with
    | 0, _ => rfl
    | 1, _ => rfl
  · rw [World.frozen?_alloc_new]

theorem lv_two' (f : Nat → Nat) (n : Nat) (h : n ≤ 2) : ext f n 1 * 1000000000 + ext f n 0 = lv f n := by
  rw [← lv_ext (f := f) h]
  simp [lv]
  omega

set_option maxHeartbeats 1000000 in
theorem smallDivisor_any (b1 n1 c1 b2 n2 c2 : Nat) (f g : Nat → Nat) (w : World) (hn1 : n1 ≤ 2) (hn2 : n2 ≤ 2) (h1 : Rw w b1 0 f n1) (h2 : Rw w b2 0 g n2) (hf : ∀ i, i < n1 → f i < 1000000000) (hg : ∀ i, i < n2 → g i < 1000000000) :
    Calls Tryz.prog 115 #[.slice (some ⟨b1, 0, none⟩) n1 c1, .slice (some ⟨b2, 0, none⟩) n2 c2] w fun e w' => Res w (Nat.gcd (lv f n1) (lv g n2)) e w' := by
  have a0 := ext_lt hf 0
  have a1 := ext_lt hf 1
  have d0 := ext_lt hg 0
  have d1 := ext_lt hg 1
  have HF : Hid _ := lv_two' f n1 hn1
  have HG : Hid _ := lv_two' g n2 hn2
  go_enter Tryz.func115, Tryz.ntmps115
  go_wp2_with fail
  refine (at_any b1 0 n1 c1 1 f _ (by omega) h1).mono ?_
  rintro e w1 ⟨rfl, rfl⟩
  go_wp2_with fail
  refine (at_any b1 0 n1 c1 0 f _ (by omega) h1).mono ?_
  rintro e w1 ⟨rfl, rfl⟩
  go_wp2_with fail
  refine (at_any b2 0 n2 c2 1 g _ (by omega) h2).mono ?_
  rintro e w1 ⟨rfl, rfl⟩
  go_wp2_with fail
  refine (at_any b2 0 n2 c2 0 g _ (by omega) h2).mono ?_
  rintro e w1 ⟨rfl, rfl⟩
  generalize ext f n1 1 = u1 at *
  generalize ext f n1 0 = u0 at *
  generalize ext g n2 1 = v1 at *
  generalize ext g n2 0 = v0 at *
  go_wp2_with fail
  go_loopw [5, 6] (fun x y wr => ∃ u v : Nat, x = .int .i64 (u : Nat) ∧ y = .int .i64 (v : Nat) ∧ u < 1000000000000000000 ∧ v < 1000000000000000000 ∧ Nat.gcd u v = Nat.gcd (lv f n1) (lv g n2) ∧ Sm w1 wr) (fun _ y _ => (intOf y).toNat)
  case atStart => exact ⟨u1 * 1000000000 + u0, v1 * 1000000000 + v0, by simp, by simp, by omega, by omega, by rw [HF.out, HG.out], Sm.refl _⟩
  case round =>
    obtain ⟨u, v, rfl, rfl, hu, hv, hgcd, hS⟩ := hrel
    have HC : Hid _ := hgcd
    clear hgcd
    rcases Nat.eq_zero_or_pos v with c | c
    · subst c
      have hz : (((0 : Nat) : Int) != 0) = false := by simp
      have HR : Hid (lv (two (u % 1000000000) (u / 1000000000)) 2 = Nat.gcd (lv f n1) (lv g n2)) := by
        show _ = _
        rw [← HC.out, Nat.gcd_zero_right]
        simp [lv, two]
        omega
      have hO := Ow.two wr (u % 1000000000) (u / 1000000000)
      have hSh := Shp.new wr #[.int .i64 ((u % 1000000000 : Nat) : Int), .int .i64 ((u / 1000000000 : Nat) : Int)] (by simp)
      simp only [Int.natCast_ediv, Int.natCast_emod, Int.cast_ofNat_Int] at hO hSh
      have hB : Below w1.heap.size w1 (wr.alloc (.cells #[.int .i64 ((u : Int) % 1000000000), .int .i64 ((u : Int) / 1000000000)] 2)) := (hS.below _).alloc (by rw [hS.heap]; exact Nat.le_refl _) _
      go_wp2_with fail
      refine (trim_any wr.heap.size 0 2 2 _ _ (by omega) (by omega) (by omega) hO.rw).mono ?_
      rintro e w2 ⟨⟨n, hn, hzero, htop, rfl⟩, rfl⟩
      go_wp2
      go_ret
      refine ⟨wr.heap.size, n, 2, _, rfl, ⟨fun i hi => hO.cell i (by omega), hO.frz, hO.lt⟩, hn, by omega, by rw [hS.heap]; exact Nat.le_refl _, ⟨fun i hi => ?_, htop⟩, by rw [← lv_cut hn hzero, HR.out], hB⟩
      unfold two; split <;> omega
    · have hz : (((v : Nat) : Int) != 0) = true := by rw [bne_iff_ne]; omega
      have hm : u % v < v := Nat.mod_lt _ c
      have HR : Hid (Nat.gcd v (u % v) = Nat.gcd (lv f n1) (lv g n2)) := by
        show _ = _
        rw [← HC.out, Nat.gcd_comm v, ← Nat.gcd_rec, Nat.gcd_comm]
      go_wp2_with fail
      go_quiet (fail)
      go_wp2
      go_roundw
      case rel => exact ⟨v, u % v, rfl, by simp, hv, by omega, HR.out, hS.trans (Sm.drewN _ _)⟩
      case measure => simp [intOf]; omega
end
end Go.Proofs.YtadgnafafdfioaaGreatDoor
namespace Go.Proofs.YtadgnafafdfioaaGreatDoor
section
set_option maxRecDepth 100000
open Go.RowKit Nm
set_option linter.unusedVariables false

theorem at_int (b off len cap : Nat) (i : Int) (f : Nat → Nat) (w : World) (h0 : 0 ≤ i) (hl : len ≤ 50000000) (hR : Rw w b off f len) :
    Calls Tryz.prog 128 #[.slice (some ⟨b, off, none⟩) len cap, .int .i64 i] w fun e w' => e = .returned (.int .i64 (ext f len i.toNat : Nat)) ∧ w' = w := by
  obtain ⟨k, rfl⟩ := Int.eq_ofNat_of_zero_le h0
  rw [Int.toNat_natCast]
  exact at_any b off len cap k f w hl hR

set_option maxRecDepth 100000 in
set_option maxHeartbeats 1000000 in
theorem digitsFrom_any (b len cap m sc D : Nat) (f : Nat → Nat) (w : World) (hl : len ≤ 5000000) (hm : m ≤ 5000000) (hR : Rw w b 0 f len) (hf : ∀ i, i < len → f i < 1000000000) (hD : sc * D = 1000000000) (hD0 : 0 < D) (hD1 : D ≤ 1000000000) (hs0 : 0 < sc) (hs1 : sc ≤ 1000000000) (ht : ext f len (m + 2) < D) :
    Calls Tryz.prog 123 #[.slice (some ⟨b, 0, none⟩) len cap, .int .i64 ((m : Int) + 3), .int .i64 sc] w fun e w' => e = .returned (.int .i64 (((ext f len (m + 2) * 1000000000 + ext f len (m + 1)) * sc + ext f len m / D : Nat) : Int)) ∧ Sm w w' := by
  have a1 := ext_lt hf (m + 2)
  have a2 := ext_lt hf (m + 1)
  have a3 := ext_lt hf m
  have hlt := lead_lt hD hD0 ht a2 a3
  have hRn : ∀ n, Rw (w.drewN n) b 0 f len := fun n => hR.sm (Sm.drewN _ _)
  have e1 : ((m : Int) + 3 - 1).toNat = m + 2 := by omega
  have e2 : ((m : Int) + 3 - 2).toNat = m + 1 := by omega
  have e3 : ((m : Int) + 3 - 3).toNat = m := by omega
  have hdi : (1000000000 : Int) / (sc : Int) = (D : Int) := by
    have : 1000000000 / sc = D := by rw [← hD]; exact Nat.mul_div_cancel_left _ hs0
    rw [← this]; simp
  have hq : ((ext f len m : Nat) : Int) / (D : Int) = ((ext f len m / D : Nat) : Int) := by simp
  have hp : ((((ext f len (m + 2) * 1000000000 + ext f len (m + 1)) * sc : Nat)) : Int) = ((ext f len (m + 2) : Int) * 1000000000 + (ext f len (m + 1) : Int)) * (sc : Int) := by simp
  have hm0 : (0 : Int) ≤ ((ext f len (m + 2) : Int) * 1000000000 + (ext f len (m + 1) : Int)) * (sc : Int) := by rw [← hp]; exact Int.natCast_nonneg _
  have hm1 : ((ext f len (m + 2) : Int) * 1000000000 + (ext f len (m + 1) : Int)) * (sc : Int) ≤ 1000000000000000000 := by rw [← hp]; exact Int.ofNat_le.2 (Nat.le_trans (Nat.le_add_right _ _) (Nat.le_of_lt hlt))
  have hqb : ext f len m / D ≤ 1000000000 := Nat.le_trans (Nat.div_le_self _ _) (by omega)
  have HP : Hid _ := hp
  have HD : Hid _ := hD
  clear hp hlt hD ht
  generalize ext f len m / D = q3 at *
  go_enter Tryz.func123, Tryz.ntmps123
  go_wp2_with fail
  go_quiet ((go_at_call 128; exact Calls.quiet_of_same (at_int _ _ _ _ _ _ _ (by omega) (by omega) (hRn _))))
  go_wp2
  go_ret
  exact ⟨ret_int (by rw [Int.natCast_add, HP.out]), Sm.drewN _ _⟩

theorem pow_scale (j : Nat) (h : j ≤ 8) : 10 ^ j * 10 ^ (9 - j) = 1000000000 := by
  rw [← Nat.pow_add, show j + (9 - j) = 9 by omega]

theorem scale_top {l j : Nat} (h : l * 10 ^ j < 1000000000) (hj : j ≤ 8) : l < 10 ^ (9 - j) := by
  have := pow_scale j hj
  rw [← this, Nat.mul_comm (10 ^ j)] at h
  exact Nat.lt_of_mul_lt_mul_right h

/-- what the leading digits are good for -/
def Lead (x y U V : Nat) : Prop := ∃ E α β, U = x * E + α ∧ V = y * E + β ∧ α < E ∧ β < E ∧ x < 1000000000000000000 ∧ y ≤ x

theorem le_of_lead {x y E U V α β : Nat} (h1 : U = x * E + α) (h2 : V = y * E + β) (h3 : α < E) (hle : V ≤ U) : y ≤ x := by
  have k : y * E < (x + 1) * E := by rw [Nat.add_mul, Nat.one_mul]; omega
  have := Nat.lt_of_mul_lt_mul_right k
  omega

theorem lead_of {f g : Nat → Nat} {m n2 j : Nat} (hf : Nrm f (m + 3)) (hg : Nrm g n2) (h2 : n2 ≤ m + 3) (hle : lv g n2 ≤ lv f (m + 3)) (hj : j ≤ 8) (ht : f (m + 2) * 10 ^ j < 1000000000) :
    ext g n2 (m + 2) < 10 ^ (9 - j) ∧ Lead ((f (m + 2) * 1000000000 + f (m + 1)) * 10 ^ j + f m / 10 ^ (9 - j)) ((ext g n2 (m + 2) * 1000000000 + ext g n2 (m + 1)) * 10 ^ j + ext g n2 m / 10 ^ (9 - j)) (lv f (m + 3)) (lv g n2) := by
  have hD := pow_scale j hj
  have hD0 := pos10 (9 - j)
  have hft := scale_top ht hj
  have hgl := ext_lt hg.1
  have vg : lv (ext g n2) (m + 3) = lv g n2 := lv_ext h2
  have hW := posB m
  have lf := lv_lt (f := f) (n := m) (fun i hi => hf.1 i (by omega))
  have lg := lv_lt (f := ext g n2) (n := m) (fun i _ => hgl i)
  have tf := lv_three f m
  have tg := lv_three (ext g n2) m
  have hgt : ext g n2 (m + 2) ≤ f (m + 2) := by
    have k1 : lv f (m + 3) = lv f (m + 2) + f (m + 2) * 1000000000 ^ (m + 2) := lv_succ _ _
    have k2 : lv (ext g n2) (m + 3) = lv (ext g n2) (m + 2) + ext g n2 (m + 2) * 1000000000 ^ (m + 2) := lv_succ _ _
    have k3 := lv_lt (f := f) (n := m + 2) (fun i hi => hf.1 i (by omega))
    rw [vg] at k2
    have k4 : ext g n2 (m + 2) * 1000000000 ^ (m + 2) < (f (m + 2) + 1) * 1000000000 ^ (m + 2) := by rw [Nat.add_mul, Nat.one_mul]; omega
    have := Nat.lt_of_mul_lt_mul_right k4
    omega
  have hgD : ext g n2 (m + 2) < 10 ^ (9 - j) := by omega
  refine ⟨hgD, ?_⟩
  obtain ⟨α, e1, e2⟩ := lead_form (l1 := f (m + 2)) (l2 := f (m + 1)) (l3 := f m) hD hD0 lf
  obtain ⟨β, e3, e4⟩ := lead_form (l1 := ext g n2 (m + 2)) (l2 := ext g n2 (m + 1)) (l3 := ext g n2 m) hD hD0 lg
  have bx := lead_lt hD hD0 hft (hf.1 (m + 1) (by omega)) (hf.1 m (by omega))
  rw [← tf] at e1
  rw [← tg, vg] at e3
  exact ⟨_, α, β, e1, e3, e2, e4, bx, le_of_lead e1 e3 e2 hle⟩

set_option maxRecDepth 100000 in
set_option maxHeartbeats 1000000 in
theorem leading_any (b1 m c1 b2 n2 c2 : Nat) (f g : Nat → Nat) (w : World) (hm : m ≤ 4500000) (hn2 : n2 ≤ m + 3) (h1 : Rw w b1 0 f (m + 3)) (h2 : Rw w b2 0 g n2) (hf : Nrm f (m + 3)) (hg : Nrm g n2) (hle : lv g n2 ≤ lv f (m + 3)) :
    Calls Tryz.prog 111 #[.slice (some ⟨b1, 0, none⟩) (m + 3) c1, .slice (some ⟨b2, 0, none⟩) n2 c2] w fun e w' => ∃ x y : Nat, e = .returned (.tuple #[.int .i64 x, .int .i64 y]) ∧ Lead x y (lv f (m + 3)) (lv g n2) ∧ Sm w w' := by
  have ct := h1 (m + 2) (by omega)
  simp only [Nat.zero_add] at ct
  have htop : 0 < f (m + 2) := by
    rcases hf.2 with e | e
    · omega
    · simp at e; omega
  have htl := hf.1 (m + 2) (by omega)
  go_enter Tryz.func111, Tryz.ntmps111
  go_wp2_with fail
  go_loop [6] (fun s => ∃ j : Nat, j ≤ 8 ∧ s = .int .i64 ((10 ^ j : Nat) : Int) ∧ f (m + 2) * 10 ^ j < 1000000000) (fun s => (100000000 - intOf s).toNat)
  case atStart => exact ⟨0, by omega, rfl, by simpa using htl⟩
  case round =>
    obtain ⟨j, hj, rfl, hlt⟩ := hrel
    have hpj := pos10 j
    have hpb : 10 ^ j ≤ 10 ^ 8 := Nat.pow_le_pow_right (by omega) hj
    have hD := pow_scale j hj
    have hD0 := pos10 (9 - j)
    have hDb : 10 ^ (9 - j) ≤ 10 ^ 9 := Nat.pow_le_pow_right (by omega) (by omega)
    have HL : Hid _ := lead_of hf hg hn2 hle hj hlt
    have HJ : Hid (10 ^ (j + 1) = 10 ^ j * 10) := Nat.pow_succ 10 j
    have HT : Hid _ := hlt
    generalize hsc : 10 ^ j = sc at *
    have HSC : Hid _ := hsc
    clear hsc
    generalize 10 ^ (9 - j) = D at *
    have hm0 : (0 : Int) ≤ (f (m + 2) : Int) * (sc : Int) := Int.mul_nonneg (by omega) (by omega)
    have hm1 : (f (m + 2) : Int) * (sc : Int) < 1000000000 := by omega
    have hsb : sc ≤ 100000000 := by omega
    have hDbb : D ≤ 1000000000 := by omega
    by_cases hc : f (m + 2) * sc < 100000000
    · have hc' : (f (m + 2) : Int) * (sc : Int) < 100000000 := by omega
      have hj8 : j ≠ 8 := by
        intro e
        subst e
        have h8 := HSC.out
        have : 1 * sc ≤ f (m + 2) * sc := Nat.mul_le_mul_right _ htop
        omega
      have hs8 : sc < 100000000 := by
        have : 1 * sc ≤ f (m + 2) * sc := Nat.mul_le_mul_right _ htop
        omega
      have hlt2 : f (m + 2) * (sc * 10) < 1000000000 := by rw [← Nat.mul_assoc]; omega
      clear hlt
      go_wp2
      go_round
      case rel => exact ⟨j + 1, by omega, by rw [HJ.out]; simp, by rw [HJ.out]; exact hlt2⟩
      case measure => simp [intOf]; omega
    · have hc' : ¬ (f (m + 2) : Int) * (sc : Int) < 100000000 := by omega
      have e1 : ext f (m + 3) (m + 2) = f (m + 2) := by unfold ext; rw [if_pos (by omega)]
      have e2 : ext f (m + 3) (m + 1) = f (m + 1) := by unfold ext; rw [if_pos (by omega)]
      have e3 : ext f (m + 3) m = f m := by unfold ext; rw [if_pos (by omega)]
      have hfD : ext f (m + 3) (m + 2) < D := by
        rw [e1]
        have : f (m + 2) * sc < D * sc := by rw [Nat.mul_comm D sc, hD]; exact hlt
        exact Nat.lt_of_mul_lt_mul_right this
      have E1 : Hid _ := e1
      have E2 : Hid _ := e2
      have E3 : Hid _ := e3
      have HH : Hid _ := hD
      have FD : Hid _ := hfD
      clear e1 e2 e3 hD hfD hlt
      go_wp2_with fail
      refine (digitsFrom_any b1 (m + 3) c1 m sc D f _ (by omega) (by omega) h1 hf.1 HH.out hD0 hDbb hpj (by omega) FD.out).mono ?_
      rintro e w1 ⟨rfl, hS1⟩
      have h2' := h2.sm hS1
      go_wp2_with fail
      refine (digitsFrom_any b2 n2 c2 m sc D g _ (by omega) (by omega) h2' hg.1 HH.out hD0 hDbb hpj (by omega) HL.out.1).mono ?_
      rintro e w2 ⟨rfl, hS2⟩
      rw [E1.out, E2.out, E3.out]
      go_wp2
      go_ret2
      exact ⟨_, _, rfl, HL.out.2, hS1.trans hS2⟩
end
end Go.Proofs.YtadgnafafdfioaaGreatDoor
namespace Go.Proofs.YtadgnafafdfioaaGreatDoor
section
set_option maxRecDepth 100000
open Go.RowKit Nm
set_option linter.unusedVariables false

/-- four numbers in a block -/
structure M4 (w : World) (b : Nat) (a c d e : Int) : Prop where
  c0 : w.cell? ⟨b, 0, none⟩ = some (.int .i64 a)
  c1 : w.cell? ⟨b, 1, none⟩ = some (.int .i64 c)
  c2 : w.cell? ⟨b, 2, none⟩ = some (.int .i64 d)
  c3 : w.cell? ⟨b, 3, none⟩ = some (.int .i64 e)
  frz : ∀ i, w.frozen? ⟨b, i, none⟩ = false

def set4 (w : World) (b : Nat) (a c d e : Int) : World := (((w.setCell ⟨b, 0, none⟩ (.int .i64 a)).setCell ⟨b, 1, none⟩ (.int .i64 c)).setCell ⟨b, 2, none⟩ (.int .i64 d)).setCell ⟨b, 3, none⟩ (.int .i64 e)

theorem cell_other (w : World) (b i j : Nat) (v : Value) (h : i ≠ j) : (w.setCell ⟨b, i, none⟩ v).cell? ⟨b, j, none⟩ = w.cell? ⟨b, j, none⟩ :=
  World.cell?_setCell_other _ _ _ _ (by intro x; injection x with _ h2; exact h h2)

theorem M4.set {w : World} {b : Nat} {p q r s : Int} (h : M4 w b p q r s) (a c d e : Int) : M4 (set4 w b a c d e) b a c d e := by
  unfold set4
  have k1 : (w.setCell ⟨b, 0, none⟩ (.int .i64 a)).cell? ⟨b, 1, none⟩ = some (.int .i64 q) := by rw [cell_other _ _ _ _ _ (by omega)]; exact h.c1
  have k2 : ((w.setCell ⟨b, 0, none⟩ (.int .i64 a)).setCell ⟨b, 1, none⟩ (.int .i64 c)).cell? ⟨b, 2, none⟩ = some (.int .i64 r) := by rw [cell_other _ _ _ _ _ (by omega), cell_other _ _ _ _ _ (by omega)]; exact h.c2
  have k3 : (((w.setCell ⟨b, 0, none⟩ (.int .i64 a)).setCell ⟨b, 1, none⟩ (.int .i64 c)).setCell ⟨b, 2, none⟩ (.int .i64 d)).cell? ⟨b, 3, none⟩ = some (.int .i64 s) := by rw [cell_other _ _ _ _ _ (by omega), cell_other _ _ _ _ _ (by omega), cell_other _ _ _ _ _ (by omega)]; exact h.c3
  refine ⟨?_, ?_, ?_, ?_, fun i => ?_⟩
  · rw [cell_other _ _ _ _ _ (by omega), cell_other _ _ _ _ _ (by omega), cell_other _ _ _ _ _ (by omega)]; exact World.cell?_setCell_same _ _ _ h.c0
  · rw [cell_other _ _ _ _ _ (by omega), cell_other _ _ _ _ _ (by omega)]; exact World.cell?_setCell_same _ _ _ k1
  · rw [cell_other _ _ _ _ _ (by omega)]; exact World.cell?_setCell_same _ _ _ k2
  · exact World.cell?_setCell_same _ _ _ k3
  · rw [World.frozen?_setCell, World.frozen?_setCell, World.frozen?_setCell, World.frozen?_setCell]; exact h.frz i

theorem wr_set4 (w : World) (b : Nat) (a c d e : Int) : Wr w (set4 w b a c d e) b := ((((Wr.refl w b).setCell _ _).setCell _ _).setCell _ _).setCell _ _

theorem M4.kept {w w' : World} {b k : Nat} {p q r s : Int} (h : M4 w b p q r s) (hw : Wr w w' k) (hk : b ≠ k) : M4 w' b p q r s :=
  ⟨by rw [World.cell?_of_block (w := w) (hw.block b hk)]; exact h.c0, by rw [World.cell?_of_block (w := w) (hw.block b hk)]; exact h.c1, by rw [World.cell?_of_block (w := w) (hw.block b hk)]; exact h.c2, by rw [World.cell?_of_block (w := w) (hw.block b hk)]; exact h.c3, fun i => by rw [World.frozen?_of_block (w := w) (hw.block b hk)]; exact h.frz i⟩

/-- what comes out of the steps: none, or an even or odd number of them -/
def Mix (X Y : Nat) (a b c d : Int) : Prop :=
  (a = 1 ∧ b = 0 ∧ c = 0 ∧ d = 1) ∨
  ∃ x y p r s t : Nat, 1 ≤ r ∧ p < 1000000000 ∧ r < 1000000000 ∧ s < 1000000000 ∧ t < 1000000000 ∧
    ((a = p ∧ b = -(r : Int) ∧ c = -(s : Int) ∧ d = t ∧ Ev x y p r s t X Y) ∨ (a = -(p : Int) ∧ b = r ∧ c = s ∧ d = -(t : Int) ∧ Ev x y r p t s Y X))

/-- the state in the loop: the numbers that are left, and the factors -/
def St (X Y x y : Nat) (a b c d : Int) : Prop :=
  (a = 1 ∧ b = 0 ∧ c = 0 ∧ d = 1 ∧ x = X ∧ y = Y) ∨
  ∃ p r s t : Nat, 1 ≤ r ∧ p < 1000000000 ∧ r < 1000000000 ∧ s < 1000000000 ∧ t < 1000000000 ∧
    ((a = p ∧ b = -(r : Int) ∧ c = -(s : Int) ∧ d = t ∧ Ev x y p r s t X Y) ∨ (a = -(p : Int) ∧ b = r ∧ c = s ∧ d = -(t : Int) ∧ Ev x y r p t s Y X))

theorem St.mix {X Y x y : Nat} {a b c d : Int} (h : St X Y x y a b c d) : Mix X Y a b c d := by
  rcases h with ⟨h1, h2, h3, h4, _⟩ | ⟨p, r, s, t, h1, h2, h3, h4, h5, h6⟩
  · exact Or.inl ⟨h1, h2, h3, h4⟩
  · exact Or.inr ⟨x, y, p, r, s, t, h1, h2, h3, h4, h5, h6⟩

/-- what a round needs of the state: both divisors are from 0 on, and what the step gives -/
theorem St.round {X Y x y : Nat} {a b c d : Int} (h : St X Y x y a b c d) (hX : X < 1000000000000000000) (hYX : Y ≤ X) :
    x < 1000000000000000000 ∧ y ≤ x ∧ 0 ≤ (y : Int) + c ∧ 0 ≤ (y : Int) + d ∧ 0 ≤ (x : Int) + a ∧ 0 ≤ (x : Int) + b ∧ -1000000000 ≤ a ∧ a ≤ 1000000000 ∧ -1000000000 ≤ b ∧ b ≤ 1000000000 ∧ -1000000000 ≤ c ∧ c ≤ 1000000000 ∧ -1000000000 ≤ d ∧ d ≤ 1000000000 ∧
    ((y : Int) + c ≠ 0 → (y : Int) + d ≠ 0 → ((x : Int) + a) / ((y : Int) + c) = ((x : Int) + b) / ((y : Int) + d) →
      ∃ q z : Nat, ((x : Int) + a) / ((y : Int) + c) = (q : Int) ∧ (x : Int) - (q : Int) * (y : Int) = (z : Int) ∧ (q * y ≤ x) ∧ -1000000000 ≤ (q : Int) * c ∧ (q : Int) * c ≤ 1000000000 ∧ -1000000000 ≤ (q : Int) * d ∧ (q : Int) * d ≤ 1000000000 ∧ z < y ∧ St X Y y z c d (a - (q : Int) * c) (b - (q : Int) * d)) := by
  have even : ∀ p r s t : Nat, p < 1000000000 → r < 1000000000 → s < 1000000000 → t < 1000000000 → X = t * x + r * y → Y = s * x + p * y → p * t = r * s + 1 → s ≤ y → y ≤ x → r ≤ x → (1 ≤ s ∨ 1 ≤ p) → 1 ≤ t → x < 1000000000000000000 → a = p → b = -(r : Int) → c = -(s : Int) → d = t →
      ((y : Int) + c ≠ 0 → (y : Int) + d ≠ 0 → ((x : Int) + a) / ((y : Int) + c) = ((x : Int) + b) / ((y : Int) + d) →
      ∃ q z : Nat, ((x : Int) + a) / ((y : Int) + c) = (q : Int) ∧ (x : Int) - (q : Int) * (y : Int) = (z : Int) ∧ (q * y ≤ x) ∧ -1000000000 ≤ (q : Int) * c ∧ (q : Int) * c ≤ 1000000000 ∧ -1000000000 ≤ (q : Int) * d ∧ (q : Int) * d ≤ 1000000000 ∧ z < y ∧ St X Y y z c d (a - (q : Int) * c) (b - (q : Int) * d)) := by
    intro p r s t bp br bs bt ex ey det lo hyx hrx hsp ht hxb ea eb ec ed n1 n2 he
    subst ea eb ec ed
    have i1 : (y : Int) + -(s : Int) = ((y - s : Nat) : Int) := by omega
    have i2 : (x : Int) + -(r : Int) = ((x - r : Nat) : Int) := by omega
    rw [i1] at n1 he ⊢
    rw [i2] at he
    have i3 : ((x : Int) + (p : Int)) / ((y - s : Nat) : Int) = (((x + p) / (y - s) : Nat) : Int) := by simp
    have i4 : ((x - r : Nat) : Int) / ((y : Int) + (t : Int)) = (((x - r) / (y + t) : Nat) : Int) := by simp
    rw [i3, i4] at he
    have hq : (x - r) / (y + t) = (x + p) / (y - s) := (Int.ofNat_inj.1 he).symm
    obtain ⟨hev, hqx⟩ := ev_step ex ey det lo hyx hrx hsp ht (by omega) rfl hq
    generalize (x + p) / (y - s) = q at *
    have hb := hev.bounds (by omega) hX
    have hpl := hev.hi
    have k1 : (q : Int) * -(s : Int) = -((q * s : Nat) : Int) := by rw [Int.mul_neg]; simp
    have k2 : (q : Int) * (t : Int) = ((q * t : Nat) : Int) := by simp
    have k3 : (q : Int) * (y : Int) = ((q * y : Nat) : Int) := by simp
    refine ⟨q, x - q * y, i3, by rw [k3]; omega, hqx, by rw [k1]; omega, by rw [k1]; omega, by rw [k2]; omega, by rw [k2]; omega, by omega, Or.inr ⟨s, t, p + q * s, r + q * t, ht, bs, bt, by omega, by omega, Or.inr ⟨rfl, rfl, ?_, ?_, hev⟩⟩⟩
    · rw [k1]; simp
    · rw [k2]; simp; omega
  have odd : ∀ p r s t : Nat, p < 1000000000 → r < 1000000000 → s < 1000000000 → t < 1000000000 → Ev x y r p t s Y X → a = -(p : Int) → b = r → c = s → d = -(t : Int) →
      ((y : Int) + c ≠ 0 → (y : Int) + d ≠ 0 → ((x : Int) + a) / ((y : Int) + c) = ((x : Int) + b) / ((y : Int) + d) →
      ∃ q z : Nat, ((x : Int) + a) / ((y : Int) + c) = (q : Int) ∧ (x : Int) - (q : Int) * (y : Int) = (z : Int) ∧ (q * y ≤ x) ∧ -1000000000 ≤ (q : Int) * c ∧ (q : Int) * c ≤ 1000000000 ∧ -1000000000 ≤ (q : Int) * d ∧ (q : Int) * d ≤ 1000000000 ∧ z < y ∧ St X Y y z c d (a - (q : Int) * c) (b - (q : Int) * d)) := by
    intro p r s t bp br bs bt hv ea eb ec ed n1 n2 he
    subst ea eb ec ed
    have hlo := hv.lo
    have hhi := hv.hi
    have i1 : (y : Int) + -(t : Int) = ((y - t : Nat) : Int) := by omega
    have i2 : (x : Int) + -(p : Int) = ((x - p : Nat) : Int) := by omega
    rw [i1] at n2 he
    rw [i2] at he ⊢
    have i3 : ((x - p : Nat) : Int) / ((y : Int) + (s : Int)) = (((x - p) / (y + s) : Nat) : Int) := by simp
    have i4 : ((x : Int) + (r : Int)) / ((y - t : Nat) : Int) = (((x + r) / (y - t) : Nat) : Int) := by simp
    rw [i3, i4] at he
    have hq : (x + r) / (y - t) = (x - p) / (y + s) := (Int.ofNat_inj.1 he).symm
    obtain ⟨hev, hqx⟩ := ev_step hv.ex hv.ey hv.det hv.lo (by omega) (by omega) (Or.inl hv.s1) hv.t1 (by omega) hq rfl
    generalize (x - p) / (y + s) = q at *
    have hb := hev.bounds hX (by omega)
    have hpl := hev.hi
    have k1 : (q : Int) * -(t : Int) = -((q * t : Nat) : Int) := by rw [Int.mul_neg]; simp
    have k2 : (q : Int) * (s : Int) = ((q * s : Nat) : Int) := by simp
    have k3 : (q : Int) * (y : Int) = ((q * y : Nat) : Int) := by simp
    refine ⟨q, x - q * y, i3, by rw [k3]; omega, hqx, by rw [k2]; omega, by rw [k2]; omega, by rw [k1]; omega, by rw [k1]; omega, by omega, Or.inr ⟨s, t, p + q * s, r + q * t, hv.s1, bs, bt, by omega, by omega, Or.inl ⟨rfl, rfl, ?_, ?_, hev⟩⟩⟩
    · rw [k2]; simp; omega
    · rw [k1]; simp
  rcases h with ⟨ea, eb, ec, ed, rfl, rfl⟩ | ⟨p, r, s, t, hr1, bp, br, bs, bt, ⟨ea, eb, ec, ed, hv⟩ | ⟨ea, eb, ec, ed, hv⟩⟩
  · have h := even 1 0 0 1 (by omega) (by omega) (by omega) (by omega) (by omega) (by omega) (by omega) (by omega) hYX (by omega) (Or.inr (by omega)) (by omega) hX (by rw [ea]; rfl) (by rw [eb]; rfl) (by rw [ec]; rfl) (by rw [ed]; rfl)
    refine ⟨hX, hYX, ?_, ?_, ?_, ?_, ?_, ?_, ?_, ?_, ?_, ?_, ?_, ?_, h⟩ <;> omega
  · have hb := hv.bounds hX (by omega)
    have hlo := hv.lo
    have hhi := hv.hi
    have h := even p r s t bp br bs bt hv.ex hv.ey hv.det hv.lo (by omega) (by omega) (Or.inl hv.s1) hv.t1 hb.2.2.1 ea eb ec ed
    refine ⟨hb.2.2.1, by omega, ?_, ?_, ?_, ?_, ?_, ?_, ?_, ?_, ?_, ?_, ?_, ?_, h⟩ <;> omega
  · have hb := hv.bounds (by omega) hX
    have hlo := hv.lo
    have hhi := hv.hi
    have h := odd p r s t bp br bs bt hv ea eb ec ed
    refine ⟨hb.2.2.1, by omega, ?_, ?_, ?_, ?_, ?_, ?_, ?_, ?_, ?_, ?_, ?_, ?_, h⟩ <;> omega

set_option maxHeartbeats 1000000 in
theorem none_any (a b c d : Int) (w : World) : Calls Tryz.prog 112 #[.agg #[.int .i64 a, .int .i64 b, .int .i64 c, .int .i64 d]] w fun e w' => e = .returned (.bool (b == 0)) ∧ Below w.heap.size w w' := by
  go_enter Tryz.func112, Tryz.ntmps112
  go_wp2
  go_ret
  exact ⟨rfl, (Below.refl _ _).alloc (Nat.le_refl _) _⟩

set_option maxRecDepth 100000 in
set_option maxHeartbeats 1000000 in
theorem stepsOf_any (X Y : Nat) (w : World) (hX : X < 1000000000000000000) (hYX : Y ≤ X) :
    Calls Tryz.prog 110 #[.int .i64 X, .int .i64 Y] w fun e w' => ∃ a b c d : Int, e = .returned (.agg #[.int .i64 a, .int .i64 b, .int .i64 c, .int .i64 d]) ∧ Mix X Y a b c d ∧ Below w.heap.size w w' := by
  go_enter Tryz.func110, Tryz.ntmps110
  go_wp2_with fail
  go_loopw [0, 1] (fun x y wr => ∃ (u v : Nat) (a b c d : Int), x = .int .i64 (u : Nat) ∧ y = .int .i64 (v : Nat) ∧ M4 wr (w.heap.size + 1) a b c d ∧ M4 wr w.heap.size 0 0 0 0 ∧ St X Y u v a b c d ∧ Below w.heap.size w wr ∧ w.heap.size + 1 < wr.heap.size) (fun _ y _ => (intOf y).toNat)
  case atStart =>
    refine ⟨X, Y, 1, 0, 0, 1, rfl, rfl, ?_, ?_, Or.inl ⟨rfl, rfl, rfl, rfl, rfl, rfl⟩, ((Below.refl _ _).alloc (Nat.le_refl _) _).alloc (by simp) _, by simp⟩
    · constructor <;> simp [go_sem]
    · constructor <;> simp [go_sem]
  case round =>
    obtain ⟨u, v, a, b, c, d, rfl, rfl, hM, hZ, hSt, hB, hsz⟩ := hrel
    obtain ⟨r1, r2, r3, r4, r5, r6, r7, r8, r9, r10, r11, r12, r13, r14, hstep⟩ := hSt.round hX hYX
    have HST : Hid _ := hSt
    have HSTEP : Hid _ := hstep
    clear hSt hstep
    have HM : Hid _ := hM
    have HZ : Hid _ := hZ
    obtain ⟨m0, m1, m2, m3, mf⟩ := hM
    obtain ⟨z0, z1, z2, z3, zf⟩ := hZ
    have mf0 := mf 0
    have mf1 := mf 1
    have mf2 := mf 2
    have mf3 := mf 3
    have zf0 := zf 0
    have zf1 := zf 1
    have zf2 := zf 2
    have zf3 := zf 3
    clear mf zf
    by_cases c1 : (v : Int) + c = 0
    · have b1 : (((v : Int) + c) != 0) = false := by simp [c1]
      have C1 : Hid _ := c1
      clear c1
      go_wp2
      have hw4 := wr_set4 wr w.heap.size a b c d
      obtain ⟨n0, n1, n2, n3, _⟩ := HZ.out.set a b c d
      unfold set4 at n0 n1 n2 n3
      refine bodyPost_ret (v := .agg #[.int .i64 a, .int .i64 b, .int .i64 c, .int .i64 d]) ?_ rfl ⟨a, b, c, d, rfl, St.mix HST.out, hB.trans (hw4.below (Nat.le_refl _))⟩
      simp [results, Tryz.results110, go_sem, n0, n1, n2, n3]
    · have b1 : (((v : Int) + c) != 0) = true := by rw [bne_iff_ne]; exact c1
      by_cases c2 : (v : Int) + d = 0
      · have b2 : (((v : Int) + d) != 0) = false := by simp [c2]
        have C2 : Hid _ := c2
        clear c2
        go_wp2
        have hw4 := wr_set4 wr w.heap.size a b c d
        obtain ⟨n0, n1, n2, n3, _⟩ := HZ.out.set a b c d
        unfold set4 at n0 n1 n2 n3
        refine bodyPost_ret (v := .agg #[.int .i64 a, .int .i64 b, .int .i64 c, .int .i64 d]) ?_ rfl ⟨a, b, c, d, rfl, St.mix HST.out, hB.trans (hw4.below (Nat.le_refl _))⟩
        simp [results, Tryz.results110, go_sem, n0, n1, n2, n3]
      · have b2 : (((v : Int) + d) != 0) = true := by rw [bne_iff_ne]; exact c2
        by_cases c3 : ((u : Int) + a) / ((v : Int) + c) = ((u : Int) + b) / ((v : Int) + d)
        · obtain ⟨q, z, k1, k2, k3, k4, k5, k6, k7, k8, k9⟩ := HSTEP.out c1 c2 c3
          have hv1 : (1 : Int) ≤ (v : Int) + c := by omega
          have hv2 : (1 : Int) ≤ (v : Int) + d := by omega
          have k1' : ((u : Int) + b) / ((v : Int) + d) = (q : Int) := by rw [← c3]; exact k1
          have K9 : Hid _ := k9
          have q0 : (0 : Int) ≤ (q : Int) * (v : Int) := Int.mul_nonneg (by omega) (by omega)
          have q1 : (q : Int) * (v : Int) ≤ 1000000000000000000 := by
            have : ((q * v : Nat) : Int) ≤ (u : Int) := Int.ofNat_le.2 k3
            rw [Int.natCast_mul] at this; omega
          clear c3 k9
          go_wp2
          go_roundw
          case rel =>
            have hw4 := wr_set4 wr (w.heap.size + 1) c d (a - (q : Int) * c) (b - (q : Int) * d)
            refine ⟨v, z, c, d, _, _, rfl, rfl, HM.out.set c d _ _, HZ.out.kept hw4 (by omega), K9.out, hB.trans (hw4.below (by omega)), Nat.lt_of_lt_of_eq hsz hw4.size.symm⟩
          case measure => simp [intOf]; omega
        · have b3 : ((((u : Int) + a) / ((v : Int) + c)) != (((u : Int) + b) / ((v : Int) + d))) = true := by rw [bne_iff_ne]; exact c3
          have hv1 : (1 : Int) ≤ (v : Int) + c := by omega
          have hv2 : (1 : Int) ≤ (v : Int) + d := by omega
          go_wp2
          have hw4 := wr_set4 wr w.heap.size a b c d
          obtain ⟨n0, n1, n2, n3, _⟩ := HZ.out.set a b c d
          unfold set4 at n0 n1 n2 n3
          refine bodyPost_ret (v := .agg #[.int .i64 a, .int .i64 b, .int .i64 c, .int .i64 d]) ?_ rfl ⟨a, b, c, d, rfl, St.mix HST.out, hB.trans (hw4.below (Nat.le_refl _))⟩
          simp [results, Tryz.results110, go_sem, n0, n1, n2, n3]
end
end Go.Proofs.YtadgnafafdfioaaGreatDoor
namespace Go.Proofs.YtadgnafafdfioaaGreatDoor
section
set_option maxRecDepth 100000
open Go.RowKit Nm
set_option linter.unusedVariables false

set_option maxHeartbeats 400000 in
theorem trim_big (b off len cap : Nat) (f : Nat → Nat) (w : World) (hl : len ≤ 50000000) (hlc : len ≤ cap) (hcap : cap ≤ maxLen) (hR : Rw w b off f len) :
    Calls Tryz.prog 117 #[.slice (some ⟨b, off, none⟩) len cap] w fun e w' => (∃ n, n ≤ len ∧ (∀ i, n ≤ i → i < len → f i = 0) ∧ (n = 0 ∨ f (n - 1) ≠ 0) ∧ e = .returned (.slice (some ⟨b, off, none⟩) n cap)) ∧ w' = w := by
  unfold maxLen at hcap
  go_enter Tryz.func117, Tryz.ntmps117
  go_wp2
  go_loop [3] (fun i => ∃ k : Nat, k ≤ len ∧ i = .int .i64 k ∧ (∀ i, k ≤ i → i < len → f i = 0)) (fun i => (intOf i).toNat)
  case atStart => exact ⟨len, Nat.le_refl _, rfl, fun i a b => by omega⟩
  case round =>
    obtain ⟨k, hk, rfl, hz⟩ := hrel
    by_cases h0 : 0 < k
    · have hc := hR (k - 1) (by omega)
      by_cases hf : f (k - 1) = 0
      · rw [hf] at hc
        go_wp2
        go_round
        case rel =>
          refine ⟨k - 1, by omega, by go_num, fun i a b => ?_⟩
          by_cases e : i = k - 1
          · rw [e]; exact hf
          · exact hz i (by omega) b
        case measure => simp [intOf]; omega
      · have hne : (((f (k - 1) : Nat) : Int) == 0) = false := by simp [hf]
        go_wp2
        go_ret
        exact ⟨⟨k, hk, hz, Or.inr hf, rfl⟩, rfl⟩
    · go_wp2
      go_ret
      exact ⟨⟨k, hk, hz, Or.inl (by omega), rfl⟩, rfl⟩

/-- what is owned, out of cells and shape -/
theorem own_of {w : World} {base g n cap : Nat} {f : Nat → Nat} (h : Ow w .i64 g f n) (hs : Shp w g cap) (hn : n ≤ cap) (hb : base ≤ g) : w.ownsRow base 2 1 (.slice (some ⟨g, 0, none⟩) n cap) n (vals f n) := by
  obtain ⟨cur, h1, h2, h3⟩ := hs
  refine ⟨by rw [vals_len]; omega, Or.inr ⟨g, cap, cur, rfl, hb, h1, hn, h3, by omega, ?_⟩⟩
  apply List.ext_getElem?
  intro j
  by_cases hj : j < n
  · have hc := h.cell j hj
    have e : w.cell? ⟨g, j, none⟩ = cur[j]? := by simp [World.cell?, h1]
    rw [e] at hc
    rw [List.getElem?_take_of_lt (by omega), Array.getElem?_toList, hc]
    simp [vals, hj]
  · rw [List.getElem?_eq_none (by simp; omega), List.getElem?_eq_none (by rw [vals_len]; omega)]

/-- the products of a mixture stay small -/
theorem mix_bd {p r x y : Nat} (hp : p < 1000000000) (hr : r < 1000000000) (hx : x < 1000000000) (hy : y < 1000000000) :
    (0 : Int) ≤ (p : Int) * (x : Int) ∧ (p : Int) * (x : Int) ≤ 999999998000000001 ∧ (0 : Int) ≤ (r : Int) * (y : Int) ∧ (r : Int) * (y : Int) ≤ 999999998000000001 := by
  have h1 := mul_bd hp hx
  have h2 := mul_bd hr hy
  rw [← Int.natCast_mul, ← Int.natCast_mul]
  omega

/-- two factors, the one from 0 on and the other one up to 0 -/
def Opp (u v : Int) : Prop := ∃ p r : Nat, p < 1000000000 ∧ r < 1000000000 ∧ ((u = p ∧ v = -(r : Int)) ∨ (u = -(p : Int) ∧ v = r))

theorem Opp.bd {u v : Int} (h : Opp u v) {x y : Nat} (hx : x < 1000000000) (hy : y < 1000000000) :
    -999999998000000001 ≤ u * (x : Int) ∧ u * (x : Int) ≤ 999999998000000001 ∧ -999999998000000001 ≤ v * (y : Int) ∧ v * (y : Int) ≤ 999999998000000001 ∧ -999999999000000000 ≤ u * (x : Int) + v * (y : Int) ∧ u * (x : Int) + v * (y : Int) ≤ 999999999000000000 := by
  obtain ⟨p, r, hp, hr, ⟨rfl, rfl⟩ | ⟨rfl, rfl⟩⟩ := h
  · have := mix_bd hp hr hx hy
    rw [Int.neg_mul]; omega
  · have := mix_bd hp hr hx hy
    rw [Int.neg_mul]; omega

def lenOf : Value → Nat | .slice _ n _ => n | _ => 0

theorem blk_lt {w : World} {b : Nat} {o : Obj} (h : w.heap[b]? = some o) : b < w.heap.size := by
  rcases Nat.lt_or_ge b w.heap.size with c | c
  · exact c
  · rw [Array.getElem?_eq_none c] at h; cases h

theorem Ow.same {w w' : World} {k : IntKind} {b n : Nat} {f : Nat → Nat} (h : Ow w k b f n) (e : w'.heap[b]? = w.heap[b]?) : Ow w' k b f n :=
  ⟨fun i hi => by rw [World.cell?_of_block (w := w) (a := ⟨b, i, none⟩) e]; exact h.cell i hi, fun i => by rw [World.frozen?_of_block (w := w) (a := ⟨b, i, none⟩) e]; exact h.frz i, by
    have : w.heap[b]? = some (w.heap[b]'h.lt) := Array.getElem?_eq_getElem h.lt
    rw [this] at e; exact blk_lt e⟩

theorem Shp.same {w w' : World} {g cap : Nat} (h : Shp w g cap) (e : w'.heap[g]? = w.heap[g]?) : Shp w' g cap := by
  obtain ⟨cur, h1, h2⟩ := h
  exact ⟨cur, by rw [e]; exact h1, h2⟩

theorem M4.same {w w' : World} {b : Nat} {p q r s : Int} (h : M4 w b p q r s) (e : w'.heap[b]? = w.heap[b]?) : M4 w' b p q r s :=
  ⟨by rw [World.cell?_of_block (w := w) e]; exact h.c0, by rw [World.cell?_of_block (w := w) e]; exact h.c1, by rw [World.cell?_of_block (w := w) e]; exact h.c2, by rw [World.cell?_of_block (w := w) e]; exact h.c3, fun i => by rw [World.frozen?_of_block (w := w) e]; exact h.frz i⟩

theorem alloc_same (w : World) (o : Obj) (j : Nat) (h : j < w.heap.size) : (w.alloc o).heap[j]? = w.heap[j]? := Below.heap_alloc w o j h

set_option maxRecDepth 100000 in
set_option maxHeartbeats 2000000 in
theorem apply_any (a b c d : Int) (g1 n1 c1 g2 n2 c2 base U V : Nat) (F G : Nat → Nat) (w : World) (hn1 : n1 ≤ 500000) (hn : n2 ≤ n1) (hc1 : n1 ≤ c1) (hc2 : n2 ≤ c2) (hne : g2 ≠ g1) (hb0 : base ≤ w.heap.size) (hb1 : base ≤ g1) (hb2 : base ≤ g2)
    (oF : Ow w .i64 g1 F n1) (sF : Shp w g1 c1) (oG : Ow w .i64 g2 G n2) (sG : Shp w g2 c2) (hF : ∀ i, i < n1 → F i < 1000000000) (hG : ∀ i, i < n2 → G i < 1000000000) (hab : Opp a b) (hcd : Opp c d)
    (hU : a * (lv F n1 : Int) + b * (lv G n2 : Int) = (U : Int)) (hV : c * (lv F n1 : Int) + d * (lv G n2 : Int) = (V : Int)) (hUl : U < 1000000000 ^ n1) (hVl : V < 1000000000 ^ n1) :
    Calls Tryz.prog 114 #[.agg #[.int .i64 a, .int .i64 b, .int .i64 c, .int .i64 d], .slice (some ⟨g1, 0, none⟩) n1 c1, .slice (some ⟨g2, 0, none⟩) n2 c2] w fun e w' =>
      ∃ k1 g k2 cap A B, e = .returned (.tuple #[.slice (some ⟨g1, 0, none⟩) k1 c1, .slice (some ⟨g, 0, none⟩) k2 cap]) ∧ Ow w' .i64 g1 A k1 ∧ Shp w' g1 c1 ∧ k1 ≤ c1 ∧ Nrm A k1 ∧ lv A k1 = U ∧ Ow w' .i64 g B k2 ∧ Shp w' g cap ∧ k2 ≤ cap ∧ Nrm B k2 ∧ lv B k2 = V ∧ g ≠ g1 ∧ base ≤ g ∧ k1 ≤ n1 ∧ k2 ≤ n1 ∧ Below base w w' := by
  obtain ⟨i0, hi, hz0, hz1, hz2⟩ := info_parts Tryz.info2
  have hg1l := oF.lt
  have hg2l := oG.lt
  have HU : Hid _ := hU
  have HV : Hid _ := hV
  have HUL : Hid _ := hUl
  have HVL : Hid _ := hVl
  clear hU hV hUl hVl
  go_enter Tryz.func114, Tryz.ntmps114
  go_wp2_with fail
  have hBx : M4 (w.alloc (.cells #[.int .i64 a, .int .i64 b, .int .i64 c, .int .i64 d] 140)) w.heap.size a b c d := by
    constructor <;> simp [go_sem]
  go_loopw [2] (fun v wr => ∃ k g cap, n2 ≤ k ∧ k ≤ n1 ∧ v = .slice (some ⟨g, 0, none⟩) k cap ∧ k ≤ cap ∧ g ≠ g1 ∧ g ≠ w.heap.size ∧ base ≤ g ∧ Ow wr .i64 g (ext G n2) k ∧ Shp wr g cap ∧ Ow wr .i64 g1 F n1 ∧ Shp wr g1 c1 ∧ M4 wr w.heap.size a b c d ∧ Below base w wr ∧ w.heap.size < wr.heap.size) (fun v _ => n1 - lenOf v)
  case atStart =>
    have e1 := alloc_same w (.cells #[.int .i64 a, .int .i64 b, .int .i64 c, .int .i64 d] 140) g1 hg1l
    have e2 := alloc_same w (.cells #[.int .i64 a, .int .i64 b, .int .i64 c, .int .i64 d] 140) g2 hg2l
    exact ⟨n2, g2, c2, Nat.le_refl _, hn, rfl, hc2, hne, by omega, hb2, (oG.same e2).congr (fun i hi => by unfold ext; rw [if_pos hi]), sG.same e2, oF.same e1, sF.same e1, hBx, (Below.refl _ _).alloc hb0 _, by simp⟩
  case round =>
    obtain ⟨k, g, cap, hk2, hk1, rfl, hkc, hgg, hgb, hgB, oE, sE, oF', sF', hM, hB, hsz⟩ := hrel
    clear hBx
    by_cases hlt : k < n1
    · have hcapm : cap ≤ maxLen := by obtain ⟨_, _, _, h⟩ := sE; exact h
      have hEk : ext G n2 k = 0 := by unfold ext; rw [if_neg (by omega)]
      have hvs : vals (ext G n2) k ++ [.int .i64 0] = vals (up (ext G n2) k 0) (k + 1) := vals_snoc (ext G n2) k 0
      have hup : ∀ i, i < k + 1 → up (ext G n2) k 0 i = ext G n2 i := fun i hi => by
        by_cases e : i = k
        · subst e; rw [up_same, hEk]
        · rw [up_other _ _ e]
      have HVS : Hid _ := hvs
      have HEK : Hid _ := hEk
      clear hvs hEk
      have sA := alloc_same wr (.cells #[.int .i64 0] 2)
      have SAM : Hid _ := sA
      clear sA
      have hown := own_of (base := base) oE sE hkc hgB
      have lE := oE.lt
      have lF := oF'.lt
      by_cases hroom : k + 1 ≤ cap
      · go_wp2_with (first | (at_builtin; refine wpList_append_fits _ rfl _ _ 133 rfl base 2 i0 1 Tryz.underlying133 hi hz1 g k cap (vals (ext G n2) k) rfl (hown.alloc _) _ 1 1 [.int .i64 0] rfl rfl (cell_one_new _ _ _) (by intro u hu; simp at hu; subst hu; rfl) hroom ?_))
        intro w3 hown3 hgrow3
        have hsz3 := hgrow3.size
        simp only [World.size_alloc] at hsz3
        have eq3 : ∀ j, j < wr.heap.size → j ≠ g → w3.heap[j]? = wr.heap[j]? := fun j hj hjg => by
          rw [hgrow3.block j (by simp; omega) (by simpa using hjg)]; exact SAM.out j hj
        rw [HVS.out] at hown3
        have oE3 := (Ow.of_vals hown3).congr hup
        have sE3 := Shp.of_own hown3
        have oF3 := oF'.same (eq3 g1 lF (Ne.symm hgg))
        have sF3 := sF'.same (eq3 g1 lF (Ne.symm hgg))
        have hM3 := hM.same (eq3 w.heap.size hsz (Ne.symm hgb))
        have hB3 := (hB.alloc (Nat.le_trans hb0 (by omega)) (.cells #[.int .i64 0] 2)).grown hgrow3 (by simp; omega) (fun j h => by simp at h; omega)
        clear eq3 hown3 hgrow3 hown
        go_wp2
        go_roundw
        case rel => exact ⟨k + 1, g, cap, by omega, by omega, rfl, hroom, hgg, hgb, hgB, oE3, sE3, oF3, sF3, hM3, hB3, by omega⟩
        case measure => simp [lenOf]; omega
      · have hcells : ∀ b, some (⟨g, 0, none⟩ : Addr) = some b → ∀ j u, (vals (ext G n2) k)[j]? = some u → (wr.alloc (.cells #[.int .i64 0] 2)).cell? (b.add j) = some u := by
          intro b hb j u hj
          cases hb
          obtain ⟨h1, rfl⟩ := vals_get _ _ _ _ hj
          rw [addr_add, World.cell?_of_block (w := wr) (a := ⟨g, 0 + j, none⟩) (SAM.out g lE), Nat.zero_add]
          exact oE.cell j h1
        go_wp2_with (first | (at_builtin; refine wpList_append_grows _ rfl _ _ 133 rfl 2 i0 (.int .i64 0) 1 8 Tryz.underlying133 hi hz0 hz1 hz2 rfl (by decide) (some ⟨g, 0, none⟩) k cap (vals (ext G n2) k) rfl (by intro h; cases h) (by rw [vals_len]; omega) hcells _ 1 1 [.int .i64 0] rfl rfl (cell_one_new _ _ _) (by intro u hu; simp at hu; subst hu; rfl) (by omega) (by unfold maxLen; omega) (by omega) ?_))
        intro v3 w3 hown3 hgrow3
        have hsz3 := hgrow3.size
        simp only [World.size_alloc] at hsz3
        have eq3 : ∀ j, j < wr.heap.size → w3.heap[j]? = wr.heap[j]? := fun j hj => by
          rw [hgrow3.block j (by simp; omega) (by simp)]; exact SAM.out j hj
        rw [HVS.out] at hown3
        obtain ⟨g3, c3, hv3, hc3, hg3⟩ := own_some hown3 (by omega)
        rw [hv3] at hown3
        rw [hv3]
        clear hv3
        have oE3 := (Ow.of_vals hown3).congr hup
        have sE3 := Shp.of_own hown3
        have oF3 := oF'.same (eq3 g1 lF)
        have sF3 := sF'.same (eq3 g1 lF)
        have hM3 := hM.same (eq3 w.heap.size hsz)
        have hB3 := (hB.alloc (Nat.le_trans hb0 (by omega)) (.cells #[.int .i64 0] 2)).grown hgrow3 (by simp; omega) (fun j h => by cases h)
        clear eq3 hown3 hgrow3 hown hcells
        go_wp2
        go_roundw
        case rel => exact ⟨k + 1, g3, c3, by omega, by omega, rfl, hc3, by omega, by omega, by omega, oE3, sE3, oF3, sF3, hM3, hB3, by omega⟩
        case measure => simp [lenOf]; omega
    · obtain rfl : k = n1 := by omega
      have lE := oE.lt
      have lF := oF'.lt
      have hGx := ext_lt hG
      have HVX : Hid (lv (ext G n2) k = lv G n2) := lv_ext hn
      go_wp2_with fail
      obtain ⟨wo, hwo⟩ : ∃ wo : World, wo = wr := ⟨_, rfl⟩
      subst hwo
      go_loopw [8, 9, 23] (fun x y i wr => ∃ (j : Nat) (A B : Nat → Nat) (cA cB : Int), j ≤ k ∧ i = .int .i64 (j : Nat) ∧ x = .int .i64 cA ∧ y = .int .i64 cB ∧ Ow wr .i64 g1 A k ∧ Ow wr .i64 g B k ∧ Shp wr g1 c1 ∧ Shp wr g cap ∧ M4 wr w.heap.size a b c d ∧ (∀ t, j ≤ t → t < k → A t = F t) ∧ (∀ t, j ≤ t → t < k → B t = ext G n2 t) ∧ MxI A F (ext G n2) a b j cA ∧ MxI B F (ext G n2) c d j cB ∧ Below base w wr) (fun _ _ i _ => k - (intOf i).toNat)
      case atStart => exact ⟨0, F, ext G n2, 0, 0, by omega, rfl, rfl, rfl, oF', oE, sF', sE, hM, fun _ _ _ => rfl, fun _ _ _ => rfl, ⟨fun i h => by omega, by omega, by omega, by simp [lv]⟩, ⟨fun i h => by omega, by omega, by omega, by simp [lv]⟩, hB⟩
      case round =>
        obtain ⟨j, A, B, cA, cB, hj, rfl, rfl, rfl, oA, oB, sA, sB, hM', eA, eB, iA, iB, hB'⟩ := hrel
        have bA1 := iA.clo
        have bA2 := iA.chi
        have bB1 := iB.clo
        have bB2 := iB.chi
        by_cases hlt2 : j < k
        · have clA := oA.cell j hlt2
          have clB := oB.cell j hlt2
          rw [eA j (Nat.le_refl _) hlt2] at clA
          rw [eB j (Nat.le_refl _) hlt2] at clB
          have fzA := oA.frz j
          have fzB := oB.frz j
          have x1 := hF j hlt2
          have x2 := hGx j
          obtain ⟨u1, u2, u3, u4, u5, u6⟩ := hab.bd x1 x2
          obtain ⟨y1, y2, y3, y4, y5, y6⟩ := hcd.bd x1 x2
          obtain ⟨lA, a1, a2, a3⟩ := iA.step u5 u6
          obtain ⟨lB, b1, b2, b3⟩ := iB.step y5 y6
          have m0 := hM'.c0
          have m1 := hM'.c1
          have m2 := hM'.c2
          have m3 := hM'.c3
          have A1 : Hid _ := a1
          have B1 : Hid _ := b1
          clear a1 b1
          have wA : Wr wr (wr.setCell ⟨g1, j, none⟩ (.int .i64 (lA : Nat))) g1 := (Wr.refl _ _).setCell _ _
          have oA2 := oA.store (j := j) hlt2 lA
          have oB1 := oB.kept wA hgg
          have oB2 := oB1.store (j := j) hlt2 lB
          have wB : Wr (wr.setCell ⟨g1, j, none⟩ (.int .i64 (lA : Nat))) ((wr.setCell ⟨g1, j, none⟩ (.int .i64 (lA : Nat))).setCell ⟨g, j, none⟩ (.int .i64 (lB : Nat))) g := (Wr.refl _ _).setCell _ _
          have oA3 := oA2.kept wB (Ne.symm hgg)
          have sA3 := (sA.setCell j (.int .i64 (lA : Nat))).kept wB (Ne.symm hgg)
          have sB3 := (sB.kept wA hgg).setCell j (.int .i64 (lB : Nat))
          have hM3 := ((hM'.kept wA (by omega)).kept wB (Ne.symm hgb))
          have hB3 := (hB'.trans (wA.below hb1)).trans (wB.below hgB)
          have clB1 : (wr.setCell ⟨g1, j, none⟩ (.int .i64 (lA : Nat))).cell? ⟨g, j, none⟩ = some (.int .i64 ((ext G n2 j : Nat) : Int)) := by
            rw [World.cell?_of_block (w := wr) (a := ⟨g, j, none⟩) (wA.block g hgg)]; exact clB
          have fzB1 : (wr.setCell ⟨g1, j, none⟩ (.int .i64 (lA : Nat))).frozen? ⟨g, j, none⟩ = false := by
            rw [World.frozen?_of_block (w := wr) (a := ⟨g, j, none⟩) (wA.block g hgg)]; exact fzB
          have hM1 := hM'.kept wA (by omega)
          obtain ⟨mm0, mm1, mm2, mm3, _⟩ := hM1
          go_wp2_with fail
          go_quiet (fail)
          go_wp2_with fail
          refine (split_any _ _ (by omega) (by omega)).mono ?_
          rintro e w2 ⟨rfl, rfl⟩
          rw [A1.out]
          generalize (a * ((F j : Nat) : Int) + b * ((ext G n2 j : Nat) : Int) + cA) / 1000000000 = cA2 at *
          go_wp2_with fail
          refine (split_any _ _ (by omega) (by omega)).mono ?_
          rintro e w2 ⟨rfl, rfl⟩
          rw [B1.out]
          go_wp2
          go_roundw
          case rel =>
            refine ⟨j + 1, _, _, _, _, by omega, by go_num, rfl, rfl, oA3.sm (Sm.drewN _ nq), oB2.sm (Sm.drewN _ nq), sA3.heap rfl, sB3.heap rfl, hM3.same rfl, fun t h1 h2 => ?_, fun t h1 h2 => ?_, a3, b3, hB3.trans ((Sm.drewN _ nq).below _)⟩
            · rw [up_other _ _ (by omega)]; exact eA t (by omega) h2
            · rw [up_other _ _ (by omega)]; exact eB t (by omega) h2
          case measure => simp [intOf]; omega
        · obtain rfl : j = k := by omega
          have vA := iA.done HUL.out (by rw [HVX.out]; exact HU.out)
          have vB := iB.done HVL.out (by rw [HVX.out]; exact HV.out)
          have cap1 : c1 ≤ maxLen := by obtain ⟨_, _, _, h⟩ := sA; exact h
          have cap2 : cap ≤ maxLen := by obtain ⟨_, _, _, h⟩ := sB; exact h
          have VA : Hid _ := vA
          have VB : Hid _ := vB
          clear vA vB
          go_wp2_with fail
          refine (trim_big g1 0 j c1 A _ (by omega) (by omega) cap1 oA.rw).mono ?_
          rintro e w2 ⟨⟨k1, hk1', kz1, kt1, rfl⟩, rfl⟩
          go_wp2_with fail
          refine (trim_big g 0 j cap B _ (by omega) (by omega) cap2 oB.rw).mono ?_
          rintro e w2 ⟨⟨k2, hk2', kz2, kt2, rfl⟩, rfl⟩
          go_wp2
          go_ret2
          exact ⟨k1, g, k2, cap, A, B, rfl, ⟨fun i hi => oA.cell i (by omega), oA.frz, oA.lt⟩, sA, by omega, ⟨fun i hi => iA.lim i (by omega), kt1⟩, by rw [← lv_cut hk1' kz1, VA.out], ⟨fun i hi => oB.cell i (by omega), oB.frz, oB.lt⟩, sB, by omega, ⟨fun i hi => iB.lim i (by omega), kt2⟩, by rw [← lv_cut hk2' kz2, VB.out], hgg, hgB, hk1', hk2', hB'⟩
end
end Go.Proofs.YtadgnafafdfioaaGreatDoor
namespace Go.Proofs.YtadgnafafdfioaaGreatDoor
section
set_option maxRecDepth 100000
open Go.RowKit Nm
set_option linter.unusedVariables false

def rd (w : World) (g : Nat) : Nat → Nat := fun i => match w.cell? ⟨g, i, none⟩ with
  | some (.int _ z) => z.toNat
  | _ => 0
def mv (v : Value) (w : World) : Nat := match v with
  | .slice (some ad) n _ => lv (rd w ad.block) n
  | _ => 0

theorem mv_of {w : World} {g n c : Nat} {f : Nat → Nat} (h : Ow w .i64 g f n) : mv (.slice (some ⟨g, 0, none⟩) n c) w = lv f n := by
  show lv (rd w g) n = lv f n
  refine lv_congr fun i hi => ?_
  unfold rd
  rw [h.cell i hi]
  simp

/-- two rows of limbs, the first one not less, with a greatest common divisor -/
def Two (w0 : World) (base D : Nat) (va vb : Value) (w : World) : Prop :=
  ∃ ga na ca gb nb cb f g, va = .slice (some ⟨ga, 0, none⟩) na ca ∧ vb = .slice (some ⟨gb, 0, none⟩) nb cb ∧ Ow w .i64 ga f na ∧ Shp w ga ca ∧ na ≤ ca ∧ Ow w .i64 gb g nb ∧ Shp w gb cb ∧ nb ≤ cb ∧ gb ≠ ga ∧ base ≤ ga ∧ base ≤ gb ∧ Nrm f na ∧ Nrm g nb ∧ lv g nb ≤ lv f na ∧ Nat.gcd (lv f na) (lv g nb) = D ∧ na ≤ 500000 ∧ Below base w0 w ∧ base ≤ w.heap.size

/-- what a mixture does to two numbers -/
theorem mix_use {X Y U V : Nat} {a b c d : Int} (hm : Mix X Y a b c d) (hb : b ≠ 0) (hl : Lead X Y U V) :
    ∃ U' V' : Nat, a * (U : Int) + b * (V : Int) = (U' : Int) ∧ c * (U : Int) + d * (V : Int) = (V' : Int) ∧ V' < U' ∧ U' ≤ U ∧ V' < V ∧ Nat.gcd U' V' = Nat.gcd U V ∧ Opp a b ∧ Opp c d := by
  obtain ⟨E, α, β, e1, e2, h1, h2, _, _⟩ := hl
  rcases hm with ⟨_, h, _⟩ | ⟨x, y, p, r, s, t, hr, bp, br, bs, bt, ⟨ea, eb, ec, ed, hv⟩ | ⟨ea, eb, ec, ed, hv⟩⟩
  · exact absurd h hb
  · obtain ⟨U', V', k1, k2, k3, k4, k5⟩ := hv.fin h1 h2
    rw [← e1, ← e2] at k1 k2
    rw [← e1] at k4
    rw [← e2] at k5
    have t1 : 1 * U' ≤ t * U' := Nat.mul_le_mul_right _ hv.t1
    have s1 : 1 * U' ≤ s * U' := Nat.mul_le_mul_right _ hv.s1
    have i1 : (p : Int) * (U : Int) = (U' : Int) + (r : Int) * (V : Int) := by rw [← Int.natCast_mul, ← Int.natCast_mul, ← Int.natCast_add, k1]
    have i2 : (t : Int) * (V : Int) = (V' : Int) + (s : Int) * (U : Int) := by rw [← Int.natCast_mul, ← Int.natCast_mul, ← Int.natCast_add, k2]
    refine ⟨U', V', ?_, ?_, k3, by omega, by omega, gcd_mix k1 k2 k4 k5, ⟨p, r, bp, br, Or.inl ⟨ea, eb⟩⟩, ⟨s, t, bs, bt, Or.inr ⟨ec, ed⟩⟩⟩
    · rw [ea, eb, Int.neg_mul]; omega
    · rw [ec, ed, Int.neg_mul]; omega
  · obtain ⟨U', V', k1, k2, k3, k4, k5⟩ := hv.fin h2 h1
    rw [← e1, ← e2] at k1 k2
    rw [← e2] at k4
    rw [← e1] at k5
    have t1 : 1 * U' ≤ s * U' := Nat.mul_le_mul_right _ hv.t1
    have s1 : 1 * U' ≤ t * U' := Nat.mul_le_mul_right _ hv.s1
    have i1 : (r : Int) * (V : Int) = (U' : Int) + (p : Int) * (U : Int) := by rw [← Int.natCast_mul, ← Int.natCast_mul, ← Int.natCast_add, k1]
    have i2 : (s : Int) * (U : Int) = (V' : Int) + (t : Int) * (V : Int) := by rw [← Int.natCast_mul, ← Int.natCast_mul, ← Int.natCast_add, k2]
    refine ⟨U', V', ?_, ?_, k3, by omega, by omega, by rw [gcd_mix k1 k2 k4 k5, Nat.gcd_comm], ⟨p, r, bp, br, Or.inr ⟨ea, eb⟩⟩, ⟨s, t, bs, bt, Or.inl ⟨ec, ed⟩⟩⟩
    · rw [ea, eb, Int.neg_mul]; omega
    · rw [ec, ed, Int.neg_mul]; omega

set_option maxRecDepth 100000 in
set_option maxHeartbeats 2000000 in
theorem common_more (g1 n1 c1 g2 n2 c2 base : Nat) (F G : Nat → Nat) (w : World) (hn1 : n1 ≤ 500000) (hn2 : n2 ≤ 500000) (hc1 : n1 ≤ c1) (hc2 : n2 ≤ c2) (hne : g2 ≠ g1) (hb0 : base ≤ w.heap.size) (hb1 : base ≤ g1) (hb2 : base ≤ g2)
    (oF : Ow w .i64 g1 F n1) (sF : Shp w g1 c1) (oG : Ow w .i64 g2 G n2) (sG : Shp w g2 c2) (hF : Nrm F n1) (hG : Nrm G n2) (hord : lv G n2 ≤ lv F n1) :
    Calls Tryz.prog 102 #[.slice (some ⟨g1, 0, none⟩) n1 c1, .slice (some ⟨g2, 0, none⟩) n2 c2] w fun e w' =>
      ∃ g n cap f, e = .returned (.slice (some ⟨g, 0, none⟩) n cap) ∧ Ow w' .i64 g f n ∧ Nrm f n ∧ lv f n = Nat.gcd (lv F n1) (lv G n2) ∧ n ≤ 5000000 ∧ Below base w w' := by
  have hsg : ¬ sg (lv F n1 : Nat) (lv G n2 : Nat) < 0 := sg_nonneg (by omega)
  go_enter Tryz.func102, Tryz.ntmps102
  go_wp2_with fail
  refine (compare_any g1 0 n1 c1 g2 0 n2 c2 F G _ (by omega) (by omega) oF.rw oG.rw hF hG).mono ?_
  rintro e w1 ⟨rfl, hS⟩
  have oF' := oF.sm hS
  have oG' := oG.sm hS
  have sF' := sF.heap hS.heap
  have sG' := sG.heap hS.heap
  have hB1 := hS.below base
  have hsz1 : base ≤ w1.heap.size := by rw [hS.heap]; exact hb0
  go_wp2_with fail
  go_loopw [0, 1] (fun va vb wr => Two w base (Nat.gcd (lv F n1) (lv G n2)) va vb wr) (fun _ vb wr => mv vb wr)
  case atStart => exact ⟨g1, n1, c1, g2, n2, c2, F, G, rfl, rfl, oF', sF', hc1, oG', sG', hc2, hne, hb1, hb2, hF, hG, by omega, rfl, by omega, hB1, hsz1⟩
  case round =>
    obtain ⟨ga, na, ca, gb, nb, cb, f, g, rfl, rfl, oA, sA, hca, oB, sB, hcb, hab, hba, hbb, nA, nB, hle, hgcd, hna, hB, hsz⟩ := hrel
    clear hB1 hsz1 oF' oG' sF' sG' hS
    have HG : Hid _ := hgcd
    clear hgcd
    have hnb : nb ≤ na := nB.len_le nA hle
    have lA := oA.lt
    have lB := oB.lt
    by_cases h3 : 2 < na
    · rcases Nat.eq_zero_or_pos nb with h0 | h0
      · subst h0
        go_wp2
        go_ret
        exact ⟨ga, na, ca, f, rfl, oA, nA, by rw [← HG.out]; simp [lv], by omega, hB⟩
      · obtain ⟨m, rfl⟩ : ∃ m, na = m + 3 := ⟨na - 3, by omega⟩
        go_wp2_with fail
        refine (leading_any ga m ca gb nb cb f g _ (by omega) (by omega) oA.rw oB.rw nA nB hle).mono ?_
        rintro e w2 ⟨X, Y, rfl, hLead, hS2⟩
        have hXY : X < 1000000000000000000 ∧ Y ≤ X := by obtain ⟨_, _, _, _, _, _, _, h1, h2⟩ := hLead; exact ⟨h1, h2⟩
        obtain ⟨hX, hYX⟩ := hXY
        have HLD : Hid _ := hLead
        clear hLead
        have oA2 := oA.sm hS2
        have oB2 := oB.sm hS2
        have sA2 := sA.heap hS2.heap
        have sB2 := sB.heap hS2.heap
        have hB2 := hB.trans (hS2.below base)
        have hsz2 : base ≤ w2.heap.size := by rw [hS2.heap]; exact hsz
        have hMV : Hid (mv (.slice (some ⟨gb, 0, none⟩) nb cb) wr = lv g nb) := mv_of oB
        clear oA oB sA sB lA lB
        go_wp2_with fail
        refine (stepsOf_any X Y _ hX hYX).mono ?_
        rintro e w3 ⟨a, b, c, d, rfl, hMix, be3⟩
        have HMX : Hid _ := hMix
        clear hMix
        have oA3 := oA2.below be3 oA2.lt
        have oB3 := oB2.below be3 oB2.lt
        have sA3 := sA2.below be3 oA2.lt
        have sB3 := sB2.below be3 oB2.lt
        have hB3 := hB2.trans (be3.mono hsz2)
        have hsz3 : base ≤ w3.heap.size := Nat.le_trans hsz2 be3.size
        clear oA2 oB2 sA2 sB2
        have hVpos : 0 < lv g nb := by have := nB.hi h0; have := posB (nb - 1); omega
        have be4 : Below w3.heap.size w3 (w3.alloc (.cells #[.int .i64 a, .int .i64 b, .int .i64 c, .int .i64 d] 140)) := (Below.refl _ _).alloc (Nat.le_refl _) _
        have oA4 := oA3.below be4 oA3.lt
        have oB4 := oB3.below be4 oB3.lt
        have sA4 := sA3.below be4 oA3.lt
        have sB4 := sB3.below be4 oB3.lt
        have hB4 := hB3.trans (be4.mono hsz3)
        have hsz4 : base ≤ (w3.alloc (.cells #[.int .i64 a, .int .i64 b, .int .i64 c, .int .i64 d] 140)).heap.size := Nat.le_trans hsz3 be4.size
        clear oA3 oB3 sA3 sB3
        by_cases hb : b = 0
        · have hb' : (b == 0) = true := by simp [hb]
          clear hb
          go_wp2_with fail
          refine (none_any a b c d _).mono ?_
          rintro e w5 ⟨rfl, be5⟩
          have oA5 := oA4.below be5 oA4.lt
          have oB5 := oB4.below be5 oB4.lt
          have sB5 := sB4.below be5 oB4.lt
          have hB5 := hB4.trans (be5.mono hsz4)
          have hsz5 : base ≤ w5.heap.size := Nat.le_trans hsz4 be5.size
          clear oA4 oB4 sA4 sB4 be4 be5
          go_wp2_with fail
          refine (divide_any ga (m + 3) ca gb nb cb f g _ (by omega) (by omega) oA5.rw oB5.rw nA nB hVpos).mono ?_
          rintro e w6 ⟨ao, m3, c3, q, g4, n, c4, r, rfl, hq, hqn, hqv, hm, hO, hnc, hrn, hrv, hn, hg4, hB6, hSh⟩
          have oB6 := oB5.below hB6 oB5.lt
          have sB6 := sB5.below hB6 oB5.lt
          have hB7 := hB5.trans (hB6.mono hsz5)
          have hsz6 : base ≤ w6.heap.size := Nat.le_trans hsz5 hB6.size
          have lB5 := oB5.lt
          have hml := Nat.mod_lt (lv f (m + 3)) hVpos
          go_wp2
          go_roundw
          case rel =>
            refine ⟨gb, nb, cb, g4, n, c4, g, r, rfl, rfl, oB6, sB6, hcb, hO, hSh, hnc, by omega, hbb, by omega, nB, hrn, by rw [hrv]; omega, ?_, by omega, hB7, hsz6⟩
            rw [← HG.out, hrv, Nat.gcd_comm (lv g nb), ← Nat.gcd_rec, Nat.gcd_comm]
          case measure => rw [mv_of hO, hMV.out, hrv]; exact hml
        · have hb' : (b == 0) = false := by simp [hb]
          obtain ⟨U', V', u1, u2, u3, u4, u5, u6, u7, u8⟩ := mix_use HMX.out hb HLD.out
          have hlt := nA.lt
          have U1 : Hid _ := u1
          have U2 : Hid _ := u2
          have U6 : Hid _ := u6
          have UL : Hid (U' < 1000000000 ^ (m + 3)) := Nat.lt_of_le_of_lt u4 hlt
          have VL : Hid (V' < 1000000000 ^ (m + 3)) := Nat.lt_of_lt_of_le u3 (Nat.le_of_lt UL.out)
          clear u1 u2 u6 hlt
          go_wp2_with fail
          refine (none_any a b c d _).mono ?_
          rintro e w5 ⟨rfl, be5⟩
          have oA5 := oA4.below be5 oA4.lt
          have oB5 := oB4.below be5 oB4.lt
          have sA5 := sA4.below be5 oA4.lt
          have sB5 := sB4.below be5 oB4.lt
          have hB5 := hB4.trans (be5.mono hsz4)
          have hsz5 : base ≤ w5.heap.size := Nat.le_trans hsz4 be5.size
          have hM4 : M4 w5 w3.heap.size a b c d := by
            have h : M4 (w3.alloc (.cells #[.int .i64 a, .int .i64 b, .int .i64 c, .int .i64 d] 140)) w3.heap.size a b c d := by constructor <;> simp [go_sem]
            exact h.same (be5.block w3.heap.size (by simp))
          have m0 := hM4.c0
          have m1 := hM4.c1
          have m2 := hM4.c2
          have m3 := hM4.c3
          clear oA4 oB4 sA4 sB4 be4 be5 hM4
          go_wp2_with fail
          refine (apply_any a b c d ga (m + 3) ca gb nb cb base U' V' f g _ (by omega) hnb hca hcb hab hsz5 hba hbb oA5 sA5 oB5 sB5 nA.1 nB.1 u7 u8 U1.out U2.out UL.out VL.out).mono ?_
          rintro e w6 ⟨k1, g6, k2, c6, A, B, rfl, o1, s1, l1, r1, v1, o2, s2, l2, r2, v2, n6, b6, q1, q2, be6⟩
          have hB6 := hB5.trans be6
          have hsz6 : base ≤ w6.heap.size := Nat.le_trans hsz5 be6.size
          go_wp2
          go_roundw
          case rel => exact ⟨ga, k1, ca, g6, k2, c6, A, B, rfl, rfl, o1, s1, l1, o2, s2, l2, n6, hba, b6, r1, r2, by rw [v1, v2]; omega, by rw [v1, v2, U6.out, HG.out], by omega, hB6, hsz6⟩
          case measure => rw [mv_of o2, hMV.out, v2]; exact u5
    · have hd : decide ((2 : Int) < (na : Int)) = false := by simp; omega
      rcases Nat.eq_zero_or_pos nb with h0 | h0
      · subst h0
        go_wp2
        go_ret
        exact ⟨ga, na, ca, f, rfl, oA, nA, by rw [← HG.out]; simp [lv], by omega, hB⟩
      · have hz : (((nb : Nat) : Int) == 0) = false := by simp; omega
        go_wp2_with fail
        refine (smallDivisor_any ga na ca gb nb cb f g _ (by omega) (by omega) oA.rw oB.rw nA.1 nB.1).mono ?_
        rintro e w2 ⟨g3, n3, c3, f3, rfl, ow3, le3, cp3, gs3, nr3, vl3, be3⟩
        go_wp2
        go_ret
        exact ⟨g3, n3, c3, f3, rfl, ow3, nr3, by rw [vl3, HG.out], by omega, hB.trans (be3.mono hsz)⟩

set_option maxRecDepth 100000 in
set_option maxHeartbeats 2000000 in
theorem common_less (g1 n1 c1 g2 n2 c2 base : Nat) (F G : Nat → Nat) (w : World) (hn1 : n1 ≤ 500000) (hn2 : n2 ≤ 500000) (hc1 : n1 ≤ c1) (hc2 : n2 ≤ c2) (hne : g2 ≠ g1) (hb0 : base ≤ w.heap.size) (hb1 : base ≤ g1) (hb2 : base ≤ g2)
    (oF : Ow w .i64 g1 F n1) (sF : Shp w g1 c1) (oG : Ow w .i64 g2 G n2) (sG : Shp w g2 c2) (hF : Nrm F n1) (hG : Nrm G n2) (hord : lv F n1 < lv G n2) :
    Calls Tryz.prog 102 #[.slice (some ⟨g1, 0, none⟩) n1 c1, .slice (some ⟨g2, 0, none⟩) n2 c2] w fun e w' =>
      ∃ g n cap f, e = .returned (.slice (some ⟨g, 0, none⟩) n cap) ∧ Ow w' .i64 g f n ∧ Nrm f n ∧ lv f n = Nat.gcd (lv F n1) (lv G n2) ∧ n ≤ 5000000 ∧ Below base w w' := by
  have hsg : sg (lv F n1 : Nat) (lv G n2 : Nat) < 0 := by rw [sg_lt (by omega)]; omega
  go_enter Tryz.func102, Tryz.ntmps102
  go_wp2_with fail
  refine (compare_any g1 0 n1 c1 g2 0 n2 c2 F G _ (by omega) (by omega) oF.rw oG.rw hF hG).mono ?_
  rintro e w1 ⟨rfl, hS⟩
  have oF' := oF.sm hS
  have oG' := oG.sm hS
  have sF' := sF.heap hS.heap
  have sG' := sG.heap hS.heap
  have hB1 := hS.below base
  have hsz1 : base ≤ w1.heap.size := by rw [hS.heap]; exact hb0
  go_wp2_with fail
  go_loopw [0, 1] (fun va vb wr => Two w base (Nat.gcd (lv F n1) (lv G n2)) va vb wr) (fun _ vb wr => mv vb wr)
  case atStart => exact ⟨g2, n2, c2, g1, n1, c1, G, F, rfl, rfl, oG', sG', hc2, oF', sF', hc1, Ne.symm hne, hb2, hb1, hG, hF, by omega, by rw [Nat.gcd_comm], by omega, hB1, hsz1⟩
  case round =>
    obtain ⟨ga, na, ca, gb, nb, cb, f, g, rfl, rfl, oA, sA, hca, oB, sB, hcb, hab, hba, hbb, nA, nB, hle, hgcd, hna, hB, hsz⟩ := hrel
    clear hB1 hsz1 oF' oG' sF' sG' hS
    have HG : Hid _ := hgcd
    clear hgcd
    have hnb : nb ≤ na := nB.len_le nA hle
    have lA := oA.lt
    have lB := oB.lt
    by_cases h3 : 2 < na
    · rcases Nat.eq_zero_or_pos nb with h0 | h0
      · subst h0
        go_wp2
        go_ret
        exact ⟨ga, na, ca, f, rfl, oA, nA, by rw [← HG.out]; simp [lv], by omega, hB⟩
      · obtain ⟨m, rfl⟩ : ∃ m, na = m + 3 := ⟨na - 3, by omega⟩
        go_wp2_with fail
        refine (leading_any ga m ca gb nb cb f g _ (by omega) (by omega) oA.rw oB.rw nA nB hle).mono ?_
        rintro e w2 ⟨X, Y, rfl, hLead, hS2⟩
        have hXY : X < 1000000000000000000 ∧ Y ≤ X := by obtain ⟨_, _, _, _, _, _, _, h1, h2⟩ := hLead; exact ⟨h1, h2⟩
        obtain ⟨hX, hYX⟩ := hXY
        have HLD : Hid _ := hLead
        clear hLead
        have oA2 := oA.sm hS2
        have oB2 := oB.sm hS2
        have sA2 := sA.heap hS2.heap
        have sB2 := sB.heap hS2.heap
        have hB2 := hB.trans (hS2.below base)
        have hsz2 : base ≤ w2.heap.size := by rw [hS2.heap]; exact hsz
        have hMV : Hid (mv (.slice (some ⟨gb, 0, none⟩) nb cb) wr = lv g nb) := mv_of oB
        clear oA oB sA sB lA lB
        go_wp2_with fail
        refine (stepsOf_any X Y _ hX hYX).mono ?_
        rintro e w3 ⟨a, b, c, d, rfl, hMix, be3⟩
        have HMX : Hid _ := hMix
        clear hMix
        have oA3 := oA2.below be3 oA2.lt
        have oB3 := oB2.below be3 oB2.lt
        have sA3 := sA2.below be3 oA2.lt
        have sB3 := sB2.below be3 oB2.lt
        have hB3 := hB2.trans (be3.mono hsz2)
        have hsz3 : base ≤ w3.heap.size := Nat.le_trans hsz2 be3.size
        clear oA2 oB2 sA2 sB2
        have hVpos : 0 < lv g nb := by have := nB.hi h0; have := posB (nb - 1); omega
        have be4 : Below w3.heap.size w3 (w3.alloc (.cells #[.int .i64 a, .int .i64 b, .int .i64 c, .int .i64 d] 140)) := (Below.refl _ _).alloc (Nat.le_refl _) _
        have oA4 := oA3.below be4 oA3.lt
        have oB4 := oB3.below be4 oB3.lt
        have sA4 := sA3.below be4 oA3.lt
        have sB4 := sB3.below be4 oB3.lt
        have hB4 := hB3.trans (be4.mono hsz3)
        have hsz4 : base ≤ (w3.alloc (.cells #[.int .i64 a, .int .i64 b, .int .i64 c, .int .i64 d] 140)).heap.size := Nat.le_trans hsz3 be4.size
        clear oA3 oB3 sA3 sB3
        by_cases hb : b = 0
        · have hb' : (b == 0) = true := by simp [hb]
          clear hb
          go_wp2_with fail
          refine (none_any a b c d _).mono ?_
          rintro e w5 ⟨rfl, be5⟩
          have oA5 := oA4.below be5 oA4.lt
          have oB5 := oB4.below be5 oB4.lt
          have sB5 := sB4.below be5 oB4.lt
          have hB5 := hB4.trans (be5.mono hsz4)
          have hsz5 : base ≤ w5.heap.size := Nat.le_trans hsz4 be5.size
          clear oA4 oB4 sA4 sB4 be4 be5
          go_wp2_with fail
          refine (divide_any ga (m + 3) ca gb nb cb f g _ (by omega) (by omega) oA5.rw oB5.rw nA nB hVpos).mono ?_
          rintro e w6 ⟨ao, m3, c3, q, g4, n, c4, r, rfl, hq, hqn, hqv, hm, hO, hnc, hrn, hrv, hn, hg4, hB6, hSh⟩
          have oB6 := oB5.below hB6 oB5.lt
          have sB6 := sB5.below hB6 oB5.lt
          have hB7 := hB5.trans (hB6.mono hsz5)
          have hsz6 : base ≤ w6.heap.size := Nat.le_trans hsz5 hB6.size
          have lB5 := oB5.lt
          have hml := Nat.mod_lt (lv f (m + 3)) hVpos
          go_wp2
          go_roundw
          case rel =>
            refine ⟨gb, nb, cb, g4, n, c4, g, r, rfl, rfl, oB6, sB6, hcb, hO, hSh, hnc, by omega, hbb, by omega, nB, hrn, by rw [hrv]; omega, ?_, by omega, hB7, hsz6⟩
            rw [← HG.out, hrv, Nat.gcd_comm (lv g nb), ← Nat.gcd_rec, Nat.gcd_comm]
          case measure => rw [mv_of hO, hMV.out, hrv]; exact hml
        · have hb' : (b == 0) = false := by simp [hb]
          obtain ⟨U', V', u1, u2, u3, u4, u5, u6, u7, u8⟩ := mix_use HMX.out hb HLD.out
          have hlt := nA.lt
          have U1 : Hid _ := u1
          have U2 : Hid _ := u2
          have U6 : Hid _ := u6
          have UL : Hid (U' < 1000000000 ^ (m + 3)) := Nat.lt_of_le_of_lt u4 hlt
          have VL : Hid (V' < 1000000000 ^ (m + 3)) := Nat.lt_of_lt_of_le u3 (Nat.le_of_lt UL.out)
          clear u1 u2 u6 hlt
          go_wp2_with fail
          refine (none_any a b c d _).mono ?_
          rintro e w5 ⟨rfl, be5⟩
          have oA5 := oA4.below be5 oA4.lt
          have oB5 := oB4.below be5 oB4.lt
          have sA5 := sA4.below be5 oA4.lt
          have sB5 := sB4.below be5 oB4.lt
          have hB5 := hB4.trans (be5.mono hsz4)
          have hsz5 : base ≤ w5.heap.size := Nat.le_trans hsz4 be5.size
          have hM4 : M4 w5 w3.heap.size a b c d := by
            have h : M4 (w3.alloc (.cells #[.int .i64 a, .int .i64 b, .int .i64 c, .int .i64 d] 140)) w3.heap.size a b c d := by constructor <;> simp [go_sem]
            exact h.same (be5.block w3.heap.size (by simp))
          have m0 := hM4.c0
          have m1 := hM4.c1
          have m2 := hM4.c2
          have m3 := hM4.c3
          clear oA4 oB4 sA4 sB4 be4 be5 hM4
          go_wp2_with fail
          refine (apply_any a b c d ga (m + 3) ca gb nb cb base U' V' f g _ (by omega) hnb hca hcb hab hsz5 hba hbb oA5 sA5 oB5 sB5 nA.1 nB.1 u7 u8 U1.out U2.out UL.out VL.out).mono ?_
          rintro e w6 ⟨k1, g6, k2, c6, A, B, rfl, o1, s1, l1, r1, v1, o2, s2, l2, r2, v2, n6, b6, q1, q2, be6⟩
          have hB6 := hB5.trans be6
          have hsz6 : base ≤ w6.heap.size := Nat.le_trans hsz5 be6.size
          go_wp2
          go_roundw
          case rel => exact ⟨ga, k1, ca, g6, k2, c6, A, B, rfl, rfl, o1, s1, l1, o2, s2, l2, n6, hba, b6, r1, r2, by rw [v1, v2]; omega, by rw [v1, v2, U6.out, HG.out], by omega, hB6, hsz6⟩
          case measure => rw [mv_of o2, hMV.out, v2]; exact u5
    · have hd : decide ((2 : Int) < (na : Int)) = false := by simp; omega
      rcases Nat.eq_zero_or_pos nb with h0 | h0
      · subst h0
        go_wp2
        go_ret
        exact ⟨ga, na, ca, f, rfl, oA, nA, by rw [← HG.out]; simp [lv], by omega, hB⟩
      · have hz : (((nb : Nat) : Int) == 0) = false := by simp; omega
        go_wp2_with fail
        refine (smallDivisor_any ga na ca gb nb cb f g _ (by omega) (by omega) oA.rw oB.rw nA.1 nB.1).mono ?_
        rintro e w2 ⟨g3, n3, c3, f3, rfl, ow3, le3, cp3, gs3, nr3, vl3, be3⟩
        go_wp2
        go_ret
        exact ⟨g3, n3, c3, f3, rfl, ow3, nr3, by rw [vl3, HG.out], by omega, hB.trans (be3.mono hsz)⟩

theorem commonDivisor_any (g1 n1 c1 g2 n2 c2 base : Nat) (F G : Nat → Nat) (w : World) (hn1 : n1 ≤ 500000) (hn2 : n2 ≤ 500000) (hc1 : n1 ≤ c1) (hc2 : n2 ≤ c2) (hne : g2 ≠ g1) (hb0 : base ≤ w.heap.size) (hb1 : base ≤ g1) (hb2 : base ≤ g2)
    (oF : Ow w .i64 g1 F n1) (sF : Shp w g1 c1) (oG : Ow w .i64 g2 G n2) (sG : Shp w g2 c2) (hF : Nrm F n1) (hG : Nrm G n2) :
    Calls Tryz.prog 102 #[.slice (some ⟨g1, 0, none⟩) n1 c1, .slice (some ⟨g2, 0, none⟩) n2 c2] w fun e w' =>
      ∃ g n cap f, e = .returned (.slice (some ⟨g, 0, none⟩) n cap) ∧ Ow w' .i64 g f n ∧ Nrm f n ∧ lv f n = Nat.gcd (lv F n1) (lv G n2) ∧ n ≤ 5000000 ∧ Below base w w' := by
  rcases Nat.lt_or_ge (lv F n1) (lv G n2) with c | c
  · exact common_less g1 n1 c1 g2 n2 c2 base F G w hn1 hn2 hc1 hc2 hne hb0 hb1 hb2 oF sF oG sG hF hG c
  · exact common_more g1 n1 c1 g2 n2 c2 base F G w hn1 hn2 hc1 hc2 hne hb0 hb1 hb2 oF sF oG sG hF hG c

set_option maxHeartbeats 1000000 in
theorem Gcd_any (x y : Nat) (w : World) (hx : tl x ≤ 500000) (hy : tl y ≤ 500000) :
    Calls Tryz.prog 94 #[.string (S x), .string (S y)] w fun e w' => e = .returned (.tuple #[.string (S (Nat.gcd x y)), .int .i64 0]) ∧ Below w.heap.size w w' := by
  have HX : Hid _ := S_size x
  have HY : Hid _ := S_size y
  have zx : (S x).size ≤ 500000 := by rw [HX.out]; exact hx
  have zy : (S y).size ≤ 500000 := by rw [HY.out]; exact hy
  go_enter Tryz.func94, Tryz.ntmps94
  go_wp2_with fail
  refine (bothRight_yes (S x) (S y) _ (by omega) (by omega) (rt_S x) (rt_S y)).mono ?_
  rintro e w2 ⟨rfl, rfl⟩
  go_wp2_with fail
  refine (parse_any (S x) _ zx (rt_dg (rt_S x))).mono ?_
  rintro e w1 ⟨g1, n1, c1, f1, rfl, ow1, le1, cp1, gs1, nr1, vl1, be1, sh1⟩
  go_wp2_with fail
  refine (parse_any (S y) _ zy (rt_dg (rt_S y))).mono ?_
  rintro e w3 ⟨g2, n2, c2, f2, rfl, ow2, le2, cp2, gs2, nr2, vl2, be2, sh2⟩
  rw [dv_S] at vl1 vl2
  have l1 := len_bd nr1 vl1
  have l2 := len_bd nr2 vl2
  have lt1 := ow1.lt
  have ow1' := ow1.below be2 lt1
  have sh1' := sh1.below be2 lt1
  have z1 := be1.size
  have z2 := be2.size
  go_wp2_with fail
  refine (commonDivisor_any g1 n1 c1 g2 n2 c2 w2.heap.size f1 f2 _ (by omega) (by omega) le1 le2 (by omega) (by omega) gs1 (by omega) ow1' sh1' ow2 sh2 nr1 nr2).mono ?_
  rintro e w4 ⟨g3, n3, c3, f3, rfl, ow3, nr3, vl3, ln3, be3⟩
  have hB3 := (be1.trans (be2.mono z1)).trans be3
  go_wp2_with fail
  refine (text_S g3 0 n3 c3 f3 _ ln3 ow3.rw nr3).mono ?_
  rintro e w5 ⟨rfl, be4⟩
  rw [vl3, vl1, vl2]
  go_wp2
  go_ret2
  exact ⟨rfl, hB3.trans (be4.mono hB3.size)⟩
end
end Go.Proofs.YtadgnafafdfioaaGreatDoor
