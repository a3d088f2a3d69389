/-
  LONG DIVISION. Conditions: each theorem's own.
-/
import Derived.Test.YtadgnafafdfioaaGreatDoorOps
import Derived.Test.YtadgnafafdfioaaGreatDoorNm
namespace Go.Proofs.YtadgnafafdfioaaGreatDoor
section
set_option maxRecDepth 100000
open Go.RowKit Nm
set_option linter.unusedVariables false

/-- a quotient, and what is left over -/
def Quo (w : World) (x y : Nat) (e : Ending) (w' : World) : Prop :=
  ∃ ao m c1 q g n c2 r, e = .returned (.tuple #[.slice ao m c1, .slice (some ⟨g, 0, none⟩) n c2]) ∧ (m = 0 ∨ ∃ g1, ao = some ⟨g1, 0, none⟩ ∧ Ow w' .i64 g1 q m) ∧ Nrm q m ∧ lv q m = x / y ∧ m ≤ 5000000 ∧
    Ow w' .i64 g r n ∧ n ≤ c2 ∧ Nrm r n ∧ lv r n = x % y ∧ n ≤ 5000000 ∧ w.heap.size ≤ g ∧ Below w.heap.size w w' ∧ Shp w' g c2

theorem Shp.new (w : World) (xs : Array Value) (h : xs.size ≤ 100) : Shp (w.alloc (.cells xs 2)) w.heap.size xs.size := by
  refine ⟨xs, ?_, rfl, by unfold maxLen; omega⟩
  show (w.heap.push (.cells xs 2))[w.heap.size]? = _
  rw [Array.getElem?_push, if_pos rfl]

theorem Ow.one (w : World) (r : Nat) : Ow (w.alloc (.cells #[.int .i64 (r : Nat)] 2)) .i64 w.heap.size (fun _ => r) 1 := by
  refine ⟨fun i hi => ?_, fun i => ?_, by simp⟩
  · obtain rfl : i = 0 := by omega
    rw [World.cell?_alloc_new]; rfl
  · rw [World.frozen?_alloc_new]

set_option maxHeartbeats 1000000 in
theorem divide_lt (b1 o1 n1 c1 b2 o2 n2 c2 : Nat) (f g : Nat → Nat) (w : World) (hn1 : n1 ≤ 2000000) (hn2 : n2 ≤ 2000000) (h1 : Rw w b1 o1 f n1) (h2 : Rw w b2 o2 g n2) (hf : Nrm f n1) (hg : Nrm g n2) (hlt : lv f n1 < lv g n2) :
    Calls Tryz.prog 113 #[.slice (some ⟨b1, o1, none⟩) n1 c1, .slice (some ⟨b2, o2, none⟩) n2 c2] w fun e w' => Quo w (lv f n1) (lv g n2) e w' := by
  have hsg : sg (lv f n1 : Nat) (lv g n2 : Nat) < 0 := by rw [sg_lt (by omega)]; omega
  go_enter Tryz.func113, Tryz.ntmps113
  go_wp2_with fail
  refine (compare_any b1 o1 n1 c1 b2 o2 n2 c2 f g _ (by omega) (by omega) h1 h2 hf hg).mono ?_
  rintro e w1 ⟨rfl, hS⟩
  have h1' := h1.sm hS
  go_wp2_with fail
  refine (clone_any b1 o1 n1 c1 f _ (by omega) h1').mono ?_
  rintro e w2 ⟨g2, c, rfl, hO, hc, hg2, hB, hSh⟩
  have hB2 : Below w.heap.size w w2 := (hS.below w.heap.size).trans (hB.mono (by rw [hS.heap]; exact Nat.le_refl _))
  go_wp2
  go_ret2
  exact ⟨none, 0, 0, fun _ => 0, g2, n1, c, f, rfl, Or.inl rfl, ⟨fun i h => by omega, Or.inl rfl⟩, by rw [Nat.div_eq_of_lt hlt]; rfl, by omega, hO, hc, hf, (Nat.mod_eq_of_lt hlt).symm, by omega, by rw [← hS.heap]; exact hg2, hB2, hSh⟩

theorem sg_nonneg {a b : Int} (h : b ≤ a) : ¬ sg a b < 0 := by unfold sg; split; omega; split <;> omega

set_option maxHeartbeats 1000000 in
theorem divide_one (b1 o1 n1 c1 b2 o2 c2 : Nat) (f g : Nat → Nat) (w : World) (hn1 : n1 ≤ 2000000) (h1 : Rw w b1 o1 f n1) (h2 : Rw w b2 o2 g 1) (hf : Nrm f n1) (hg : Nrm g 1) (hle : lv g 1 ≤ lv f n1) :
    Calls Tryz.prog 113 #[.slice (some ⟨b1, o1, none⟩) n1 c1, .slice (some ⟨b2, o2, none⟩) 1 c2] w fun e w' => Quo w (lv f n1) (lv g 1) e w' := by
  have hsg : ¬ sg (lv f n1 : Nat) (lv g 1 : Nat) < 0 := sg_nonneg (by omega)
  have hv : lv g 1 = g 0 := by simp [lv]
  have hg0 := hg.1 0 (by omega)
  have hg1 : 0 < g 0 := by
    rcases hg.2 with e | e
    · omega
    · simp at e; omega
  have HV : Hid _ := hv
  clear hv
  go_enter Tryz.func113, Tryz.ntmps113
  go_wp2_with fail
  refine (compare_any b1 o1 n1 c1 b2 o2 1 c2 f g _ (by omega) (by omega) h1 h2 hf hg).mono ?_
  rintro e w1 ⟨rfl, hS⟩
  have h1' := h1.sm hS
  have h2' := (h2.sm hS) 0 (by omega)
  simp only [Nat.add_zero] at h2'
  go_wp2_with fail
  refine (divideByLimb_any b1 o1 n1 c1 (g 0) f _ hn1 hg1 hg0 h1' hf.1).mono ?_
  rintro e w2 ⟨g1, m, c, q, rfl, hO, hc, hcc, hgs, hN, hval, hB, _⟩
  have hrest : lv f n1 % g 0 < 1000000000 := Nat.lt_trans (Nat.mod_lt _ hg1) hg0
  have hrest0 : lv f n1 % g 0 = lv f n1 % lv g 1 := by rw [HV.out]
  have HR : Hid _ := hrest0
  clear hrest0
  have hB2 : Below w.heap.size w w2 := (hS.below w.heap.size).trans (hB.mono (by rw [hS.heap]; exact Nat.le_refl _))
  generalize lv f n1 % g 0 = rr at *
  have hO1 := Ow.one w2 rr
  have hB3 := hB2.alloc hB2.size (.cells #[.int .i64 (rr : Nat)] 2)
  have hO' := hO.below ((Below.refl w2.heap.size w2).alloc (Nat.le_refl _) (.cells #[.int .i64 (rr : Nat)] 2)) hO.lt
  go_wp2_with fail
  refine (trim_any w2.heap.size 0 1 1 _ _ (by omega) (by omega) (by omega) hO1.rw).mono ?_
  rintro e w4 ⟨⟨k, hk, hzero, htop, rfl⟩, rfl⟩
  go_wp2
  go_ret2
  refine ⟨some ⟨g1, 0, none⟩, m, c, q, w2.heap.size, k, 1, fun _ => rr, rfl, Or.inr ⟨g1, rfl, hO'⟩, hN, by rw [hval, HV.out], by omega, ⟨fun i hi => hO1.cell i (by omega), hO1.frz, hO1.lt⟩, hk, ⟨fun i hi => hrest, htop⟩, ?_, by omega, hB2.size, hB3, Shp.new w2 _ (by simp)⟩
  rw [← lv_cut hk hzero, ← HR.out]
  simp [lv]

theorem eq0 (y : Nat) (h : 0 < y) : ((S y).toList == [48]) = false := by
  rw [toList_data, S_data]
  apply beq_eq_false_iff_ne.2
  intro e
  have := congrArg dv e
  rw [dv_tx] at this
  have h0 : dv [48] = 0 := by decide
  omega

end
end Go.Proofs.YtadgnafafdfioaaGreatDoor
namespace Go.Proofs.YtadgnafafdfioaaGreatDoor
section
set_option maxRecDepth 100000
open Go.RowKit Nm
set_option linter.unusedVariables false

theorem S_lit {l : List UInt8} {n : Nat} (h : rt l = true) (e : dv l = n) : S n = ⟨l.toArray⟩ := by
  unfold S; rw [tx_of h e]

theorem eqS {x y : Nat} (h : x ≠ y) : ((S x).toList == (S y).toList) = false := by
  rw [toList_data, toList_data, S_data, S_data]
  apply beq_eq_false_iff_ne.2
  exact fun e => h (tx_inj e)

/-- two texts in a new block -/
theorem two_cells (w : World) (a b : ByteArray) : ∀ i, i < 2 → (w.alloc (.cells #[.string a, .string b] 9)).cell? ⟨w.heap.size, i, none⟩ = some (.string (if i = 0 then a else b)) := by
  intro i hi
  rw [World.cell?_alloc_new]
  match i, hi with
  | 0, _ => rfl
  | 1, _ => rfl

theorem three_cells (w : World) (a b c : ByteArray) : ∀ i, i < 3 → (w.alloc (.cells #[.string a, .string b, .string c] 9)).cell? ⟨w.heap.size, i, none⟩ = some (.string (if i = 0 then a else if i = 1 then b else c)) := by
  intro i hi
  rw [World.cell?_alloc_new]
  match i, hi with
  | 0, _ => rfl
  | 1, _ => rfl
  | 2, _ => rfl

theorem one_cell (w : World) (a : ByteArray) : ∀ i, i < 1 → (w.alloc (.cells #[.string a] 9)).cell? ⟨w.heap.size, i, none⟩ = some (.string a) := by
  intro i hi
  rw [World.cell?_alloc_new]
  match i, hi with
  | 0, _ => rfl
end
end Go.Proofs.YtadgnafafdfioaaGreatDoor
namespace Go.Proofs.YtadgnafafdfioaaGreatDoor
section
set_option maxRecDepth 100000
open Go.RowKit Nm
set_option linter.unusedVariables false

set_option maxHeartbeats 1000000 in
theorem timesLimb_any (b off n cap d : Nat) (f : Nat → Nat) (w : World) (hn : n ≤ 2000000) (hd : d < 1000000000) (hR : Rw w b off f n) (hf : ∀ i, i < n → f i < 1000000000) :
    Calls Tryz.prog 131 #[.slice (some ⟨b, off, none⟩) n cap, .int .i64 d] w fun e w' => ∃ o, e = .returned (.slice (some ⟨w.heap.size, 0, none⟩) (n + 1) (n + 1)) ∧ Ow w' .i64 w.heap.size o (n + 1) ∧ (∀ i, i < n + 1 → o i < 1000000000) ∧ lv o (n + 1) = lv f n * d ∧ Below w.heap.size w w' := by
  obtain ⟨i0, hi, hz0, hz1, hz2⟩ := info_parts Tryz.info2
  go_enter Tryz.func131, Tryz.ntmps131
  go_wp2_with (first | (at_make; refine wpList_make_full _ rfl _ _ 133 rfl w.heap.size 2 i0 (.int .i64 0) 1 Tryz.underlying133 hi hz0 hz1 _ _ _ _ (n + 1) rfl rfl (by omega) (by omega) (by rw [hz2]; omega) (by unfold maxLen; omega) (Nat.le_refl _) ?_))
  intro w1 hown1 hgrow1
  go_wp2_with fail
  have hO1 := Ow.of_own hown1
  have hB1 : Below w.heap.size w w1 := (Below.refl _ _).grown hgrow1 (Nat.le_refl _) (fun k h => by cases h)
  clear hown1 hgrow1
  go_loopw [6, 15] (fun c i wr => ∃ k o q, k ≤ n ∧ i = .int .i64 (k : Nat) ∧ c = .int .i64 (q : Nat) ∧ Ow wr .i64 w.heap.size o (n + 1) ∧ TmI o f d k q ∧ Below w.heap.size w wr) (fun _ i _ => n - (intOf i).toNat)
  case atStart => exact ⟨0, fun _ => 0, 0, by omega, rfl, rfl, hO1, ⟨fun i h => by omega, by omega, by simp [lv]⟩, hB1⟩
  case round =>
    obtain ⟨k, o, q, hk, rfl, rfl, hO, hA, hB⟩ := hrel
    clear hO1 hB1
    have hq := hA.car
    by_cases hlt : k < n
    · have r1 := (hR.below' hB) k hlt
      have x1 := hf k hlt
      have hcl := hO.cell k (by omega)
      have hfz := hO.frz k
      have hb := mul_bd x1 hd
      have hm0 : (0 : Int) ≤ (f k : Int) * (d : Int) := by omega
      have hm1 : (f k : Int) * (d : Int) ≤ 999999998000000001 := by omega
      have hst := hA.step x1 hd
      have hst2 := hO.store (j := k) (by omega) ((f k * d + q) % 1000000000)
      go_wp2_with fail
      refine (split_any _ _ (by omega) (by omega)).mono ?_
      rintro e w2 ⟨rfl, rfl⟩
      go_wp2
      go_roundw
      case rel =>
        refine ⟨k + 1, _, _, by omega, by go_num, ?_, ?_, hst, hB.setCell (Nat.le_refl _) _⟩
        · simp
        · simpa using hst2
      case measure => simp [intOf]; omega
    · obtain rfl : k = n := by omega
      have hcl := hO.cell k (by omega)
      have hfz := hO.frz k
      have hst2 := hO.store (j := k) (by omega) q
      have hB2 := hB.setCell (p := ⟨w.heap.size, k, none⟩) (Nat.le_refl _) (.int .i64 (q : Nat))
      go_wp2
      go_ret
      refine ⟨_, rfl, hst2, fun i hi => ?_, ?_, hB2⟩
      · by_cases e : i = k
        · subst e; rw [up_same]; exact hq
        · rw [up_other _ _ e]; exact hA.lim i (by omega)
      · rw [lv_succ, up_same, lv_up (Nat.le_refl _), hA.val]

set_option maxHeartbeats 1000000 in
theorem takeOff_any (b i n N cp b2 o2 c2 q : Nat) (R v : Nat → Nat) (w : World) (hn : n ≤ 2000000) (hi : i ≤ 2000000) (hN : i + n < N) (hNN : N ≤ 5000000) (hq : q < 1000000000) (hcp : n + 1 ≤ cp)
    (hO : Ow w .i64 b R N) (hR : ∀ t, t < N → R t < 1000000000) (hv : Rw w b2 o2 v n) (hvl : ∀ t, t < n → v t < 1000000000) (hne : b2 ≠ b) :
    Calls Tryz.prog 133 #[.slice (some ⟨b, i, none⟩) (n + 1) cp, .slice (some ⟨b2, o2, none⟩) n c2, .int .i64 q] w fun e w' => ∃ S m, e = .returned (.bool (decide (m = 1))) ∧ m ≤ 1 ∧ Ow w' .i64 b S N ∧ (∀ t, t < N → S t < 1000000000) ∧ (∀ t, t < i ∨ i + (n + 1) ≤ t → S t = R t) ∧
      lv (sh S i) (n + 1) + q * lv v n = lv (sh R i) (n + 1) + m * 1000000000 ^ (n + 1) ∧ Wr w w' b := by
  go_enter Tryz.func133, Tryz.ntmps133
  go_wp2_with fail
  go_loopw [8, 15] (fun c j wr => ∃ k S m, k ≤ n ∧ j = .int .i64 (k : Nat) ∧ c = .int .i64 (-((m : Nat) : Int)) ∧ Ow wr .i64 b S N ∧ TkI S R v N i q k m ∧ Wr w wr b) (fun _ j _ => n - (intOf j).toNat)
  case atStart => exact ⟨0, R, 0, by omega, rfl, rfl, hO, ⟨hR, fun _ _ => rfl, by omega, by simp [lv]⟩, Wr.refl _ _⟩
  case round =>
    obtain ⟨k, S, m, hk, rfl, rfl, hOr, hI, hW⟩ := hrel
    have hm := hI.car
    by_cases hlt : k < n
    · have r1 := (hv.kept hW hne) k hlt
      have x1 := hvl k hlt
      have hb := mul_bd x1 hq
      have hm0 : (0 : Int) ≤ (v k : Int) * (q : Int) := by omega
      have hm1 : (v k : Int) * (q : Int) ≤ 999999998000000001 := by omega
      have hcl := hOr.cell (i + k) (by omega)
      have hfz := hOr.frz (i + k)
      have hlim := hI.lim (i + k) (by omega)
      obtain ⟨l, m', e1, e2, e3, hst⟩ := hI.step (by omega) x1 hq
      have E1 : Hid _ := e1
      have E2 : Hid _ := e2
      clear e1 e2
      have hst2 := hOr.store (j := i + k) (by omega) l
      go_wp2_with fail
      refine (split_any _ _ (by omega) (by omega)).mono ?_
      rintro e w2 ⟨rfl, rfl⟩
      rw [E1.out, E2.out]
      go_wp2
      go_roundw
      case rel => exact ⟨k + 1, _, m', by omega, by go_num, rfl, hst2, hst, hW.setCell _ _⟩
      case measure => simp [intOf]; omega
    · obtain rfl : k = n := by omega
      have hcl := hOr.cell (i + k) (by omega)
      have hfz := hOr.frz (i + k)
      have hlim := hI.lim (i + k) (by omega)
      obtain ⟨l, m', e1, e2, e3, e4, e5, e6, e7⟩ := hI.last (by omega)
      have E1 : Hid _ := e1
      have E2 : Hid _ := e2
      have E7 : Hid _ := e7
      clear e1 e2 e7
      have hst2 := hOr.store (j := i + k) (by omega) l
      go_wp2_with fail
      refine (split_any _ _ (by omega) (by omega)).mono ?_
      rintro e w2 ⟨rfl, rfl⟩
      rw [E1.out, E2.out]
      go_wp2
      go_ret
      refine ⟨_, m', ?_, e4, hst2, e5, e6, E7.out, hW.setCell _ _⟩
      by_cases c : m' = 1
      · subst c; rfl
      · have : m' = 0 := by omega
        subst this; rfl

set_option maxHeartbeats 1000000 in
theorem putBack_any (b i n N cp b2 o2 c2 : Nat) (R v : Nat → Nat) (w : World) (hn : n ≤ 2000000) (hi : i ≤ 2000000) (hN : i + n < N) (hNN : N ≤ 5000000) (hcp : n + 1 ≤ cp)
    (hO : Ow w .i64 b R N) (hR : ∀ t, t < N → R t < 1000000000) (hv : Rw w b2 o2 v n) (hvl : ∀ t, t < n → v t < 1000000000) (hne : b2 ≠ b) :
    Calls Tryz.prog 134 #[.slice (some ⟨b, i, none⟩) (n + 1) cp, .slice (some ⟨b2, o2, none⟩) n c2] w fun e w' => ∃ S c, e = .returned (.tuple #[]) ∧ Ow w' .i64 b S N ∧ (∀ t, t < N → S t < 1000000000) ∧ (∀ t, t < i ∨ i + (n + 1) ≤ t → S t = R t) ∧
      lv (sh S i) (n + 1) + c * 1000000000 ^ (n + 1) = lv (sh R i) (n + 1) + lv v n ∧ Wr w w' b := by
  go_enter Tryz.func134, Tryz.ntmps134
  go_wp2_with fail
  go_loopw [5, 12] (fun c j wr => ∃ k S m, k ≤ n ∧ j = .int .i64 (k : Nat) ∧ c = .int .i64 (m : Nat) ∧ Ow wr .i64 b S N ∧ PbI S R v N i k m ∧ Wr w wr b) (fun _ j _ => n - (intOf j).toNat)
  case atStart => exact ⟨0, R, 0, by omega, rfl, rfl, hO, ⟨hR, fun _ _ => rfl, by omega, by simp [lv]⟩, Wr.refl _ _⟩
  case round =>
    obtain ⟨k, S, m, hk, rfl, rfl, hOr, hI, hW⟩ := hrel
    have hm := hI.car
    by_cases hlt : k < n
    · have r1 := (hv.kept hW hne) k hlt
      have x1 := hvl k hlt
      have hcl := hOr.cell (i + k) (by omega)
      have hfz := hOr.frz (i + k)
      have hlim := hI.lim (i + k) (by omega)
      have hst := hI.step (by omega) x1
      have hst2 := hOr.store (j := i + k) (by omega) ((S (i + k) + v k + m) % 1000000000)
      go_wp2_with fail
      refine (split_any _ _ (by omega) (by omega)).mono ?_
      rintro e w2 ⟨rfl, rfl⟩
      go_wp2
      go_roundw
      case rel =>
        refine ⟨k + 1, _, _, by omega, by go_num, ?_, ?_, hst, hW.setCell _ _⟩
        · simp
        · simpa using hst2
      case measure => simp [intOf]; omega
    · obtain rfl : k = n := by omega
      have hcl := hOr.cell (i + k) (by omega)
      have hfz := hOr.frz (i + k)
      have hlim := hI.lim (i + k) (by omega)
      obtain ⟨e5, e6, e7⟩ := hI.last (by omega)
      have E7 : Hid _ := e7
      clear e7
      have hst2 := hOr.store (j := i + k) (by omega) ((S (i + k) + m) % 1000000000)
      go_wp2_with fail
      refine (split_any _ _ (by omega) (by omega)).mono ?_
      rintro e w2 ⟨rfl, rfl⟩
      go_wp2
      go_end0
      refine ⟨_, _, rfl, ?_, e5, e6, E7.out, hW.setCell _ _⟩
      simpa using hst2
end
end Go.Proofs.YtadgnafafdfioaaGreatDoor
namespace Go.Proofs.YtadgnafafdfioaaGreatDoor
section
set_option maxRecDepth 100000
open Go.RowKit Nm
set_option linter.unusedVariables false

theorem lv_two (v : Nat → Nat) (m : Nat) : lv v (m + 2) = (v (m + 1) * 1000000000 + v m) * 1000000000 ^ m + lv v m := by
  rw [lv_succ, lv_succ, Nat.pow_succ, Nat.add_mul, Nat.mul_assoc, Nat.mul_comm 1000000000 (1000000000 ^ m)]
  omega

theorem lv_three (p : Nat → Nat) (m : Nat) : lv p (m + 3) = ((p (m + 2) * 1000000000 + p (m + 1)) * 1000000000 + p m) * 1000000000 ^ m + lv p m := by
  rw [lv_succ, lv_two, Nat.pow_succ, Nat.pow_succ]
  have : p (m + 2) * (1000000000 ^ m * 1000000000 * 1000000000) = p (m + 2) * 1000000000 * 1000000000 * 1000000000 ^ m := by
    rw [Nat.mul_comm (1000000000 ^ m * 1000000000), Nat.mul_comm (1000000000 ^ m), ← Nat.mul_assoc, ← Nat.mul_assoc]
  rw [this, Nat.add_mul (p (m + 2) * 1000000000), Nat.add_mul _ (p m), Nat.add_mul _ (p m), Nat.add_mul (p (m + 2) * 1000000000 * 1000000000)]
  omega

theorem top_le {p v : Nat → Nat} {m : Nat} (hv : ∀ t, t < m + 2 → v t < 1000000000) (h : lv (sh p 1) (m + 2) < lv v (m + 2)) : p (m + 2) ≤ v (m + 1) := by
  rw [lv_succ] at h
  have e : sh p 1 (m + 1) = p (m + 2) := by unfold sh; congr 1; omega
  have h1 : lv v (m + 2) = lv v (m + 1) + v (m + 1) * 1000000000 ^ (m + 1) := lv_succ _ _
  have h2 := lv_lt (f := v) (n := m + 1) (fun t ht => hv t (by omega))
  have h3 : p (m + 2) * 1000000000 ^ (m + 1) < (v (m + 1) + 1) * 1000000000 ^ (m + 1) := by
    rw [Nat.add_mul, Nat.one_mul]; rw [e] at h; omega
  have := Nat.lt_of_mul_lt_mul_right h3
  omega

set_option maxRecDepth 100000 in
set_option maxHeartbeats 2000000 in
theorem guessLimb_any (b1 o1 cp1 b2 o2 cp2 m : Nat) (p v : Nat → Nat) (w : World) (hm : m ≤ 2000000) (h1 : Rw w b1 o1 p (m + 3)) (h2 : Rw w b2 o2 v (m + 2)) (hp : ∀ t, t < m + 3 → p t < 1000000000) (hv : ∀ t, t < m + 2 → v t < 1000000000) (hv1 : 0 < v (m + 1))
    (hx : lv (sh p 1) (m + 2) < lv v (m + 2)) (hB : lv p (m + 3) < 1000000000 * lv v (m + 2)) :
    Calls Tryz.prog 132 #[.slice (some ⟨b1, o1, none⟩) (m + 3) cp1, .slice (some ⟨b2, o2, none⟩) (m + 2) cp2] w fun e w' => ∃ q : Nat, e = .returned (.int .i64 q) ∧ q < 1000000000 ∧ lv p (m + 3) / lv v (m + 2) ≤ q ∧ q ≤ lv p (m + 3) / lv v (m + 2) + 1 ∧ Sm w w' := by
  have hp0 := top_le hv hx
  have a0 := hp (m + 2) (by omega)
  have a1 := hp (m + 1) (by omega)
  have a2 := hp m (by omega)
  have d1 := hv (m + 1) (by omega)
  have d2 := hv m (by omega)
  have c0 := h1 (m + 2) (by omega)
  have c1 := h1 (m + 1) (by omega)
  have c2 := h1 m (by omega)
  have f1 := h2 (m + 1) (by omega)
  have f2 := h2 m (by omega)
  have hW := posB m
  have hpl := lv_lt (f := p) (n := m) (fun t ht => hp t (by omega))
  have hvl := lv_lt (f := v) (n := m) (fun t ht => hv t (by omega))
  rw [lv_three, lv_two] at hB
  rw [lv_three, lv_two]
  have HB : Hid _ := hB
  have HPL : Hid _ := hpl
  have HVL : Hid _ := hvl
  have HW : Hid _ := hW
  clear hB hpl hvl hx hW h1 h2 hp hv
  generalize lv p m = pl at *
  generalize lv v m = vl at *
  generalize 1000000000 ^ m = W at *
  generalize p (m + 2) = p0 at *
  generalize p (m + 1) = p1 at *
  generalize p m = p2 at *
  generalize v (m + 1) = v1 at *
  generalize v m = v2 at *
  go_enter Tryz.func132, Tryz.ntmps132
  go_wp2_with fail
  go_quiet (fail)
  go_wp2_with fail
  go_quiet (fail)
  go_wp2_with fail
  go_loopw [7, 8] (fun a c wr => ∃ q l : Nat, a = .int .i64 (q : Nat) ∧ c = .int .i64 (l : Nat) ∧ GsI q l p0 p1 v1 ((((p0 * 1000000000 + p1) * 1000000000 + p2) * W + pl) / ((v1 * 1000000000 + v2) * W + vl)) ∧ Sm w wr) (fun _ c _ => (1000000000 - intOf c).toNat)
  case atStart => exact ⟨(p0 * 1000000000 + p1) / v1, (p0 * 1000000000 + p1) % v1, by simp, by simp, GsI.start HW.out HPL.out a2 hv1, ⟨rfl, rfl, rfl, rfl⟩⟩
  case round =>
    obtain ⟨q, l, rfl, rfl, hG, hS⟩ := hrel
    have hqb : q ≤ 1000000001000000000 := by
      have := hG.val
      have : q * 1 ≤ q * v1 := Nat.mul_le_mul_left _ hv1
      omega
    have hlb : l ≤ 1000000001000000000 := by have := hG.val; omega
    have HG : Hid _ := hG
    clear hG
    have c2' : wr.cell? ⟨b1, o1 + m, none⟩ = some (.int .i64 (p2 : Nat)) := by rw [World.cell?_of_block (w := w) (by rw [hS.heap])]; exact c2
    have f2' : wr.cell? ⟨b2, o2 + m, none⟩ = some (.int .i64 (v2 : Nat)) := by rw [World.cell?_of_block (w := w) (by rw [hS.heap])]; exact f2
    have f1' : wr.cell? ⟨b2, o2 + (m + 1), none⟩ = some (.int .i64 (v1 : Nat)) := by rw [World.cell?_of_block (w := w) (by rw [hS.heap])]; exact f1
    by_cases k1 : l < 1000000000
    · have hd1 : decide ((l : Int) < 1000000000) = true := by simp; omega
      by_cases k2 : 1000000000 ≤ q
      · have hd2 : decide ((1000000000 : Int) ≤ (q : Int)) = true := by simp; omega
        obtain ⟨g1, g2⟩ := HG.out.step HW.out HPL.out HB.out (Or.inl k2)
        have HG2 : Hid _ := g2
        clear g2
        go_wp2_with fail
        go_quiet (fail)
        go_wp2
        go_roundw
        case rel => exact ⟨q - 1, l + v1, by go_num, by go_num, HG2.out, hS.trans (Sm.drewN _ _)⟩
        case measure => simp [intOf]; omega
      · have hb := mul_bd (x := q) (by omega) d2
        have hm0 : (0 : Int) ≤ (q : Int) * (v2 : Int) := by omega
        have hm1 : (q : Int) * (v2 : Int) ≤ 999999998000000001 := by omega
        have hd2 : decide ((1000000000 : Int) ≤ (q : Int)) = false := by simp; omega
        by_cases k3 : l * 1000000000 + p2 < q * v2
        · have k3' : (l : Int) * 1000000000 + (p2 : Int) < (q : Int) * (v2 : Int) := by omega
          obtain ⟨g1, g2⟩ := HG.out.step HW.out HPL.out HB.out (Or.inr k3)
          have HG2 : Hid _ := g2
          clear g2
          go_wp2_with fail
          go_quiet (fail)
          go_wp2
          go_roundw
          case rel => exact ⟨q - 1, l + v1, by go_num, by go_num, HG2.out, hS.trans (Sm.drewN _ _)⟩
          case measure => simp [intOf]; omega
        · have k3' : decide ((l : Int) * 1000000000 + (p2 : Int) < (q : Int) * (v2 : Int)) = false := by simp only [decide_eq_false_iff_not]; omega
          have kk : ¬ (l < 1000000000 ∧ (1000000000 ≤ q ∨ l * 1000000000 + p2 < q * v2)) := by omega
          obtain ⟨g1, g2⟩ := HG.out.done HW.out HVL.out hv1 d2 hp0 a1 kk
          have HG1 : Hid _ := g1
          have HG2 : Hid _ := g2
          clear g1 g2
          go_wp2_with fail
          go_quiet (fail)
          go_wp2
          go_ret
          exact ⟨q, rfl, HG1.out, HG.out.ge, HG2.out, hS.trans (Sm.drewN _ _)⟩
    · have kk : ¬ (l < 1000000000 ∧ (1000000000 ≤ q ∨ l * 1000000000 + p2 < q * v2)) := by omega
      have hd1 : decide ((l : Int) < 1000000000) = false := by simp; omega
      obtain ⟨g1, g2⟩ := HG.out.done HW.out HVL.out hv1 d2 hp0 a1 kk
      have HG1 : Hid _ := g1
      have HG2 : Hid _ := g2
      clear g1 g2
      go_wp2_with fail
      go_quiet (fail)
      go_wp2
      go_ret
      exact ⟨q, rfl, HG1.out, HG.out.ge, HG2.out, hS.trans (Sm.drewN _ _)⟩
end
end Go.Proofs.YtadgnafafdfioaaGreatDoor
namespace Go.Proofs.YtadgnafafdfioaaGreatDoor
section
set_option maxRecDepth 100000
open Go.RowKit Nm
set_option linter.unusedVariables false

theorem sh_sh (R : Nat → Nat) (i : Nat) : sh (sh R i) 1 = sh R (i + 1) := by funext t; unfold sh; congr 1; omega

/-- one too often, or not -/
theorem round_q {P V q m s : Nat} (hV : 0 < V) (hQ : P / V ≤ q) (hQ1 : q ≤ P / V + 1) {W : Nat} (hs : s < W) (hVW : V < W) (hm : m ≤ 1) (he : s + q * V = P + m * W) :
    (m = 0 → q = P / V ∧ s = P % V) ∧ (m = 1 → q = P / V + 1) := by
  have hdm := Nat.div_add_mod P V
  have hml := Nat.mod_lt P hV
  generalize P / V = Q at *
  generalize P % V = r at *
  rcases Nat.lt_or_ge Q q with c | c
  · have e : q = Q + 1 := by omega
    subst e
    rw [Nat.add_mul, Nat.one_mul, Nat.mul_comm Q V] at he
    refine ⟨fun h => ?_, fun _ => rfl⟩
    subst h; omega
  · have e : q = Q := by omega
    subst e
    rw [Nat.mul_comm q V] at he
    refine ⟨fun h => ?_, fun h => ?_⟩
    · subst h; exact ⟨rfl, by omega⟩
    · subst h; omega

theorem round_back {P V q s t c W : Nat} (hV : 0 < V) (hq : q = P / V + 1) (hVW : V < W) (ht : t < W) (hs : s + q * V = P + 1 * W) (hb : t + c * W = s + V) : t = P % V := by
  have hdm := Nat.div_add_mod P V
  have hml := Nat.mod_lt P hV
  subst hq
  generalize P / V = Q at *
  generalize P % V = r at *
  rw [Nat.add_mul, Nat.one_mul, Nat.mul_comm Q V] at hs
  have h1 : t + c * W = r + W := by omega
  rcases Nat.lt_trichotomy c 1 with d | d | d
  · have : c = 0 := by omega
    subst this; omega
  · subst d; omega
  · have : 2 * W ≤ c * W := Nat.mul_le_mul_right _ d
    omega

theorem trim_len {O : Nat → Nat} {n k V : Nat} (hO : ∀ i, i < n + 1 → O i < 1000000000) (hv : lv O (n + 1) = V) (hhi : V < 1000000000 ^ n) (hlo : 1000000000 ^ (n - 1) ≤ V) (hn : 0 < n) (hk : k ≤ n + 1) (hz : ∀ i, k ≤ i → i < n + 1 → O i = 0) (ht : k = 0 ∨ O (k - 1) ≠ 0) : k = n := by
  have h1 : O n = 0 := high_zero (h := O) (m := n + 1) (n := n) (by rw [hv]; exact hhi) n (Nat.le_refl _) (by omega)
  have h2 := lv_cut hk hz
  rw [hv] at h2
  have h3 := lv_lt (f := O) (n := k) (fun i hi => hO i (by omega))
  rcases Nat.lt_trichotomy k n with c | c | c
  · exfalso
    have : 1000000000 ^ k ≤ 1000000000 ^ (n - 1) := Nat.pow_le_pow_right (by omega) (by omega)
    omega
  · exact c
  · exfalso
    have : k = n + 1 := by omega
    subst this
    rcases ht with e | e
    · omega
    · exact e (by simpa using h1)

/-- the scale -/
theorem scale_ok {g : Nat → Nat} {n d : Nat} (hg : Nrm g (n + 1)) (hd : d = 1000000000 / (g n + 1)) : 0 < d ∧ d < 1000000000 ∧ lv g (n + 1) * d < 1000000000 ^ (n + 1) ∧ 1000000000 ^ n ≤ lv g (n + 1) * d := by
  have h1 := hg.1 n (by omega)
  have h2 : 0 < g n := by
    rcases hg.2 with e | e
    · omega
    · simp at e; omega
  have hdp : 0 < d := by rw [hd]; exact Nat.div_pos (by omega) (by omega)
  have hdl : d * (g n + 1) ≤ 1000000000 := by rw [hd]; exact Nat.div_mul_le_self _ _
  have h3 := lv_lt (f := g) (n := n) (fun i hi => hg.1 i (by omega))
  have h4 := hg.hi (by omega)
  rw [Nat.add_sub_cancel] at h4
  have hd2 : d * 2 ≤ d * (g n + 1) := Nat.mul_le_mul_left _ (by omega)
  refine ⟨hdp, by omega, ?_, ?_⟩
  · have k1 : lv g (n + 1) < (g n + 1) * 1000000000 ^ n := by rw [lv_succ, Nat.add_mul, Nat.one_mul]; omega
    have k2 : lv g (n + 1) * d < (g n + 1) * 1000000000 ^ n * d := Nat.mul_lt_mul_of_pos_right k1 hdp
    have k3 : (g n + 1) * 1000000000 ^ n * d = d * (g n + 1) * 1000000000 ^ n := by rw [Nat.mul_comm, Nat.mul_assoc]
    have k4 : d * (g n + 1) * 1000000000 ^ n ≤ 1000000000 * 1000000000 ^ n := Nat.mul_le_mul_right _ hdl
    rw [Nat.pow_succ]; omega
  · have : lv g (n + 1) * 1 ≤ lv g (n + 1) * d := Nat.mul_le_mul_left _ hdp
    omega

theorem LgI.start {U : Nat → Nat} {Q : Nat → Nat} {n1 n2 f g d : Nat} (hU : ∀ t, t < n1 + 1 → U t < 1000000000) (hv : lv U (n1 + 1) = f * d) (hf : f < 1000000000 ^ n1) (hd : 0 < d) (hg : 1000000000 ^ (n2 - 1) ≤ g) (h2 : 1 ≤ n2) (h12 : n2 ≤ n1) :
    LgI U Q (n1 + 1) (n1 - n2 + 1) (f * d) (g * d) (n1 - n2 + 1) := by
  refine ⟨hU, fun t a b => by omega, ?_, ?_⟩
  · have h := lv_split U (n1 - n2 + 1) n2
    rw [show n1 - n2 + 1 + n2 = n1 + 1 by omega, hv] at h
    rw [show n1 + 1 - (n1 - n2 + 1) = n2 by omega]
    have h3 : 1000000000 ^ (n1 - n2 + 1) * lv (sh U (n1 - n2 + 1)) n2 < 1000000000 ^ (n1 - n2 + 1) * (g * d) := by
      have k1 : f * d < 1000000000 ^ n1 * d := Nat.mul_lt_mul_of_pos_right hf hd
      have k2 : 1000000000 ^ n1 = 1000000000 ^ (n1 - n2 + 1) * 1000000000 ^ (n2 - 1) := by rw [← Nat.pow_add]; congr 1; omega
      have k3 : 1000000000 ^ (n1 - n2 + 1) * 1000000000 ^ (n2 - 1) * d ≤ 1000000000 ^ (n1 - n2 + 1) * g * d := Nat.mul_le_mul_right _ (Nat.mul_le_mul_left _ hg)
      rw [k2] at k1
      rw [← Nat.mul_assoc]
      omega
    exact Nat.lt_of_mul_lt_mul_left h3
  · rw [Nat.sub_self, lv_zero, Nat.mul_zero, Nat.mul_zero, Nat.add_zero, hv]

set_option maxRecDepth 100000 in
set_option maxHeartbeats 1000000 in
theorem divideLong_any (b1 n1 c1 b2 m c2 : Nat) (f g : Nat → Nat) (w : World) (hn1 : n1 ≤ 500000) (h1 : Rw w b1 0 f n1) (h2 : Rw w b2 0 g (m + 2)) (hf : Nrm f n1) (hg : Nrm g (m + 2)) (hle : lv g (m + 2) ≤ lv f n1) :
    Calls Tryz.prog 126 #[.slice (some ⟨b1, 0, none⟩) n1 c1, .slice (some ⟨b2, 0, none⟩) (m + 2) c2] w fun e w' => Quo w (lv f n1) (lv g (m + 2)) e w' := by
  obtain ⟨i0, hi, hz0, hz1, hz2⟩ := info_parts Tryz.info2
  have h12 : m + 2 ≤ n1 := hg.len_le hf hle
  have hgt := hg.1 (m + 1) (by omega)
  have ct := h2 (m + 1) (by omega)
  simp only [Nat.zero_add] at ct
  obtain ⟨d, hd⟩ : ∃ d, d = 1000000000 / (g (m + 1) + 1) := ⟨_, rfl⟩
  obtain ⟨d0, dl, dhi, dlo⟩ := scale_ok hg hd
  have hdi : (1000000000 : Int) / ((g (m + 1) : Int) + 1) = ((d : Nat) : Int) := by rw [hd]; simp
  have HDLO : Hid _ := dlo
  have HDHI : Hid _ := dhi
  clear hd dlo dhi
  go_enter Tryz.func126, Tryz.ntmps126
  go_wp2_with fail
  refine (timesLimb_any b1 0 n1 c1 d f _ (by omega) dl h1 hf.1).mono ?_
  rintro e w1 ⟨U, rfl, oU, limU, valU, be1⟩
  have h2' := h2.below' be1
  have s1 := be1.size
  have s1' := oU.lt
  go_wp2_with fail
  refine (timesLimb_any b2 0 (m + 2) c2 d g _ (by omega) dl h2' hg.1).mono ?_
  rintro e w2 ⟨O, rfl, oO, limO, valO, be2⟩
  have s2 := be2.size
  have s2' := oO.lt
  go_wp2_with fail
  refine (trim_any w1.heap.size 0 (m + 2 + 1) (m + 2 + 1) O _ (by omega) (Nat.le_refl _) (by omega) oO.rw).mono ?_
  rintro e w3 ⟨⟨k, hk, kz, kt, rfl⟩, rfl⟩
  have hkn : k = m + 2 := trim_len limO valO HDHI.out HDLO.out (by omega) hk kz kt
  subst hkn
  have valV : lv O (m + 2) = lv g (m + 2) * d := by rw [← lv_cut hk kz, valO]
  have VT : Hid (O (m + 1) ≠ 0) := by rcases kt with e | e; omega; exact e
  have VV : Hid _ := valV
  clear kt kz valO valV
  have oU2 := oU.below be2 oU.lt
  go_wp2_with (first | (at_make; refine wpList_make_full _ rfl _ _ 133 rfl w3.heap.size 2 i0 (.int .i64 0) 1 Tryz.underlying133 hi hz0 hz1 _ _ _ _ (n1 - (m + 2) + 1) rfl rfl (by omega) (by omega) (by rw [hz2]; omega) (by unfold maxLen; omega) (Nat.le_refl _) ?_))
  intro w4 hown4 hgrow4
  have oQ := Ow.of_own hown4
  have be4 : Below w3.heap.size w3 w4 := (Below.refl _ _).grown hgrow4 (Nat.le_refl _) (fun k h => by cases h)
  clear hown4 hgrow4
  have oU4 := oU2.below be4 oU2.lt
  have oO4 := oO.below be4 oO.lt
  have bAll : Below w.heap.size w w4 := (be1.trans (be2.mono s1)).trans (be4.mono (Nat.le_trans s1 s2))
  go_wp2_with fail
  obtain ⟨M, hM⟩ : ∃ M, M = n1 - (m + 2) + 1 := ⟨_, rfl⟩
  have HM : Hid (M = n1 - (m + 2) + 1) := hM
  have hst0 : LgI U (fun _ => 0) (n1 + 1) M (lv f n1 * d) (lv g (m + 2) * d) M := by
    rw [hM]; exact LgI.start limU valU hf.lt d0 (hg.hi (by omega)) (by omega) h12
  have hVpos : 0 < lv g (m + 2) * d := Nat.mul_pos (by have := hg.hi (by omega); have := posB (m + 2 - 1); omega) d0
  have hMb : M + (m + 2) = n1 + 1 := by omega
  rw [← hM] at oQ
  clear hM
  go_loopw [9] (fun i wr => ∃ k R Q, k ≤ M ∧ (k = 0 ∧ i = .int .i64 (-1) ∨ ∃ t, k = t + 1 ∧ i = .int .i64 (t : Nat)) ∧ Ow wr .i64 w.heap.size R (n1 + 1) ∧ Ow wr .i64 w1.heap.size O (m + 2 + 1) ∧ Ow wr .i64 w3.heap.size Q M ∧ LgI R Q (n1 + 1) M (lv f n1 * d) (lv g (m + 2) * d) k ∧ Below w.heap.size w wr) (fun i _ => (intOf i + 1).toNat)
  case atStart => exact ⟨M, U, fun _ => 0, Nat.le_refl _, Or.inr ⟨n1 - (m + 2), by have := HM.out; omega, by go_num⟩, oU4, oO4, oQ, hst0, bAll⟩
  case round =>
    obtain ⟨k, R, Q, hk', hii, oR, oV, oK, hL, hB⟩ := hrel
    clear oU4 oO4 oQ oU2 oU oO hst0 bAll be1 be2 be4
    have HV := VV.out
    rcases hii with ⟨rfl, rfl⟩ | ⟨t, rfl, rfl⟩
    · obtain ⟨dn1, dn2⟩ := hL.done d0
      have DN1 : Hid _ := dn1
      have DN2 : Hid _ := dn2
      clear dn1 dn2 HV
      go_wp2_with fail
      refine (trim_any w.heap.size 0 (n1 + 1) (n1 + 1) R _ (by omega) (Nat.le_refl _) (by omega) oR.rw).mono ?_
      rintro e w5 ⟨⟨k1, hk1, kz1, kt1, rfl⟩, rfl⟩
      have rR := oR.rw.mono hk1
      have KC : Hid _ := lv_cut hk1 kz1
      clear kz1 kt1
      go_wp2_with fail
      refine (divideByLimb_any w.heap.size 0 k1 (n1 + 1) d R _ (by omega) d0 dl rR (fun i hi => hL.lim i (by omega))).mono ?_
      rintro e w6 ⟨g6, m6, c6, q6, rfl, o6, h6, h6c, s6, nr6, vl6, be6, sh6⟩
      have oK6 := oK.below be6 oK.lt
      go_wp2_with fail
      rw [← HM.out]
      refine (trim_any w3.heap.size 0 M M Q _ (by omega) (Nat.le_refl _) (by omega) oK6.rw).mono ?_
      rintro e w7 ⟨⟨k2, hk2, kz2, kt2, rfl⟩, rfl⟩
      have KC2 : Hid _ := lv_cut hk2 kz2
      have hb' := hB.size
      go_wp2
      go_ret2
      refine ⟨some ⟨w3.heap.size, 0, none⟩, k2, M, Q, g6, m6, c6, q6, rfl, Or.inr ⟨_, rfl, ⟨fun i hi => oK6.cell i (by omega), oK6.frz, oK6.lt⟩⟩, ⟨fun i hi => hL.qlim i (by omega) (by omega), kt2⟩, ?_, by omega, o6, h6, nr6, ?_, by omega, by omega, hB.trans (be6.mono hb'), sh6⟩
      · rw [← KC2.out, DN1.out]
      · rw [vl6, ← KC.out, DN2.out]
    · obtain ⟨p1, p2, p3⟩ := hL.part (n := m + 2) HDHI.out (by omega)
      have rR : Rw wr w.heap.size t (sh R t) (m + 3) := oR.rwAt (by omega)
      have rV := oV.rw.mono (m := m + 2) (by omega)
      have limV : ∀ i, i < m + 2 → O i < 1000000000 := fun i hi => limO i (by omega)
      have hx : lv (sh (sh R t) 1) (m + 2) < lv O (m + 2) := by rw [sh_sh, HV]; exact p3
      have hBV : lv (sh R t) (m + 3) < 1000000000 * lv O (m + 2) := by rw [HV]; exact p2
      have HX : Hid _ := hx
      have HBV : Hid _ := hBV
      clear p1 p2 p3 HV hx hBV
      go_wp2_with fail
      rw [show t + (m + 2) + 1 - t = m + 3 by omega]
      refine (guessLimb_any w.heap.size t (n1 + 1 - t) w1.heap.size 0 (m + 2 + 1) m (sh R t) O _ (by omega) rR rV (fun i hi => hL.lim _ (by omega)) limV (by have := VT.out; omega) HX.out HBV.out).mono ?_
      rintro e w5 ⟨q, rfl, q1, q2, q3, hS⟩
      rw [VV.out] at q2 q3
      have oR5 := oR.sm hS
      have rV5 := rV.sm hS
      go_wp2_with fail
      rw [show m + 3 = m + 2 + 1 from rfl]
      refine (takeOff_any w.heap.size t (m + 2) (n1 + 1) (n1 + 1 - t) w1.heap.size 0 (m + 2 + 1) q R O _ (by omega) (by omega) (by omega) (by omega) q1 (by omega) oR5 hL.lim rV5 limV (by omega)).mono ?_
      rintro e w6 ⟨S, mm, rfl, mle, oS, limS, outS, valS, hW⟩
      rw [VV.out] at valS
      have hVW : lv g (m + 2) * d < 1000000000 ^ (m + 2 + 1) := Nat.lt_of_lt_of_le HDHI.out (Nat.pow_le_pow_right (by omega) (by omega))
      have hsl : lv (sh S t) (m + 2 + 1) < 1000000000 ^ (m + 2 + 1) := lv_lt fun i hi => limS _ (by omega)
      obtain ⟨z0, z1⟩ := round_q hVpos q2 q3 hsl hVW mle valS
      have Z0 : Hid _ := z0
      have Z1 : Hid _ := z1
      have Q2 : Hid _ := q2
      have Q3 : Hid _ := q3
      have VS : Hid _ := valS
      have VW : Hid _ := hVW
      have SL : Hid _ := hsl
      clear z0 z1 q2 q3 valS hVW hsl
      have oK6 := (oK.sm hS).kept hW (by omega)
      have oV6 := (oV.sm hS).kept hW (by omega)
      have rV6 := rV5.kept hW (by omega)
      have hB6 := (hB.trans (hS.below _)).trans (hW.below (Nat.le_refl _))
      rcases Nat.eq_zero_or_pos mm with cm | cm
      · subst cm
        obtain ⟨y1, y2⟩ := Z0.out rfl
        have hcl := oK6.cell t (by omega)
        have hfz := oK6.frz t
        have hnew := hL.step (S := S) hVpos HDHI.out (by omega) (by omega) limS outS y2
        rw [← y1] at hnew
        have NEW : Hid _ := hnew
        clear y1 y2 hnew
        have oK7 := oK6.store (j := t) (by omega) q
        have wK : Wr w6 (w6.setCell ⟨w3.heap.size, t, none⟩ (.int .i64 (q : Nat))) w3.heap.size := (Wr.refl _ _).setCell _ _
        have oS7 := oS.kept wK (by omega)
        have oV7 := oV6.kept wK (by omega)
        rw [show decide ((0 : Nat) = 1) = false from rfl]
        go_wp2
        go_roundw
        case rel =>
          refine ⟨t, S, _, by omega, ?_, oS7, oV7, oK7, NEW.out, hB6.setCell (p := ⟨w3.heap.size, t, none⟩) (by show w.heap.size ≤ w3.heap.size; omega) _⟩
          rcases Nat.eq_zero_or_pos t with e | e
          · exact Or.inl ⟨e, by subst e; rfl⟩
          · exact Or.inr ⟨t - 1, by omega, by go_num⟩
        case measure => simp [intOf]
      · have cm1 : mm = 1 := by omega
        subst cm1
        have y1 := Z1.out rfl
        have Y1 : Hid _ := y1
        clear y1
        have hq1 : 1 ≤ q := Nat.le_trans (Nat.le_add_left 1 _) (Nat.le_of_eq Y1.out.symm)
        rw [show decide ((1 : Nat) = 1) = true from rfl]
        go_wp2_with fail
        rw [show m + 3 = m + 2 + 1 from rfl]
        refine (putBack_any w.heap.size t (m + 2) (n1 + 1) (n1 + 1 - t) w1.heap.size 0 (m + 2 + 1) S O _ (by omega) (by omega) (by omega) (by omega) (by omega) oS limS rV6 limV (by omega)).mono ?_
        rintro e w7 ⟨Z, c, rfl, oZ, limZ, outZ, valZ, hW7⟩
        rw [VV.out] at valZ
        have hzl : lv (sh Z t) (m + 2 + 1) < 1000000000 ^ (m + 2 + 1) := lv_lt fun i hi => limZ _ (by omega)
        have y2 := round_back hVpos Y1.out VW.out hzl VS.out valZ
        have oK7 := oK6.kept hW7 (by omega)
        have oV7 := oV6.kept hW7 (by omega)
        have hB7 := hB6.trans (hW7.below (Nat.le_refl _))
        have hcl := oK7.cell t (by omega)
        have hfz := oK7.frz t
        have hnew := hL.step (S := Z) hVpos HDHI.out (by omega) (by omega) limZ (fun i hi => by rw [outZ i hi, outS i hi]) y2
        have hqe : lv (sh R t) (m + 2 + 1) / (lv g (m + 2) * d) = q - 1 := Nat.eq_sub_of_add_eq Y1.out.symm
        rw [hqe] at hnew
        have NEW : Hid _ := hnew
        clear y2 hnew hqe valZ hzl
        have oK8 := oK7.store (j := t) (by omega) (q - 1)
        have wK : Wr w7 (w7.setCell ⟨w3.heap.size, t, none⟩ (.int .i64 ((q - 1 : Nat) : Int))) w3.heap.size := (Wr.refl _ _).setCell _ _
        have oZ8 := oZ.kept wK (by omega)
        have oV8 := oV7.kept wK (by omega)
        have hqi : (q : Int) - 1 = ((q - 1 : Nat) : Int) := by omega
        go_wp2
        go_roundw
        case rel =>
          refine ⟨t, Z, _, by omega, ?_, oZ8, oV8, oK8, NEW.out, hB7.setCell (p := ⟨w3.heap.size, t, none⟩) (by show w.heap.size ≤ w3.heap.size; omega) _⟩
          rcases Nat.eq_zero_or_pos t with e | e
          · exact Or.inl ⟨e, by subst e; rfl⟩
          · exact Or.inr ⟨t - 1, by omega, by go_num⟩
        case measure => simp [intOf]
end
end Go.Proofs.YtadgnafafdfioaaGreatDoor
namespace Go.Proofs.YtadgnafafdfioaaGreatDoor
section
set_option maxRecDepth 100000
open Go.RowKit Nm
set_option linter.unusedVariables false

set_option maxHeartbeats 1000000 in
theorem divide_long (b1 n1 c1 b2 m c2 : Nat) (f g : Nat → Nat) (w : World) (hn1 : n1 ≤ 500000) (h1 : Rw w b1 0 f n1) (h2 : Rw w b2 0 g (m + 2)) (hf : Nrm f n1) (hg : Nrm g (m + 2)) (hle : lv g (m + 2) ≤ lv f n1) :
    Calls Tryz.prog 113 #[.slice (some ⟨b1, 0, none⟩) n1 c1, .slice (some ⟨b2, 0, none⟩) (m + 2) c2] w fun e w' => Quo w (lv f n1) (lv g (m + 2)) e w' := by
  have hsg : ¬ sg (lv f n1 : Nat) (lv g (m + 2) : Nat) < 0 := sg_nonneg (by omega)
  have h12 : m + 2 ≤ n1 := hg.len_le hf hle
  have hne : (((m : Int) + 2) == 1) = false := by simp; omega
  go_enter Tryz.func113, Tryz.ntmps113
  go_wp2_with fail
  refine (compare_any b1 0 n1 c1 b2 0 (m + 2) c2 f g _ (by omega) (by omega) h1 h2 hf hg).mono ?_
  rintro e w1 ⟨rfl, hS⟩
  have h1' := h1.sm hS
  have h2' := h2.sm hS
  go_wp2_with fail
  refine (divideLong_any b1 n1 c1 b2 m c2 f g _ hn1 h1' h2' hf hg hle).mono ?_
  rintro e w2 ⟨ao, m3, c3, q, g4, n, c4, r, rfl, hq, hqn, hqv, hm, hO, hnc, hrn, hrv, hn, hg4, hB, hSh⟩
  go_wp2
  go_ret2
  exact ⟨ao, m3, c3, q, g4, n, c4, r, rfl, hq, hqn, hqv, hm, hO, hnc, hrn, hrv, hn, by rw [← hS.heap]; exact hg4, (hS.below w.heap.size).trans (hB.mono (by rw [hS.heap]; exact Nat.le_refl _)), hSh⟩

theorem divide_any (b1 n1 c1 b2 n2 c2 : Nat) (f g : Nat → Nat) (w : World) (hn1 : n1 ≤ 500000) (hn2 : n2 ≤ 500000) (h1 : Rw w b1 0 f n1) (h2 : Rw w b2 0 g n2) (hf : Nrm f n1) (hg : Nrm g n2) (h0 : 0 < lv g n2) :
    Calls Tryz.prog 113 #[.slice (some ⟨b1, 0, none⟩) n1 c1, .slice (some ⟨b2, 0, none⟩) n2 c2] w fun e w' => Quo w (lv f n1) (lv g n2) e w' := by
  by_cases hlt : lv f n1 < lv g n2
  · exact divide_lt b1 0 n1 c1 b2 0 n2 c2 f g w (by omega) (by omega) h1 h2 hf hg hlt
  · rcases Nat.lt_trichotomy n2 1 with c | c | c
    · have : n2 = 0 := by omega
      subst this; simp [lv] at h0
    · subst c; exact divide_one b1 0 n1 c1 b2 0 c2 f g w (by omega) h1 h2 hf hg (by omega)
    · obtain ⟨m, rfl⟩ : ∃ m, n2 = m + 2 := ⟨n2 - 2, by omega⟩
      exact divide_long b1 n1 c1 b2 m c2 f g w hn1 h1 h2 hf hg (by omega)

end
end Go.Proofs.YtadgnafafdfioaaGreatDoor
