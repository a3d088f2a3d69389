/-
  MANY STEPS OF EUCLID'S AT ONCE: what a call of stepsOf and none gives. Conditions: the numbers have at most 18 digits.
-/
import Derived.Test.YtpmnfgbbkmodpaaGreatDoorLead
namespace Go.Proofs.YtpmnfgbbkmodpaaGreatDoor
set_option maxRecDepth 100000
open Go.RowKit Nm
set_option linter.unusedVariables false

/-- four numbers in a block -/
structure M4 (w : World) (b : Nat) (a c d e : Int) : Prop where
  c0 : w.cell? ⟨b, 0, none⟩ = some (.int .i64 a)
  c1 : w.cell? ⟨b, 1, none⟩ = some (.int .i64 c)
  c2 : w.cell? ⟨b, 2, none⟩ = some (.int .i64 d)
  c3 : w.cell? ⟨b, 3, none⟩ = some (.int .i64 e)
  frz : ∀ i, w.frozen? ⟨b, i, none⟩ = false

def set4 (w : World) (b : Nat) (a c d e : Int) : World := (((w.setCell ⟨b, 0, none⟩ (.int .i64 a)).setCell ⟨b, 1, none⟩ (.int .i64 c)).setCell ⟨b, 2, none⟩ (.int .i64 d)).setCell ⟨b, 3, none⟩ (.int .i64 e)

theorem cell_other (w : World) (b i j : Nat) (v : Value) (h : i ≠ j) : (w.setCell ⟨b, i, none⟩ v).cell? ⟨b, j, none⟩ = w.cell? ⟨b, j, none⟩ :=
  World.cell?_setCell_other _ _ _ _ (by intro x; injection x with _ h2; exact h h2)

theorem M4.set {w : World} {b : Nat} {p q r s : Int} (h : M4 w b p q r s) (a c d e : Int) : M4 (set4 w b a c d e) b a c d e := by
  unfold set4
  have k1 : (w.setCell ⟨b, 0, none⟩ (.int .i64 a)).cell? ⟨b, 1, none⟩ = some (.int .i64 q) := by rw [cell_other _ _ _ _ _ (by omega)]; exact h.c1
  have k2 : ((w.setCell ⟨b, 0, none⟩ (.int .i64 a)).setCell ⟨b, 1, none⟩ (.int .i64 c)).cell? ⟨b, 2, none⟩ = some (.int .i64 r) := by rw [cell_other _ _ _ _ _ (by omega), cell_other _ _ _ _ _ (by omega)]; exact h.c2
  have k3 : (((w.setCell ⟨b, 0, none⟩ (.int .i64 a)).setCell ⟨b, 1, none⟩ (.int .i64 c)).setCell ⟨b, 2, none⟩ (.int .i64 d)).cell? ⟨b, 3, none⟩ = some (.int .i64 s) := by rw [cell_other _ _ _ _ _ (by omega), cell_other _ _ _ _ _ (by omega), cell_other _ _ _ _ _ (by omega)]; exact h.c3
  refine ⟨?_, ?_, ?_, ?_, fun i => ?_⟩
  · rw [cell_other _ _ _ _ _ (by omega), cell_other _ _ _ _ _ (by omega), cell_other _ _ _ _ _ (by omega)]; exact World.cell?_setCell_same _ _ _ h.c0
  · rw [cell_other _ _ _ _ _ (by omega), cell_other _ _ _ _ _ (by omega)]; exact World.cell?_setCell_same _ _ _ k1
  · rw [cell_other _ _ _ _ _ (by omega)]; exact World.cell?_setCell_same _ _ _ k2
  · exact World.cell?_setCell_same _ _ _ k3
  · rw [World.frozen?_setCell, World.frozen?_setCell, World.frozen?_setCell, World.frozen?_setCell]; exact h.frz i

theorem wr_set4 (w : World) (b : Nat) (a c d e : Int) : Wr w (set4 w b a c d e) b := ((((Wr.refl w b).setCell _ _).setCell _ _).setCell _ _).setCell _ _

theorem M4.kept {w w' : World} {b k : Nat} {p q r s : Int} (h : M4 w b p q r s) (hw : Wr w w' k) (hk : b ≠ k) : M4 w' b p q r s :=
  ⟨by rw [World.cell?_of_block (w := w) (hw.block b hk)]; exact h.c0, by rw [World.cell?_of_block (w := w) (hw.block b hk)]; exact h.c1, by rw [World.cell?_of_block (w := w) (hw.block b hk)]; exact h.c2, by rw [World.cell?_of_block (w := w) (hw.block b hk)]; exact h.c3, fun i => by rw [World.frozen?_of_block (w := w) (hw.block b hk)]; exact h.frz i⟩

/-- what comes out of the steps: none, or an even or odd number of them -/
def Mix (X Y : Nat) (a b c d : Int) : Prop :=
  (a = 1 ∧ b = 0 ∧ c = 0 ∧ d = 1) ∨
  ∃ x y p r s t : Nat, 1 ≤ r ∧ p < 1000000000 ∧ r < 1000000000 ∧ s < 1000000000 ∧ t < 1000000000 ∧
    ((a = p ∧ b = -(r : Int) ∧ c = -(s : Int) ∧ d = t ∧ Ev x y p r s t X Y) ∨ (a = -(p : Int) ∧ b = r ∧ c = s ∧ d = -(t : Int) ∧ Ev x y r p t s Y X))

/-- the state in the loop: the numbers that are left, and the factors -/
def St (X Y x y : Nat) (a b c d : Int) : Prop :=
  (a = 1 ∧ b = 0 ∧ c = 0 ∧ d = 1 ∧ x = X ∧ y = Y) ∨
  ∃ p r s t : Nat, 1 ≤ r ∧ p < 1000000000 ∧ r < 1000000000 ∧ s < 1000000000 ∧ t < 1000000000 ∧
    ((a = p ∧ b = -(r : Int) ∧ c = -(s : Int) ∧ d = t ∧ Ev x y p r s t X Y) ∨ (a = -(p : Int) ∧ b = r ∧ c = s ∧ d = -(t : Int) ∧ Ev x y r p t s Y X))

theorem St.mix {X Y x y : Nat} {a b c d : Int} (h : St X Y x y a b c d) : Mix X Y a b c d := by
  rcases h with ⟨h1, h2, h3, h4, _⟩ | ⟨p, r, s, t, h1, h2, h3, h4, h5, h6⟩
  · exact Or.inl ⟨h1, h2, h3, h4⟩
  · exact Or.inr ⟨x, y, p, r, s, t, h1, h2, h3, h4, h5, h6⟩

/-- what a round needs of the state: both divisors are from 0 on, and what the step gives -/
theorem St.round {X Y x y : Nat} {a b c d : Int} (h : St X Y x y a b c d) (hX : X < 1000000000000000000) (hYX : Y ≤ X) :
    x < 1000000000000000000 ∧ y ≤ x ∧ 0 ≤ (y : Int) + c ∧ 0 ≤ (y : Int) + d ∧ 0 ≤ (x : Int) + a ∧ 0 ≤ (x : Int) + b ∧ -1000000000 ≤ a ∧ a ≤ 1000000000 ∧ -1000000000 ≤ b ∧ b ≤ 1000000000 ∧ -1000000000 ≤ c ∧ c ≤ 1000000000 ∧ -1000000000 ≤ d ∧ d ≤ 1000000000 ∧
    ((y : Int) + c ≠ 0 → (y : Int) + d ≠ 0 → ((x : Int) + a) / ((y : Int) + c) = ((x : Int) + b) / ((y : Int) + d) →
      ∃ q z : Nat, ((x : Int) + a) / ((y : Int) + c) = (q : Int) ∧ (x : Int) - (q : Int) * (y : Int) = (z : Int) ∧ (q * y ≤ x) ∧ -1000000000 ≤ (q : Int) * c ∧ (q : Int) * c ≤ 1000000000 ∧ -1000000000 ≤ (q : Int) * d ∧ (q : Int) * d ≤ 1000000000 ∧ z < y ∧ St X Y y z c d (a - (q : Int) * c) (b - (q : Int) * d)) := by
  have even : ∀ p r s t : Nat, p < 1000000000 → r < 1000000000 → s < 1000000000 → t < 1000000000 → X = t * x + r * y → Y = s * x + p * y → p * t = r * s + 1 → s ≤ y → y ≤ x → r ≤ x → (1 ≤ s ∨ 1 ≤ p) → 1 ≤ t → x < 1000000000000000000 → a = p → b = -(r : Int) → c = -(s : Int) → d = t →
      ((y : Int) + c ≠ 0 → (y : Int) + d ≠ 0 → ((x : Int) + a) / ((y : Int) + c) = ((x : Int) + b) / ((y : Int) + d) →
      ∃ q z : Nat, ((x : Int) + a) / ((y : Int) + c) = (q : Int) ∧ (x : Int) - (q : Int) * (y : Int) = (z : Int) ∧ (q * y ≤ x) ∧ -1000000000 ≤ (q : Int) * c ∧ (q : Int) * c ≤ 1000000000 ∧ -1000000000 ≤ (q : Int) * d ∧ (q : Int) * d ≤ 1000000000 ∧ z < y ∧ St X Y y z c d (a - (q : Int) * c) (b - (q : Int) * d)) := by
    intro p r s t bp br bs bt ex ey det lo hyx hrx hsp ht hxb ea eb ec ed n1 n2 he
    subst ea eb ec ed
    have i1 : (y : Int) + -(s : Int) = ((y - s : Nat) : Int) := by omega
    have i2 : (x : Int) + -(r : Int) = ((x - r : Nat) : Int) := by omega
    rw [i1] at n1 he ⊢
    rw [i2] at he
    have i3 : ((x : Int) + (p : Int)) / ((y - s : Nat) : Int) = (((x + p) / (y - s) : Nat) : Int) := by simp
    have i4 : ((x - r : Nat) : Int) / ((y : Int) + (t : Int)) = (((x - r) / (y + t) : Nat) : Int) := by simp
    rw [i3, i4] at he
    have hq : (x - r) / (y + t) = (x + p) / (y - s) := (Int.ofNat_inj.1 he).symm
    obtain ⟨hev, hqx⟩ := ev_step ex ey det lo hyx hrx hsp ht (by omega) rfl hq
    generalize (x + p) / (y - s) = q at *
    have hb := hev.bounds (by omega) hX
    have hpl := hev.hi
    have k1 : (q : Int) * -(s : Int) = -((q * s : Nat) : Int) := by rw [Int.mul_neg]; simp
    have k2 : (q : Int) * (t : Int) = ((q * t : Nat) : Int) := by simp
    have k3 : (q : Int) * (y : Int) = ((q * y : Nat) : Int) := by simp
    refine ⟨q, x - q * y, i3, by rw [k3]; omega, hqx, by rw [k1]; omega, by rw [k1]; omega, by rw [k2]; omega, by rw [k2]; omega, by omega, Or.inr ⟨s, t, p + q * s, r + q * t, ht, bs, bt, by omega, by omega, Or.inr ⟨rfl, rfl, ?_, ?_, hev⟩⟩⟩
    · rw [k1]; simp
    · rw [k2]; simp; omega
  have odd : ∀ p r s t : Nat, p < 1000000000 → r < 1000000000 → s < 1000000000 → t < 1000000000 → Ev x y r p t s Y X → a = -(p : Int) → b = r → c = s → d = -(t : Int) →
      ((y : Int) + c ≠ 0 → (y : Int) + d ≠ 0 → ((x : Int) + a) / ((y : Int) + c) = ((x : Int) + b) / ((y : Int) + d) →
      ∃ q z : Nat, ((x : Int) + a) / ((y : Int) + c) = (q : Int) ∧ (x : Int) - (q : Int) * (y : Int) = (z : Int) ∧ (q * y ≤ x) ∧ -1000000000 ≤ (q : Int) * c ∧ (q : Int) * c ≤ 1000000000 ∧ -1000000000 ≤ (q : Int) * d ∧ (q : Int) * d ≤ 1000000000 ∧ z < y ∧ St X Y y z c d (a - (q : Int) * c) (b - (q : Int) * d)) := by
    intro p r s t bp br bs bt hv ea eb ec ed n1 n2 he
    subst ea eb ec ed
    have hlo := hv.lo
    have hhi := hv.hi
    have i1 : (y : Int) + -(t : Int) = ((y - t : Nat) : Int) := by omega
    have i2 : (x : Int) + -(p : Int) = ((x - p : Nat) : Int) := by omega
    rw [i1] at n2 he
    rw [i2] at he ⊢
    have i3 : ((x - p : Nat) : Int) / ((y : Int) + (s : Int)) = (((x - p) / (y + s) : Nat) : Int) := by simp
    have i4 : ((x : Int) + (r : Int)) / ((y - t : Nat) : Int) = (((x + r) / (y - t) : Nat) : Int) := by simp
    rw [i3, i4] at he
    have hq : (x + r) / (y - t) = (x - p) / (y + s) := (Int.ofNat_inj.1 he).symm
    obtain ⟨hev, hqx⟩ := ev_step hv.ex hv.ey hv.det hv.lo (by omega) (by omega) (Or.inl hv.s1) hv.t1 (by omega) hq rfl
    generalize (x - p) / (y + s) = q at *
    have hb := hev.bounds hX (by omega)
    have hpl := hev.hi
    have k1 : (q : Int) * -(t : Int) = -((q * t : Nat) : Int) := by rw [Int.mul_neg]; simp
    have k2 : (q : Int) * (s : Int) = ((q * s : Nat) : Int) := by simp
    have k3 : (q : Int) * (y : Int) = ((q * y : Nat) : Int) := by simp
    refine ⟨q, x - q * y, i3, by rw [k3]; omega, hqx, by rw [k2]; omega, by rw [k2]; omega, by rw [k1]; omega, by rw [k1]; omega, by omega, Or.inr ⟨s, t, p + q * s, r + q * t, hv.s1, bs, bt, by omega, by omega, Or.inl ⟨rfl, rfl, ?_, ?_, hev⟩⟩⟩
    · rw [k2]; simp; omega
    · rw [k1]; simp
  rcases h with ⟨ea, eb, ec, ed, rfl, rfl⟩ | ⟨p, r, s, t, hr1, bp, br, bs, bt, ⟨ea, eb, ec, ed, hv⟩ | ⟨ea, eb, ec, ed, hv⟩⟩
  · have h := even 1 0 0 1 (by omega) (by omega) (by omega) (by omega) (by omega) (by omega) (by omega) (by omega) hYX (by omega) (Or.inr (by omega)) (by omega) hX (by rw [ea]; rfl) (by rw [eb]; rfl) (by rw [ec]; rfl) (by rw [ed]; rfl)
    refine ⟨hX, hYX, ?_, ?_, ?_, ?_, ?_, ?_, ?_, ?_, ?_, ?_, ?_, ?_, h⟩ <;> omega
  · have hb := hv.bounds hX (by omega)
    have hlo := hv.lo
    have hhi := hv.hi
    have h := even p r s t bp br bs bt hv.ex hv.ey hv.det hv.lo (by omega) (by omega) (Or.inl hv.s1) hv.t1 hb.2.2.1 ea eb ec ed
    refine ⟨hb.2.2.1, by omega, ?_, ?_, ?_, ?_, ?_, ?_, ?_, ?_, ?_, ?_, ?_, ?_, h⟩ <;> omega
  · have hb := hv.bounds (by omega) hX
    have hlo := hv.lo
    have hhi := hv.hi
    have h := odd p r s t bp br bs bt hv ea eb ec ed
    refine ⟨hb.2.2.1, by omega, ?_, ?_, ?_, ?_, ?_, ?_, ?_, ?_, ?_, ?_, ?_, ?_, h⟩ <;> omega

set_option maxHeartbeats 1000000 in
theorem none_any (a b c d : Int) (w : World) : Calls Tryz.prog 121 #[.agg #[.int .i64 a, .int .i64 b, .int .i64 c, .int .i64 d]] w fun e w' => e = .returned (.bool (b == 0)) ∧ Below w.heap.size w w' := by
  go_enter Tryz.func121, Tryz.ntmps121
  go_wp2
  go_ret
  exact ⟨rfl, (Below.refl _ _).alloc (Nat.le_refl _) _⟩

set_option maxRecDepth 100000 in
set_option maxHeartbeats 1000000 in
theorem stepsOf_any (X Y : Nat) (w : World) (hX : X < 1000000000000000000) (hYX : Y ≤ X) :
    Calls Tryz.prog 119 #[.int .i64 X, .int .i64 Y] w fun e w' => ∃ a b c d : Int, e = .returned (.agg #[.int .i64 a, .int .i64 b, .int .i64 c, .int .i64 d]) ∧ Mix X Y a b c d ∧ Below w.heap.size w w' := by
  go_enter Tryz.func119, Tryz.ntmps119
  go_wp2_with fail
  go_loopw [0, 1] (fun x y wr => ∃ (u v : Nat) (a b c d : Int), x = .int .i64 (u : Nat) ∧ y = .int .i64 (v : Nat) ∧ M4 wr (w.heap.size + 1) a b c d ∧ M4 wr w.heap.size 0 0 0 0 ∧ St X Y u v a b c d ∧ Below w.heap.size w wr ∧ w.heap.size + 1 < wr.heap.size) (fun _ y _ => (intOf y).toNat)
  case atStart =>
    refine ⟨X, Y, 1, 0, 0, 1, rfl, rfl, ?_, ?_, Or.inl ⟨rfl, rfl, rfl, rfl, rfl, rfl⟩, ((Below.refl _ _).alloc (Nat.le_refl _) _).alloc (by simp) _, by simp⟩
    · constructor <;> simp [go_sem]
    · constructor <;> simp [go_sem]
  case round =>
    obtain ⟨u, v, a, b, c, d, rfl, rfl, hM, hZ, hSt, hB, hsz⟩ := hrel
    obtain ⟨r1, r2, r3, r4, r5, r6, r7, r8, r9, r10, r11, r12, r13, r14, hstep⟩ := hSt.round hX hYX
    have HST : Hid _ := hSt
    have HSTEP : Hid _ := hstep
    clear hSt hstep
    have HM : Hid _ := hM
    have HZ : Hid _ := hZ
    obtain ⟨m0, m1, m2, m3, mf⟩ := hM
    obtain ⟨z0, z1, z2, z3, zf⟩ := hZ
    have mf0 := mf 0
    have mf1 := mf 1
    have mf2 := mf 2
    have mf3 := mf 3
    have zf0 := zf 0
    have zf1 := zf 1
    have zf2 := zf 2
    have zf3 := zf 3
    clear mf zf
    by_cases c1 : (v : Int) + c = 0
    · have b1 : (((v : Int) + c) != 0) = false := by simp [c1]
      have C1 : Hid _ := c1
      clear c1
      go_wp2
      have hw4 := wr_set4 wr w.heap.size a b c d
      obtain ⟨n0, n1, n2, n3, _⟩ := HZ.out.set a b c d
      unfold set4 at n0 n1 n2 n3
      refine bodyPost_ret (v := .agg #[.int .i64 a, .int .i64 b, .int .i64 c, .int .i64 d]) ?_ rfl ⟨a, b, c, d, rfl, St.mix HST.out, hB.trans (hw4.below (Nat.le_refl _))⟩
      simp [results, Tryz.results119, go_sem, n0, n1, n2, n3]
    · have b1 : (((v : Int) + c) != 0) = true := by rw [bne_iff_ne]; exact c1
      by_cases c2 : (v : Int) + d = 0
      · have b2 : (((v : Int) + d) != 0) = false := by simp [c2]
        have C2 : Hid _ := c2
        clear c2
        go_wp2
        have hw4 := wr_set4 wr w.heap.size a b c d
        obtain ⟨n0, n1, n2, n3, _⟩ := HZ.out.set a b c d
        unfold set4 at n0 n1 n2 n3
        refine bodyPost_ret (v := .agg #[.int .i64 a, .int .i64 b, .int .i64 c, .int .i64 d]) ?_ rfl ⟨a, b, c, d, rfl, St.mix HST.out, hB.trans (hw4.below (Nat.le_refl _))⟩
        simp [results, Tryz.results119, go_sem, n0, n1, n2, n3]
      · have b2 : (((v : Int) + d) != 0) = true := by rw [bne_iff_ne]; exact c2
        by_cases c3 : ((u : Int) + a) / ((v : Int) + c) = ((u : Int) + b) / ((v : Int) + d)
        · obtain ⟨q, z, k1, k2, k3, k4, k5, k6, k7, k8, k9⟩ := HSTEP.out c1 c2 c3
          have hv1 : (1 : Int) ≤ (v : Int) + c := by omega
          have hv2 : (1 : Int) ≤ (v : Int) + d := by omega
          have k1' : ((u : Int) + b) / ((v : Int) + d) = (q : Int) := by rw [← c3]; exact k1
          have K9 : Hid _ := k9
          have q0 : (0 : Int) ≤ (q : Int) * (v : Int) := Int.mul_nonneg (by omega) (by omega)
          have q1 : (q : Int) * (v : Int) ≤ 1000000000000000000 := by
            have : ((q * v : Nat) : Int) ≤ (u : Int) := Int.ofNat_le.2 k3
            rw [Int.natCast_mul] at this; omega
          clear c3 k9
          go_wp2
          go_roundw
          case rel =>
            have hw4 := wr_set4 wr (w.heap.size + 1) c d (a - (q : Int) * c) (b - (q : Int) * d)
            refine ⟨v, z, c, d, _, _, rfl, rfl, HM.out.set c d _ _, HZ.out.kept hw4 (by omega), K9.out, hB.trans (hw4.below (by omega)), Nat.lt_of_lt_of_eq hsz hw4.size.symm⟩
          case measure => simp [intOf]; omega
        · have b3 : ((((u : Int) + a) / ((v : Int) + c)) != (((u : Int) + b) / ((v : Int) + d))) = true := by rw [bne_iff_ne]; exact c3
          have hv1 : (1 : Int) ≤ (v : Int) + c := by omega
          have hv2 : (1 : Int) ≤ (v : Int) + d := by omega
          go_wp2
          have hw4 := wr_set4 wr w.heap.size a b c d
          obtain ⟨n0, n1, n2, n3, _⟩ := HZ.out.set a b c d
          unfold set4 at n0 n1 n2 n3
          refine bodyPost_ret (v := .agg #[.int .i64 a, .int .i64 b, .int .i64 c, .int .i64 d]) ?_ rfl ⟨a, b, c, d, rfl, St.mix HST.out, hB.trans (hw4.below (Nat.le_refl _))⟩
          simp [results, Tryz.results119, go_sem, n0, n1, n2, n3]
end Go.Proofs.YtpmnfgbbkmodpaaGreatDoor
