/-
  THE EXPORTED CALLS OF PACKAGE rat. Conditions: each theorem's own.
-/
import Derived.Test.YtfblgaffkflenaaGreatDoorBoth
import Derived.Test.YtfblgaffkflenaaGreatDoorMix
namespace Go.Proofs.YtfblgaffkflenaaGreatDoor
section
set_option maxRecDepth 100000
open Go.RowKit Nm
set_option linter.unusedVariables false

end
end Go.Proofs.YtfblgaffkflenaaGreatDoor
namespace Go.Proofs.YtfblgaffkflenaaGreatDoor
section
set_option maxRecDepth 100000
open Go.RowKit Nm
set_option linter.unusedVariables false

/-- a fraction, the answer's place and a power of it, in three blocks of the call's own -/
structure Pw (w v : World) (x1 x2 a b : ByteArray) : Prop where
  c0 : v.cell? ⟨w.heap.size, 0, none⟩ = some (.string x1)
  c1 : v.cell? ⟨w.heap.size, 1, none⟩ = some (.string x2)
  z0 : v.cell? ⟨w.heap.size + 1, 0, none⟩ = some (.string ⟨#[]⟩)
  z1 : v.cell? ⟨w.heap.size + 1, 1, none⟩ = some (.string ⟨#[]⟩)
  p0 : v.cell? ⟨w.heap.size + 1 + 1, 0, none⟩ = some (.string a)
  p1 : v.cell? ⟨w.heap.size + 1 + 1, 1, none⟩ = some (.string b)
  g0 : v.frozen? ⟨w.heap.size + 1, 0, none⟩ = false
  g1 : v.frozen? ⟨w.heap.size + 1, 1, none⟩ = false
  f0 : v.frozen? ⟨w.heap.size + 1 + 1, 0, none⟩ = false
  f1 : v.frozen? ⟨w.heap.size + 1 + 1, 1, none⟩ = false
  B : Below w.heap.size w v
theorem frozen_below {w v : World} (h : Below w.heap.size w v) {a : Addr} (hl : a.block < w.heap.size) (e : w.frozen? a = false) : v.frozen? a = false := by
  have := h.block a.block hl
  rw [← e]; unfold World.frozen?; rw [this]
theorem Pw.below {w v u : World} {x1 x2 a b : ByteArray} (h : Pw w v x1 x2 a b) (k : Below v.heap.size v u) : Pw w u x1 x2 a b :=
  ⟨cell_below k h.c0, cell_below k h.c1, cell_below k h.z0, cell_below k h.z1, cell_below k h.p0, cell_below k h.p1,
    frozen_below k (lt_of_cell h.z0) h.g0, frozen_below k (lt_of_cell h.z1) h.g1, frozen_below k (lt_of_cell h.p0) h.f0, frozen_below k (lt_of_cell h.p1) h.f1, bl_trans h.B k⟩
theorem Pw.set0 {w v : World} {x1 x2 a b : ByteArray} (h : Pw w v x1 x2 a b) (c : ByteArray) : Pw w (v.setCell ⟨w.heap.size + 1 + 1, 0, none⟩ (.string c)) x1 x2 c b := by
  obtain ⟨c0, c1, z0, z1, p0, p1, g0, g1, f0, f1, B⟩ := h
  refine ⟨?_, ?_, ?_, ?_, World.cell?_setCell_same _ _ _ p0, ?_, by rw [World.frozen?_setCell]; exact g0, by rw [World.frozen?_setCell]; exact g1, by rw [World.frozen?_setCell]; exact f0, by rw [World.frozen?_setCell]; exact f1, B.setCell (by simp; omega) _⟩
  · rw [World.cell?_setCell_other _ _ _ _ (by intro h; injection h with h1; omega)]; exact c0
  · rw [World.cell?_setCell_other _ _ _ _ (by intro h; injection h with h1; omega)]; exact c1
  · rw [World.cell?_setCell_other _ _ _ _ (by intro h; injection h with h1; omega)]; exact z0
  · rw [World.cell?_setCell_other _ _ _ _ (by intro h; injection h with h1; omega)]; exact z1
  · rw [World.cell?_setCell_other _ _ _ _ (by intro h; injection h with h1 h2; omega)]; exact p1
theorem Pw.set1 {w v : World} {x1 x2 a b : ByteArray} (h : Pw w v x1 x2 a b) (c : ByteArray) : Pw w (v.setCell ⟨w.heap.size + 1 + 1, 1, none⟩ (.string c)) x1 x2 a c := by
  obtain ⟨c0, c1, z0, z1, p0, p1, g0, g1, f0, f1, B⟩ := h
  refine ⟨?_, ?_, ?_, ?_, ?_, World.cell?_setCell_same _ _ _ p1, by rw [World.frozen?_setCell]; exact g0, by rw [World.frozen?_setCell]; exact g1, by rw [World.frozen?_setCell]; exact f0, by rw [World.frozen?_setCell]; exact f1, B.setCell (by simp; omega) _⟩
  · rw [World.cell?_setCell_other _ _ _ _ (by intro h; injection h with h1; omega)]; exact c0
  · rw [World.cell?_setCell_other _ _ _ _ (by intro h; injection h with h1; omega)]; exact c1
  · rw [World.cell?_setCell_other _ _ _ _ (by intro h; injection h with h1; omega)]; exact z0
  · rw [World.cell?_setCell_other _ _ _ _ (by intro h; injection h with h1; omega)]; exact z1
  · rw [World.cell?_setCell_other _ _ _ _ (by intro h; injection h with h1 h2; omega)]; exact p0

theorem tl_pow (n k m : Nat) (h : tl n ≤ m) (hm : 1 ≤ m) : tl (n ^ k) ≤ k * m + 1 := by
  induction k with
  | zero => simp; exact tl_small (by omega)
  | succ k ih =>
    have := tl_mul (n ^ k) n
    rw [Nat.pow_succ]
    rw [Nat.succ_mul]
    omega

set_option maxHeartbeats 4000000 in
theorem raised_raw (p r : Int) (n : Nat) (w : World) (hn : n ≤ 6) (hp : tl p.natAbs ≤ 25000) (hr : tl r.natAbs ≤ 25000) :
    Calls Tryz.prog 62 #[.agg #[.string (W p), .string (W r)], .int .i64 (n : Int)] w fun e w' => e = .returned (.tuple #[.agg #[.string (W (p ^ n)), .string (W (r ^ n))], .nilIface]) ∧ Below w.heap.size w w' := by
  have HP : Hid _ := hp
  have HR : Hid _ := hr
  clear hp hr
  have W1 : W 1 = ⟨#[49]⟩ := by rw [show (1 : Int) = ((1 : Nat) : Int) from rfl, W_nat, S1]
  have start : Pw w (((w.alloc (.cells #[.string (W p), .string (W r)] 75)).alloc (.cells #[.string ⟨#[]⟩, .string ⟨#[]⟩] 75)).alloc (.cells #[.string ⟨#[49]⟩, .string ⟨#[49]⟩] 75)) (W p) (W r) (W (p ^ 0)) (W (r ^ 0)) := by
    have K := own3 (Below.refl (((w.alloc (.cells #[.string (W p), .string (W r)] 75)).alloc (.cells #[.string ⟨#[]⟩, .string ⟨#[]⟩] 75)).alloc (.cells #[.string ⟨#[49]⟩, .string ⟨#[49]⟩] 75)).heap.size _)
    have K2 := own2 (w := w) (bl_alloc (Below.refl ((w.alloc (.cells #[.string (W p), .string (W r)] 75)).alloc (.cells #[.string ⟨#[]⟩, .string ⟨#[]⟩] 75)).heap.size _) (.cells #[.string ⟨#[49]⟩, .string ⟨#[49]⟩] 75))
    rw [Int.pow_zero, Int.pow_zero, W1]
    exact ⟨K.1 0, K.1 1, K.2.1 0, K.2.1 1, K.2.2.1 0, K.2.2.1 1, K2.2.2.2.1 0, K2.2.2.2.1 1, K.2.2.2.1 0, K.2.2.2.1 1, K.2.2.2.2⟩
  have HS : Hid _ := start
  clear start W1
  have mul : ∀ (q : Int) (k : Nat) (v : World), k < 6 → tl q.natAbs ≤ 25000 → Calls Tryz.prog 77 #[.string (W (q ^ k)), .string (W q)] v fun e w' => e = .returned (.string (W (q ^ (k + 1)))) ∧ Below v.heap.size v w' := by
    intro q k v hk hq
    have t := tl_pow q.natAbs k 25000 hq (by omega)
    have hk5 : k * 25000 ≤ 5 * 25000 := Nat.mul_le_mul_right _ (by omega)
    rw [Int.pow_succ]
    exact mul_W _ _ v (by rw [Int.natAbs_pow]; omega) (by omega)
  go_enter Tryz.func62, Tryz.ntmps62
  go_wp2_with fail
  go_loopw [19] (fun i wr => ∃ k : Nat, k ≤ n ∧ i = .int .i64 (k : Nat) ∧ Pw w wr (W p) (W r) (W (p ^ k)) (W (r ^ k))) (fun i _ => n - (intOf i).toNat)
  case atStart => exact ⟨0, by omega, rfl, HS.out⟩
  case round =>
    obtain ⟨k, hk, rfl, hw⟩ := hrel
    by_cases hlt : k < n
    · have r0 := hw.c0
      have r1 := hw.p0
      go_wp2_with fail
      refine (mul p k _ (by omega) HP.out).mono ?_
      rintro e v1 ⟨rfl, k1⟩
      have h1 := hw.below k1
      have q0 := h1.p0
      have q1 := h1.f0
      clear r0 r1 hw k1
      have h2 := h1.set0 (W (p ^ (k + 1)))
      have r0 := h2.c1
      have r1 := h2.p1
      go_wp2_with fail
      refine (mul r k _ (by omega) HR.out).mono ?_
      rintro e v2 ⟨rfl, k2⟩
      have h3 := h2.below k2
      clear r0 r1 h1 h2 k2 q0 q1
      have q0 := h3.p1
      have q1 := h3.f1
      have h4 := h3.set1 (W (r ^ (k + 1)))
      have H4 : Hid _ := h4
      clear h3 h4
      go_wp2
      go_roundw
      case rel => exact ⟨k + 1, by omega, by go_num, H4.out⟩
      case measure => simp [intOf]; omega
    · obtain rfl : k = n := by omega
      have r0 := hw.p0
      have r1 := hw.p1
      have z0 := hw.z0
      have z1 := hw.z1
      have g0 := hw.g0
      have g1 := hw.g1
      have HB : Hid _ := hw.B
      clear hw
      go_wp2
      refine bodyPost_ret (v := .tuple #[.agg #[.string (W (p ^ k)), .string (W (r ^ k))], .nilIface]) (by simp [results, Tryz.results62, go_sem, z0, z1]) rfl ⟨rfl, ?_⟩
      repeat' (first | exact HB.out | apply bl_drew | refine Below.setCell ?_ (by simp) _)

set_option maxHeartbeats 4000000 in
theorem raised_no (X1 X2 : ByteArray) (n : Int) (w : World) (hn : n < 0 ∨ 6 < n) :
    Calls Tryz.prog 62 #[.agg #[.string X1, .string X2], .int .i64 n] w fun e w' => e = .returned (.tuple #[.agg #[.string ⟨#[]⟩, .string ⟨#[]⟩], beyond n]) ∧ Below w.heap.size w w' := by
  have HB : Hid _ := Below.refl w.heap.size w
  by_cases h : n < 0
  · go_enter Tryz.func62, Tryz.ntmps62
    go_wp2
    refine bodyPost_ret (v := .tuple #[.agg #[.string ⟨#[]⟩, .string ⟨#[]⟩], beyond n]) (by simp [results, Tryz.results62, go_sem]) rfl ⟨rfl, ?_⟩
    repeat' (first | exact HB.out | apply bl_alloc | apply bl_drew | refine Below.setCell ?_ (by simp) _)
  · have h6 : 6 < n := by omega
    go_enter Tryz.func62, Tryz.ntmps62
    go_wp2
    refine bodyPost_ret (v := .tuple #[.agg #[.string ⟨#[]⟩, .string ⟨#[]⟩], beyond n]) (by simp [results, Tryz.results62, go_sem]) rfl ⟨rfl, ?_⟩
    repeat' (first | exact HB.out | apply bl_alloc | apply bl_drew | refine Below.setCell ?_ (by simp) _)

theorem raised_R (a : Rat) (n : Nat) (w : World) (hn : n ≤ 6) (ha : Bd a 25000) :
    Calls Tryz.prog 62 #[fr a, .int .i64 (n : Int)] w fun e w' => e = .returned (.tuple #[fr (a ^ n), .nilIface]) ∧ Below w.heap.size w w' := by
  have h := raised_raw a.num (a.den : Int) n w hn ha.1 (by simp only [Int.natAbs_natCast]; exact ha.2)
  rw [← Int.natCast_pow, W_nat, W_nat, ← Rat.num_pow, ← Rat.den_pow] at h
  exact h
end
end Go.Proofs.YtfblgaffkflenaaGreatDoor
namespace Go.Proofs.YtfblgaffkflenaaGreatDoor
section
set_option maxRecDepth 100000
open Go.RowKit Nm
set_option linter.unusedVariables false

theorem R_bd {r : Rat} (h : (R r).size ≤ 50000) : Bd r 100000 := (Bd.of_size h).mono (by omega)

set_option maxHeartbeats 4000000 in
theorem joined_sum (s t X1 X2 Y1 Y2 D1 D2 Z : ByteArray) (w : World)
    (P : ∀ v : World, Calls Tryz.prog 73 #[.string s, .string t] v fun e w' => e = .returned (.tuple #[.agg #[.string X1, .string X2], .agg #[.string Y1, .string Y2], .nilIface]) ∧ Below v.heap.size v w')
    (J : ∀ v : World, Calls Tryz.prog 63 #[.agg #[.string X1, .string X2], .agg #[.string Y1, .string Y2]] v fun e w' => e = .returned (.agg #[.string D1, .string D2]) ∧ Below v.heap.size v w')
    (X : ∀ v : World, Calls Tryz.prog 74 #[.agg #[.string D1, .string D2]] v fun e w' => e = .returned (.string Z) ∧ w' = v.alloc (.cells #[.string D1, .string D2] 75)) :
    Calls Tryz.prog 53 #[.string s, .string t, .func (.func 63) #[] #[]] w fun e w' => e = .returned (.tuple #[.string Z, .int .i64 0]) ∧ Below w.heap.size w w' := by
  go_enter Tryz.func53, Tryz.ntmps53
  go_wp2_with fail
  refine (P _).mono ?_
  rintro e v1 ⟨rfl, k1⟩
  have H1 : Hid _ := k1
  clear k1
  go_wp2_with fail
  refine (J _).mono ?_
  rintro e v2 ⟨rfl, k2⟩
  have H2 : Hid _ := k2
  clear k2
  go_wp2_with fail
  refine (X _).mono ?_
  rintro e v3 ⟨rfl, rfl⟩
  go_wp2
  go_ret2
  exact ⟨rfl, bl_alloc (bl_trans (bl_alloc (bl_alloc H1.out _) _) H2.out) _⟩
set_option maxHeartbeats 4000000 in
theorem unjoined_sum (s t : ByteArray) (aF aZ : Addr) (w : World) (hE : Er w aF aZ) (hs : s.size ≤ 200000) (ht : t.size ≤ 200000) (h : (ra s && ra t) = false) :
    Calls Tryz.prog 53 #[.string s, .string t, .func (.func 63) #[] #[]] w fun e w' => e = .returned (.tuple #[.string ⟨#[]⟩, .int .i64 2]) ∧ Below w.heap.size w w' := by
  have HE : Hid _ := hE
  have HS : Hid _ := hs
  have HT : Hid _ := ht
  have HH : Hid _ := h
  clear hE hs ht h
  go_enter Tryz.func53, Tryz.ntmps53
  go_wp2_with fail
  refine (both_no s t aF aZ _ HS.out HT.out HE.out HH.out).mono ?_
  rintro e v1 ⟨X1, X2, Y1, Y2, u, rfl, k1⟩
  have H1 : Hid _ := k1
  clear k1
  go_wp2_with fail
  refine (number_form u aF aZ _ (HE.out.below (bl_alloc (bl_alloc H1.out _) _))).mono ?_
  rintro e v2 ⟨rfl, k2⟩
  have H2 : Hid _ := k2
  clear k2
  go_wp2
  go_ret2
  exact ⟨rfl, bl_trans (bl_alloc (bl_alloc H1.out _) _) H2.out⟩

set_option maxHeartbeats 4000000 in
theorem joined_difference (s t X1 X2 Y1 Y2 D1 D2 Z : ByteArray) (w : World)
    (P : ∀ v : World, Calls Tryz.prog 73 #[.string s, .string t] v fun e w' => e = .returned (.tuple #[.agg #[.string X1, .string X2], .agg #[.string Y1, .string Y2], .nilIface]) ∧ Below v.heap.size v w')
    (J : ∀ v : World, Calls Tryz.prog 79 #[.agg #[.string X1, .string X2], .agg #[.string Y1, .string Y2]] v fun e w' => e = .returned (.agg #[.string D1, .string D2]) ∧ Below v.heap.size v w')
    (X : ∀ v : World, Calls Tryz.prog 74 #[.agg #[.string D1, .string D2]] v fun e w' => e = .returned (.string Z) ∧ w' = v.alloc (.cells #[.string D1, .string D2] 75)) :
    Calls Tryz.prog 53 #[.string s, .string t, .func (.func 79) #[] #[]] w fun e w' => e = .returned (.tuple #[.string Z, .int .i64 0]) ∧ Below w.heap.size w w' := by
  go_enter Tryz.func53, Tryz.ntmps53
  go_wp2_with fail
  refine (P _).mono ?_
  rintro e v1 ⟨rfl, k1⟩
  have H1 : Hid _ := k1
  clear k1
  go_wp2_with fail
  refine (J _).mono ?_
  rintro e v2 ⟨rfl, k2⟩
  have H2 : Hid _ := k2
  clear k2
  go_wp2_with fail
  refine (X _).mono ?_
  rintro e v3 ⟨rfl, rfl⟩
  go_wp2
  go_ret2
  exact ⟨rfl, bl_alloc (bl_trans (bl_alloc (bl_alloc H1.out _) _) H2.out) _⟩
set_option maxHeartbeats 4000000 in
theorem unjoined_difference (s t : ByteArray) (aF aZ : Addr) (w : World) (hE : Er w aF aZ) (hs : s.size ≤ 200000) (ht : t.size ≤ 200000) (h : (ra s && ra t) = false) :
    Calls Tryz.prog 53 #[.string s, .string t, .func (.func 79) #[] #[]] w fun e w' => e = .returned (.tuple #[.string ⟨#[]⟩, .int .i64 2]) ∧ Below w.heap.size w w' := by
  have HE : Hid _ := hE
  have HS : Hid _ := hs
  have HT : Hid _ := ht
  have HH : Hid _ := h
  clear hE hs ht h
  go_enter Tryz.func53, Tryz.ntmps53
  go_wp2_with fail
  refine (both_no s t aF aZ _ HS.out HT.out HE.out HH.out).mono ?_
  rintro e v1 ⟨X1, X2, Y1, Y2, u, rfl, k1⟩
  have H1 : Hid _ := k1
  clear k1
  go_wp2_with fail
  refine (number_form u aF aZ _ (HE.out.below (bl_alloc (bl_alloc H1.out _) _))).mono ?_
  rintro e v2 ⟨rfl, k2⟩
  have H2 : Hid _ := k2
  clear k2
  go_wp2
  go_ret2
  exact ⟨rfl, bl_trans (bl_alloc (bl_alloc H1.out _) _) H2.out⟩

set_option maxHeartbeats 4000000 in
theorem joined_product (s t X1 X2 Y1 Y2 D1 D2 Z : ByteArray) (w : World)
    (P : ∀ v : World, Calls Tryz.prog 73 #[.string s, .string t] v fun e w' => e = .returned (.tuple #[.agg #[.string X1, .string X2], .agg #[.string Y1, .string Y2], .nilIface]) ∧ Below v.heap.size v w')
    (J : ∀ v : World, Calls Tryz.prog 54 #[.agg #[.string X1, .string X2], .agg #[.string Y1, .string Y2]] v fun e w' => e = .returned (.agg #[.string D1, .string D2]) ∧ Below v.heap.size v w')
    (X : ∀ v : World, Calls Tryz.prog 74 #[.agg #[.string D1, .string D2]] v fun e w' => e = .returned (.string Z) ∧ w' = v.alloc (.cells #[.string D1, .string D2] 75)) :
    Calls Tryz.prog 53 #[.string s, .string t, .func (.func 54) #[] #[]] w fun e w' => e = .returned (.tuple #[.string Z, .int .i64 0]) ∧ Below w.heap.size w w' := by
  go_enter Tryz.func53, Tryz.ntmps53
  go_wp2_with fail
  refine (P _).mono ?_
  rintro e v1 ⟨rfl, k1⟩
  have H1 : Hid _ := k1
  clear k1
  go_wp2_with fail
  refine (J _).mono ?_
  rintro e v2 ⟨rfl, k2⟩
  have H2 : Hid _ := k2
  clear k2
  go_wp2_with fail
  refine (X _).mono ?_
  rintro e v3 ⟨rfl, rfl⟩
  go_wp2
  go_ret2
  exact ⟨rfl, bl_alloc (bl_trans (bl_alloc (bl_alloc H1.out _) _) H2.out) _⟩
set_option maxHeartbeats 4000000 in
theorem unjoined_product (s t : ByteArray) (aF aZ : Addr) (w : World) (hE : Er w aF aZ) (hs : s.size ≤ 200000) (ht : t.size ≤ 200000) (h : (ra s && ra t) = false) :
    Calls Tryz.prog 53 #[.string s, .string t, .func (.func 54) #[] #[]] w fun e w' => e = .returned (.tuple #[.string ⟨#[]⟩, .int .i64 2]) ∧ Below w.heap.size w w' := by
  have HE : Hid _ := hE
  have HS : Hid _ := hs
  have HT : Hid _ := ht
  have HH : Hid _ := h
  clear hE hs ht h
  go_enter Tryz.func53, Tryz.ntmps53
  go_wp2_with fail
  refine (both_no s t aF aZ _ HS.out HT.out HE.out HH.out).mono ?_
  rintro e v1 ⟨X1, X2, Y1, Y2, u, rfl, k1⟩
  have H1 : Hid _ := k1
  clear k1
  go_wp2_with fail
  refine (number_form u aF aZ _ (HE.out.below (bl_alloc (bl_alloc H1.out _) _))).mono ?_
  rintro e v2 ⟨rfl, k2⟩
  have H2 : Hid _ := k2
  clear k2
  go_wp2
  go_ret2
  exact ⟨rfl, bl_trans (bl_alloc (bl_alloc H1.out _) _) H2.out⟩

set_option maxHeartbeats 2000000 in
theorem Add_R (a b : Rat) (w : World) (ha : (R a).size ≤ 50000) (hb : (R b).size ≤ 50000) :
    Calls Tryz.prog 46 #[.string (R a), .string (R b)] w fun e w' => e = .returned (.tuple #[.string (R (a + b)), .int .i64 0]) ∧ Below w.heap.size w w' := by
  have J := fun v => joined_sum (R a) (R b) _ _ _ _ _ _ (R (a + b)) v (fun v => both_R a b v (by omega) (by omega)) (fun v => sum_R a b v (R_bd ha) (R_bd hb)) (fun v => text_R (a + b) v (((R_bd ha).add (R_bd hb)).mono (by omega)))
  go_enter Tryz.func46, Tryz.ntmps46
  go_wp2_with fail
  refine (J _).mono ?_
  rintro e v1 ⟨rfl, k1⟩
  have H1 : Hid _ := k1
  clear k1
  go_wp2
  go_ret2
  exact ⟨rfl, H1.out⟩
set_option maxHeartbeats 2000000 in
theorem AddR_no (s t : ByteArray) (aF aZ : Addr) (w : World) (hE : Er w aF aZ) (hs : s.size ≤ 200000) (ht : t.size ≤ 200000) (h : (ra s && ra t) = false) :
    Calls Tryz.prog 46 #[.string s, .string t] w fun e w' => e = .returned (.tuple #[.string ⟨#[]⟩, .int .i64 2]) ∧ Below w.heap.size w w' := by
  have HE : Hid _ := hE
  have HH : Hid _ := h
  clear hE h
  go_enter Tryz.func46, Tryz.ntmps46
  go_wp2_with fail
  refine (unjoined_sum s t aF aZ _ HE.out hs ht HH.out).mono ?_
  rintro e v1 ⟨rfl, k1⟩
  have H1 : Hid _ := k1
  clear k1
  go_wp2
  go_ret2
  exact ⟨rfl, H1.out⟩

set_option maxHeartbeats 2000000 in
theorem Sub_R (a b : Rat) (w : World) (ha : (R a).size ≤ 50000) (hb : (R b).size ≤ 50000) :
    Calls Tryz.prog 55 #[.string (R a), .string (R b)] w fun e w' => e = .returned (.tuple #[.string (R (a - b)), .int .i64 0]) ∧ Below w.heap.size w w' := by
  have J := fun v => joined_difference (R a) (R b) _ _ _ _ _ _ (R (a - b)) v (fun v => both_R a b v (by omega) (by omega)) (fun v => difference_R a b v (R_bd ha) (R_bd hb)) (fun v => text_R (a - b) v (((R_bd ha).sub (R_bd hb)).mono (by omega)))
  go_enter Tryz.func55, Tryz.ntmps55
  go_wp2_with fail
  refine (J _).mono ?_
  rintro e v1 ⟨rfl, k1⟩
  have H1 : Hid _ := k1
  clear k1
  go_wp2
  go_ret2
  exact ⟨rfl, H1.out⟩
set_option maxHeartbeats 2000000 in
theorem SubR_no (s t : ByteArray) (aF aZ : Addr) (w : World) (hE : Er w aF aZ) (hs : s.size ≤ 200000) (ht : t.size ≤ 200000) (h : (ra s && ra t) = false) :
    Calls Tryz.prog 55 #[.string s, .string t] w fun e w' => e = .returned (.tuple #[.string ⟨#[]⟩, .int .i64 2]) ∧ Below w.heap.size w w' := by
  have HE : Hid _ := hE
  have HH : Hid _ := h
  clear hE h
  go_enter Tryz.func55, Tryz.ntmps55
  go_wp2_with fail
  refine (unjoined_difference s t aF aZ _ HE.out hs ht HH.out).mono ?_
  rintro e v1 ⟨rfl, k1⟩
  have H1 : Hid _ := k1
  clear k1
  go_wp2
  go_ret2
  exact ⟨rfl, H1.out⟩

set_option maxHeartbeats 2000000 in
theorem Mul_R (a b : Rat) (w : World) (ha : (R a).size ≤ 50000) (hb : (R b).size ≤ 50000) :
    Calls Tryz.prog 33 #[.string (R a), .string (R b)] w fun e w' => e = .returned (.tuple #[.string (R (a * b)), .int .i64 0]) ∧ Below w.heap.size w w' := by
  have J := fun v => joined_product (R a) (R b) _ _ _ _ _ _ (R (a * b)) v (fun v => both_R a b v (by omega) (by omega)) (fun v => product_R a b v (R_bd ha) (R_bd hb)) (fun v => text_R (a * b) v (((R_bd ha).mul (R_bd hb)).mono (by omega)))
  go_enter Tryz.func33, Tryz.ntmps33
  go_wp2_with fail
  refine (J _).mono ?_
  rintro e v1 ⟨rfl, k1⟩
  have H1 : Hid _ := k1
  clear k1
  go_wp2
  go_ret2
  exact ⟨rfl, H1.out⟩
set_option maxHeartbeats 2000000 in
theorem MulR_no (s t : ByteArray) (aF aZ : Addr) (w : World) (hE : Er w aF aZ) (hs : s.size ≤ 200000) (ht : t.size ≤ 200000) (h : (ra s && ra t) = false) :
    Calls Tryz.prog 33 #[.string s, .string t] w fun e w' => e = .returned (.tuple #[.string ⟨#[]⟩, .int .i64 2]) ∧ Below w.heap.size w w' := by
  have HE : Hid _ := hE
  have HH : Hid _ := h
  clear hE h
  go_enter Tryz.func33, Tryz.ntmps33
  go_wp2_with fail
  refine (unjoined_product s t aF aZ _ HE.out hs ht HH.out).mono ?_
  rintro e v1 ⟨rfl, k1⟩
  have H1 : Hid _ := k1
  clear k1
  go_wp2
  go_ret2
  exact ⟨rfl, H1.out⟩

set_option maxHeartbeats 2000000 in
theorem PowerR_no (s : ByteArray) (n : Int) (aF aZ : Addr) (w : World) (hE : Er w aF aZ) (hs : s.size ≤ 200000) (h : ra s = false) :
    Calls Tryz.prog 45 #[.string s, .int .i64 n] w fun e w' => e = .returned (.tuple #[.string ⟨#[]⟩, .int .i64 2]) ∧ Below w.heap.size w w' := by
  have HE : Hid _ := hE
  have HH : Hid _ := h
  have HS : Hid _ := hs
  clear hE h hs
  go_enter Tryz.func45, Tryz.ntmps45
  go_wp2_with fail
  refine (parse_not s aF aZ _ HS.out HE.out HH.out).mono ?_
  rintro e v1 ⟨rfl, k1⟩
  have H1 : Hid _ := k1
  clear k1
  go_wp2_with fail
  refine (number_form s aF aZ _ (HE.out.below (bl_alloc H1.out _))).mono ?_
  rintro e v2 ⟨rfl, k2⟩
  have H2 : Hid _ := k2
  clear k2
  go_wp2
  go_ret2
  exact ⟨rfl, bl_trans (bl_alloc H1.out _) H2.out⟩

set_option maxHeartbeats 2000000 in
theorem Power_R (a : Rat) (n : Nat) (w : World) (ha : (R a).size ≤ 20000) (hn : n ≤ 6) :
    Calls Tryz.prog 45 #[.string (R a), .int .i64 (n : Int)] w fun e w' => e = .returned (.tuple #[.string (R (a ^ n)), .int .i64 0]) ∧ Below w.heap.size w w' := by
  have P := fun v => parse_R a v (by omega)
  have ba : Bd a 25000 := (Bd.of_size ha).mono (by omega)
  have M := fun v => raised_R a n v hn ba
  have bp : Bd (a ^ n) 500000 := by
    have t1 := tl_pow a.num.natAbs n 25000 ba.1 (by omega)
    have t2 := tl_pow a.den n 25000 ba.2 (by omega)
    have : n * 25000 ≤ 6 * 25000 := Nat.mul_le_mul_right _ hn
    exact ⟨by rw [Rat.num_pow, Int.natAbs_pow]; omega, by rw [Rat.den_pow]; omega⟩
  have A := fun v => answer_R (a ^ n) v bp
  unfold fr at P M
  generalize R (a ^ n) = Z at *
  generalize W (a ^ n).num = D1 at *
  generalize S (a ^ n).den = D2 at *
  go_enter Tryz.func45, Tryz.ntmps45
  go_wp2_with fail
  refine (P _).mono ?_
  rintro e v1 ⟨rfl, k1⟩
  have H1 : Hid _ := k1
  clear k1
  go_wp2_with fail
  refine (M _).mono ?_
  rintro e v2 ⟨rfl, k2⟩
  have H2 : Hid _ := k2
  clear k2
  go_wp2_with fail
  refine (A _).mono ?_
  rintro e v3 ⟨rfl, k3⟩
  have H3 : Hid _ := k3
  clear k3
  go_wp2
  go_ret2
  exact ⟨rfl, bl_trans (bl_trans (bl_alloc H1.out _) H2.out) H3.out⟩
set_option maxHeartbeats 2000000 in
theorem Power_out (a : Rat) (n : Int) (aF aZ : Addr) (w : World) (hE : Er w aF aZ) (ha : (R a).size ≤ 50000) (hn : n < 0 ∨ 6 < n) :
    Calls Tryz.prog 45 #[.string (R a), .int .i64 n] w fun e w' => e = .returned (.tuple #[.string ⟨#[]⟩, .int .i64 1]) ∧ Below w.heap.size w w' := by
  have HE : Hid _ := hE
  clear hE
  have P := fun v => parse_R a v (by omega)
  have M := fun v => raised_no (W a.num) (S a.den) n v hn
  have A := fun (v : World) (h : Below w.heap.size w v) => answer_no ⟨#[]⟩ ⟨#[]⟩ 96 (.agg #[.int .i64 n]) 1 v (fun u hu => number_beyond n aF aZ u ((HE.out.below h).below hu))
  unfold fr at P
  clear hn
  go_enter Tryz.func45, Tryz.ntmps45
  go_wp2_with fail
  refine (P _).mono ?_
  rintro e v1 ⟨rfl, k1⟩
  have H1 : Hid _ := k1
  clear k1
  go_wp2_with fail
  refine (M _).mono ?_
  rintro e v2 ⟨rfl, k2⟩
  have H2 : Hid _ := bl_trans (bl_alloc H1.out _) k2
  clear k2
  go_wp2_with fail
  refine (A _ H2.out).mono ?_
  rintro e v3 ⟨rfl, k3⟩
  have H3 : Hid _ := k3
  clear k3
  go_wp2
  go_ret2
  exact ⟨rfl, bl_trans H2.out H3.out⟩
set_option maxHeartbeats 2000000 in
theorem Right_R (a : Rat) (w : World) (ha : (R a).size ≤ 200000) :
    Calls Tryz.prog 42 #[.string (R a)] w fun e w' => e = .returned (.bool true) ∧ Below w.heap.size w w' := by
  have P := fun v => parse_R a v ha
  unfold fr at P
  go_enter Tryz.func42, Tryz.ntmps42
  go_wp2_with fail
  refine (P _).mono ?_
  rintro e v1 ⟨rfl, k1⟩
  have H1 : Hid _ := k1
  clear k1
  go_wp2
  go_ret
  exact ⟨rfl, bl_alloc H1.out _⟩
set_option maxHeartbeats 2000000 in
theorem Right_no (s : ByteArray) (aF aZ : Addr) (w : World) (hE : Er w aF aZ) (hs : s.size ≤ 200000) (h : ra s = false) :
    Calls Tryz.prog 42 #[.string s] w fun e w' => e = .returned (.bool false) ∧ Below w.heap.size w w' := by
  have HE : Hid _ := hE
  have HH : Hid _ := h
  have HS : Hid _ := hs
  clear hE h hs
  go_enter Tryz.func42, Tryz.ntmps42
  go_wp2_with fail
  refine (parse_not s aF aZ _ HS.out HE.out HH.out).mono ?_
  rintro e v1 ⟨rfl, k1⟩
  have H1 : Hid _ := k1
  clear k1
  go_wp2
  go_ret
  exact ⟨rfl, bl_alloc H1.out _⟩
theorem Right_is (s : ByteArray) (b : Bool) (aF aZ : Addr) (w : World) (hE : Er w aF aZ) (hs : s.size ≤ 200000) (h : ra s = b) :
    Calls Tryz.prog 42 #[.string s] w fun e w' => e = .returned (.bool b) ∧ Below w.heap.size w w' := by
  cases b with
  | false => exact Right_no s aF aZ w hE hs h
  | true => obtain ⟨r, rfl⟩ := R_of h; exact Right_R r w hs

end
end Go.Proofs.YtfblgaffkflenaaGreatDoor
