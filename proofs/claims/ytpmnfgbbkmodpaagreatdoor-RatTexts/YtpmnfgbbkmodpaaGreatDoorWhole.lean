/-
  THE CALLS OF WHOLE NUMBERS: what Add, Sub, Mul, Neg, Sign, Compare and Right give. Conditions: sizes.
-/
import Derived.Test.YtpmnfgbbkmodpaaGreatDoorClone
namespace Go.Proofs.YtpmnfgbbkmodpaaGreatDoor
set_option maxRecDepth 100000
open Go.RowKit Nm
set_option linter.unusedVariables false

theorem bl_alloc {w v : World} (h : Below w.heap.size w v) (o : Obj) : Below w.heap.size w (v.alloc o) := h.alloc h.size o
theorem bl_drew {w v : World} (h : Below w.heap.size w v) : Below w.heap.size w v.drew := Below.drew h

/-- what three new blocks hold behind a call that leaves them -/
theorem keep3 {w v : World} {a b c : Array Value} {r s t : TypeId} {B : Nat} (h : Below B (((w.alloc (.cells a r)).alloc (.cells b s)).alloc (.cells c t)) v) (hB : w.heap.size + 1 + 1 < B) :
    (∀ i, v.cell? ⟨w.heap.size, i, none⟩ = a[i]?) ∧ (∀ i, v.cell? ⟨w.heap.size + 1, i, none⟩ = b[i]?) ∧ (∀ i, v.cell? ⟨w.heap.size + 1 + 1, i, none⟩ = c[i]?) ∧ (∀ i, v.frozen? ⟨w.heap.size + 1 + 1, i, none⟩ = false) := by
  refine ⟨fun i => ?_, fun i => ?_, fun i => ?_, fun i => ?_⟩
  · rw [h.cell (by show w.heap.size < B; omega), World.cell?_alloc_past _ _ _ (by simp; omega), World.cell?_alloc_past _ _ _ (by simp), World.cell?_alloc_at _ _ _ _ rfl]
  · rw [h.cell (by show w.heap.size + 1 < B; omega), World.cell?_alloc_past _ _ _ (by simp), World.cell?_alloc_at _ _ _ _ (by simp)]
  · rw [h.cell (by show w.heap.size + 1 + 1 < B; omega), World.cell?_alloc_at _ _ _ _ (by simp)]
  · rw [h.frozen (by show w.heap.size + 1 + 1 < B; omega), World.frozen?_alloc_at _ _ _ _ (by simp)]

set_option maxHeartbeats 1000000 in
theorem addw_same (b : Bool) (n m : Nat) (w : World) (hn : tl n ≤ 10000) (hm : tl m ≤ 10000) :
    Calls Tryz.prog 107 #[.agg #[.bool b, .string (S n)], .agg #[.bool b, .string (S m)]] w fun e w' => e = .returned (.agg #[.bool b, .string (S (n + m))]) ∧ Below w.heap.size w w' := by
  have HX : Hid _ := hn
  have HY : Hid _ := hm
  clear hn hm
  go_enter Tryz.func107, Tryz.ntmps107
  go_wp2_with fail
  refine (Add_any n m _ HX.out HY.out).mono ?_
  rintro e w1 ⟨rfl, h1⟩
  have K := keep3 h1 (by simp)
  have HB : Hid _ := bl_alloc (bl_alloc (bl_alloc (Below.refl w.heap.size w) _) _) _ |>.trans (h1.mono (by simp; omega))
  clear h1
  have c0 : w1.cell? ⟨w.heap.size, 0, none⟩ = some (.bool b) := K.1 0
  have c1 : w1.cell? ⟨w.heap.size + 1 + 1, 0, none⟩ = some (.bool false) := K.2.2.1 0
  have c2 : w1.cell? ⟨w.heap.size + 1 + 1, 1, none⟩ = some (.string ⟨#[]⟩) := K.2.2.1 1
  have f1 : w1.frozen? ⟨w.heap.size + 1 + 1, 0, none⟩ = false := K.2.2.2 0
  have f2 : w1.frozen? ⟨w.heap.size + 1 + 1, 1, none⟩ = false := K.2.2.2 1
  clear K
  go_wp2
  refine bodyPost_ret (v := .agg #[.bool b, .string (S (n + m))]) (by simp [results, Tryz.results107, go_sem, c1, c2]) rfl ⟨rfl, ?_⟩
  exact (HB.out.setCell (by show w.heap.size ≤ w.heap.size + 1 + 1; omega) _).setCell (by show w.heap.size ≤ w.heap.size + 1 + 1; omega) _

set_option maxHeartbeats 1000000 in
theorem addw_ge (b c : Bool) (n m : Nat) (w : World) (hn : tl n ≤ 10000) (hm : tl m ≤ 10000) (hbc : b = !c) (hle : m ≤ n) :
    Calls Tryz.prog 107 #[.agg #[.bool b, .string (S n)], .agg #[.bool c, .string (S m)]] w fun e w' => e = .returned (.agg #[.bool b, .string (S (n - m))]) ∧ Below w.heap.size w w' := by
  have HX : Hid _ := hn
  have HY : Hid _ := hm
  have HL : Hid _ := hle
  have HG : Hid (sg n m = if m < n then 1 else 0) := by unfold Hid sg; rw [if_neg (by omega)]; simp only [Int.ofNat_lt]
  have hs : decide (sg n m < 0) = false := by rw [HG.out]; split <;> rfl
  have hs' : ¬ sg n m < 0 := by simpa using hs
  clear hn hm hle
  subst hbc
  have hq : ((!c) == c) = false := by cases c <;> rfl
  go_enter Tryz.func107, Tryz.ntmps107
  go_wp2_with fail
  refine (Compare_any n m _ HX.out HY.out).mono ?_
  rintro e w1 ⟨rfl, rfl⟩
  go_wp2_with fail
  refine (Sub_yes n m _ HX.out HY.out HL.out).mono ?_
  rintro e w1 ⟨rfl, h1⟩
  have K := keep3 h1 (by simp)
  have HB : Hid _ := bl_alloc (bl_alloc (bl_alloc (Below.refl w.heap.size w) _) _) _ |>.trans (h1.mono (by simp; omega))
  clear h1
  have c0 : w1.cell? ⟨w.heap.size, 0, none⟩ = some (.bool !c) := K.1 0
  have c1 : w1.cell? ⟨w.heap.size + 1 + 1, 0, none⟩ = some (.bool false) := K.2.2.1 0
  have c2 : w1.cell? ⟨w.heap.size + 1 + 1, 1, none⟩ = some (.string ⟨#[]⟩) := K.2.2.1 1
  have f1 : w1.frozen? ⟨w.heap.size + 1 + 1, 0, none⟩ = false := K.2.2.2 0
  have f2 : w1.frozen? ⟨w.heap.size + 1 + 1, 1, none⟩ = false := K.2.2.2 1
  clear K
  go_wp2
  refine bodyPost_ret (v := .agg #[.bool (!c), .string (S (n - m))]) (by simp [results, Tryz.results107, go_sem, c1, c2]) rfl ⟨rfl, ?_⟩
  exact (HB.out.setCell (by show w.heap.size ≤ w.heap.size + 1 + 1; omega) _).setCell (by show w.heap.size ≤ w.heap.size + 1 + 1; omega) _

set_option maxHeartbeats 1000000 in
theorem addw_lt (b c : Bool) (n m : Nat) (w : World) (hn : tl n ≤ 10000) (hm : tl m ≤ 10000) (hbc : b = !c) (hle : n < m) :
    Calls Tryz.prog 107 #[.agg #[.bool b, .string (S n)], .agg #[.bool c, .string (S m)]] w fun e w' => e = .returned (.agg #[.bool c, .string (S (m - n))]) ∧ Below w.heap.size w w' := by
  have HX : Hid _ := hn
  have HY : Hid _ := hm
  have HL : Hid _ := hle
  have HG : Hid (sg n m = -1) := by unfold Hid; exact sg_lt (by omega)
  have hs : decide (sg n m < 0) = true := by rw [HG.out]; rfl
  have hs' : sg n m < 0 := by simpa using hs
  clear hn hm hle
  subst hbc
  have hq : ((!c) == c) = false := by cases c <;> rfl
  go_enter Tryz.func107, Tryz.ntmps107
  go_wp2_with fail
  refine (Compare_any n m _ HX.out HY.out).mono ?_
  rintro e w1 ⟨rfl, rfl⟩
  go_wp2_with fail
  refine (Sub_yes m n _ HY.out HX.out (Nat.le_of_lt HL.out)).mono ?_
  rintro e w1 ⟨rfl, h1⟩
  have K := keep3 h1 (by simp)
  have HB : Hid _ := bl_alloc (bl_alloc (bl_alloc (Below.refl w.heap.size w) _) _) _ |>.trans (h1.mono (by simp; omega))
  clear h1
  have c0 : w1.cell? ⟨w.heap.size, 0, none⟩ = some (.bool c) := K.1 0
  have c1 : w1.cell? ⟨w.heap.size + 1 + 1, 0, none⟩ = some (.bool false) := K.2.2.1 0
  have c2 : w1.cell? ⟨w.heap.size + 1 + 1, 1, none⟩ = some (.string ⟨#[]⟩) := K.2.2.1 1
  have f1 : w1.frozen? ⟨w.heap.size + 1 + 1, 0, none⟩ = false := K.2.2.2 0
  have f2 : w1.frozen? ⟨w.heap.size + 1 + 1, 1, none⟩ = false := K.2.2.2 1
  clear K
  go_wp2
  refine bodyPost_ret (v := .agg #[.bool c, .string (S (m - n))]) (by simp [results, Tryz.results107, go_sem, c1, c2]) rfl ⟨rfl, ?_⟩
  exact (HB.out.setCell (by show w.heap.size ≤ w.heap.size + 1 + 1; omega) _).setCell (by show w.heap.size ≤ w.heap.size + 1 + 1; omega) _

theorem bl_trans {w v u : World} (h : Below w.heap.size w v) (k : Below v.heap.size v u) : Below w.heap.size w u := h.trans (k.mono h.size)

theorem vl_abs (b : Bool) (n : Nat) : (vl b n).natAbs = n := by cases b <;> simp [vl]
theorem vl_not (b : Bool) (n : Nat) : vl (!b) n = - vl b n := by cases b <;> simp [vl]
theorem vl_mul (b c : Bool) (n m : Nat) : vl (!(b == c)) (n * m) = vl b n * vl c m := by
  cases b <;> cases c <;> simp [vl, Int.neg_mul, Int.mul_neg]
theorem vl_same (b : Bool) (n m : Nat) : vl b (n + m) = vl b n + vl b m := by cases b <;> simp [vl] <;> omega
theorem vl_ge {b c : Bool} {n m : Nat} (h : b = !c) (hl : m ≤ n) : vl b (n - m) = vl b n + vl c m := by subst h; cases c <;> simp [vl] <;> omega
theorem vl_lt {b c : Bool} {n m : Nat} (h : b = !c) (hl : n < m) : vl c (m - n) = vl b n + vl c m := by subst h; cases c <;> simp [vl] <;> omega

/-- a sum -/
theorem addw_any (b c : Bool) (n m : Nat) (w : World) (hn : tl n ≤ 10000) (hm : tl m ≤ 10000) :
    Calls Tryz.prog 107 #[.agg #[.bool b, .string (S n)], .agg #[.bool c, .string (S m)]] w fun e w' => ∃ d k, e = .returned (.agg #[.bool d, .string (S k)]) ∧ vl d k = vl b n + vl c m ∧ tl k ≤ tl n + tl m ∧ Below w.heap.size w w' := by
  by_cases h : b = c
  · subst h
    exact (addw_same b n m w hn hm).mono fun e w' hh => ⟨_, _, hh.1, vl_same _ _ _, tl_add n m, hh.2⟩
  · have h : b = !c := by cases b <;> cases c <;> simp_all
    rcases Nat.lt_or_ge n m with hl | hl
    · exact (addw_lt b c n m w hn hm h hl).mono fun e w' hh => ⟨_, _, hh.1, vl_lt h hl, by have := tl_sub m n; omega, hh.2⟩
    · exact (addw_ge b c n m w hn hm h hl).mono fun e w' hh => ⟨_, _, hh.1, vl_ge h hl, by have := tl_sub n m; omega, hh.2⟩

set_option maxHeartbeats 1000000 in
theorem both_W (x y : Int) (w : World) (hx : tl x.natAbs ≤ 50000) (hy : tl y.natAbs ≤ 50000) :
    Calls Tryz.prog 100 #[.string (W x), .string (W y)] w fun e w' => e = .returned (.tuple #[.agg #[.bool (decide (x < 0)), .string (S x.natAbs)], .agg #[.bool (decide (y < 0)), .string (S y.natAbs)], .bool true]) ∧ Below w.heap.size w w' := by
  have HX : Hid _ := hx
  have HY : Hid _ := hy
  clear hx hy
  go_enter Tryz.func100, Tryz.ntmps100
  go_wp2_with fail
  refine (parse_W x _ HX.out).mono ?_
  rintro e w1 ⟨rfl, rfl⟩
  go_wp2_with fail
  refine (parse_W y _ HY.out).mono ?_
  rintro e w1 ⟨rfl, rfl⟩
  go_wp2_with fail
  go_region
  go_wp2
  refine bodyPost_ret (v := .tuple #[.agg #[.bool (decide (x < 0)), .string (S x.natAbs)], .agg #[.bool (decide (y < 0)), .string (S y.natAbs)], .bool true]) (by simp [results, Tryz.results100, go_sem]) rfl ⟨rfl, ?_⟩
  repeat' (first | exact Below.refl _ _ | apply bl_alloc | apply bl_drew)

set_option maxHeartbeats 1000000 in
theorem both_any (s t : ByteArray) (w : World) (hx : s.size ≤ 40000) (hy : t.size ≤ 40000) :
    Calls Tryz.prog 100 #[.string s, .string t] w fun e w' => ∃ b1 s1 b2 s2, e = .returned (.tuple #[.agg #[.bool b1, .string s1], .agg #[.bool b2, .string s2], .bool (wh s && wh t)]) ∧ Below w.heap.size w w' := by
  have HX : Hid _ := hx
  have HY : Hid _ := hy
  clear hx hy
  go_enter Tryz.func100, Tryz.ntmps100
  go_wp2_with fail
  refine (parse_all s _ HX.out).mono ?_
  rintro e w1 ⟨b1, s1, rfl, rfl⟩
  go_wp2_with fail
  refine (parse_all t _ HY.out).mono ?_
  rintro e w1 ⟨b2, s2, rfl, rfl⟩
  by_cases hh : wh s = true
  · rw [hh]
    go_wp2_with fail
    go_region
    go_wp2
    refine bodyPost_ret (v := .tuple #[.agg #[.bool b1, .string s1], .agg #[.bool b2, .string s2], .bool (wh t)]) (by simp [results, Tryz.results100, go_sem]) rfl ⟨b1, s1, b2, s2, by rw [hh]; rfl, ?_⟩
    repeat' (first | exact Below.refl _ _ | apply bl_alloc | apply bl_drew)
  · have hh : wh s = false := by simpa using hh
    rw [hh]
    go_wp2_with fail
    go_region
    go_wp2
    refine bodyPost_ret (v := .tuple #[.agg #[.bool b1, .string s1], .agg #[.bool b2, .string s2], .bool false]) (by simp [results, Tryz.results100, go_sem]) rfl ⟨b1, s1, b2, s2, by rw [hh]; rfl, ?_⟩
    repeat' (first | exact Below.refl _ _ | apply bl_alloc | apply bl_drew)

set_option maxHeartbeats 2000000 in
theorem Addw_W (x y : Int) (w : World) (hx : tl x.natAbs ≤ 5000) (hy : tl y.natAbs ≤ 5000) :
    Calls Tryz.prog 83 #[.string (W x), .string (W y)] w fun e w' => e = .returned (.tuple #[.string (W (x + y)), .int .i64 0]) ∧ Below w.heap.size w w' := by
  have HX : Hid _ := hx
  have HY : Hid _ := hy
  have VX : Hid _ := vl_W x
  have VY : Hid _ := vl_W y
  clear hx hy
  go_enter Tryz.func83, Tryz.ntmps83
  go_wp2_with fail
  refine (both_W x y _ (by have := HX.out; omega) (by have := HY.out; omega)).mono ?_
  rintro e w1 ⟨rfl, HB⟩
  go_wp2_with fail
  refine (addw_any _ _ _ _ _ (by have := HX.out; omega) (by have := HY.out; omega)).mono ?_
  rintro e w2 ⟨d, k, rfl, hv, hk, h2⟩
  rw [VX.out, VY.out] at hv
  go_wp2_with fail
  refine (text_num d k _ (by have := HX.out; have := HY.out; omega)).mono ?_
  rintro e w3 ⟨rfl, rfl⟩
  rw [hv]
  go_wp2
  go_ret2
  refine ⟨rfl, ?_⟩
  repeat' (first | exact HB | apply bl_alloc | apply bl_drew | refine bl_trans ?_ h2)

set_option maxHeartbeats 1000000 in
theorem Addw_no (s t : ByteArray) (w : World) (hs : s.size ≤ 40000) (ht : t.size ≤ 40000) (h : (wh s && wh t) = false) :
    Calls Tryz.prog 83 #[.string s, .string t] w fun e w' => e = .returned (.tuple #[.string ⟨#[]⟩, .int .i64 2]) ∧ Below w.heap.size w w' := by
  have HX : Hid _ := hs
  have HY : Hid _ := ht
  have HW : Hid _ := h
  clear hs ht h
  go_enter Tryz.func83, Tryz.ntmps83
  go_wp2_with fail
  refine (both_any s t _ HX.out HY.out).mono ?_
  rintro e w1 ⟨b1, s1, b2, s2, rfl, HB⟩
  rw [HW.out]
  go_wp2
  go_ret2
  refine ⟨rfl, ?_⟩
  repeat' (first | exact HB | apply bl_alloc | apply bl_drew)

/-- what two new blocks hold behind a call that leaves them -/
theorem keep2 {w v : World} {a b : Array Value} {r s : TypeId} {B : Nat} (h : Below B ((w.alloc (.cells a r)).alloc (.cells b s)) v) (hB : w.heap.size + 1 < B) :
    (∀ i, v.cell? ⟨w.heap.size, i, none⟩ = a[i]?) ∧ (∀ i, v.cell? ⟨w.heap.size + 1, i, none⟩ = b[i]?) := by
  refine ⟨fun i => ?_, fun i => ?_⟩
  · rw [h.cell (by show w.heap.size < B; omega), World.cell?_alloc_past _ _ _ (by simp), World.cell?_alloc_at _ _ _ _ rfl]
  · rw [h.cell (by show w.heap.size + 1 < B; omega), World.cell?_alloc_at _ _ _ _ (by simp)]

set_option maxHeartbeats 2000000 in
theorem Mulw_W (x y : Int) (w : World) (hx : tl x.natAbs ≤ 5000) (hy : tl y.natAbs ≤ 5000) :
    Calls Tryz.prog 84 #[.string (W x), .string (W y)] w fun e w' => e = .returned (.tuple #[.string (W (x * y)), .int .i64 0]) ∧ Below w.heap.size w w' := by
  have HX : Hid _ := hx
  have HY : Hid _ := hy
  have VX : Hid _ := vl_W x
  have VY : Hid _ := vl_W y
  clear hx hy
  go_enter Tryz.func84, Tryz.ntmps84
  go_wp2_with fail
  refine (both_W x y _ (by have := HX.out; omega) (by have := HY.out; omega)).mono ?_
  rintro e w1 ⟨rfl, HB⟩
  go_wp2_with fail
  refine (Mul_any _ _ _ (by have := HX.out; omega) (by have := HY.out; omega)).mono ?_
  rintro e w2 ⟨rfl, h2⟩
  have K := keep2 h2 (by simp)
  have c0 : w2.cell? ⟨w1.heap.size, 0, none⟩ = some (.bool (decide (x < 0))) := K.1 0
  have c1 : w2.cell? ⟨w1.heap.size + 1, 0, none⟩ = some (.bool (decide (y < 0))) := K.2 0
  have H2 : Hid _ := h2
  have hv := vl_mul (decide (x < 0)) (decide (y < 0)) x.natAbs y.natAbs
  rw [VX.out, VY.out] at hv
  have HV : Hid _ := hv
  have hk : tl (x.natAbs * y.natAbs) ≤ 10000 := by have := tl_mul x.natAbs y.natAbs; have := HX.out; have := HY.out; omega
  have HK : Hid _ := hk
  clear K h2 hv hk
  generalize x.natAbs * y.natAbs = q at *
  go_wp2_with fail
  refine (text_num _ _ _ (by have := HK.out; omega)).mono ?_
  rintro e w3 ⟨rfl, rfl⟩
  rw [HV.out]
  go_wp2
  go_ret2
  refine ⟨rfl, ?_⟩
  repeat' (first | exact HB | apply bl_alloc | apply bl_drew | refine bl_trans ?_ H2.out)

set_option maxHeartbeats 1000000 in
theorem Mulw_no (s t : ByteArray) (w : World) (hs : s.size ≤ 40000) (ht : t.size ≤ 40000) (h : (wh s && wh t) = false) :
    Calls Tryz.prog 84 #[.string s, .string t] w fun e w' => e = .returned (.tuple #[.string ⟨#[]⟩, .int .i64 2]) ∧ Below w.heap.size w w' := by
  have HX : Hid _ := hs
  have HY : Hid _ := ht
  have HW : Hid _ := h
  clear hs ht h
  go_enter Tryz.func84, Tryz.ntmps84
  go_wp2_with fail
  refine (both_any s t _ HX.out HY.out).mono ?_
  rintro e w1 ⟨b1, s1, b2, s2, rfl, HB⟩
  rw [HW.out]
  go_wp2
  go_ret2
  refine ⟨rfl, ?_⟩
  repeat' (first | exact HB | apply bl_alloc | apply bl_drew)

theorem sg_bd (a b : Int) : -1 ≤ sg a b ∧ sg a b ≤ 1 := by unfold sg; split; omega; split <;> omega
theorem sn_bd (a : Int) : -1 ≤ a.sign ∧ a.sign ≤ 1 := by
  rcases Int.lt_trichotomy a 0 with h | h | h
  · rw [Int.sign_eq_neg_one_of_neg h]; omega
  · subst h; simp
  · rw [Int.sign_eq_one_of_pos h]; omega
/-- signs that differ tell which is less -/
theorem sg_sign {x y : Int} (h : sg x.sign y.sign ≠ 0) : sg x.sign y.sign = sg x y := by
  rcases Int.lt_trichotomy x 0 with a | a | a <;> rcases Int.lt_trichotomy y 0 with b | b | b
  all_goals first | subst a | skip
  all_goals first | subst b | skip
  all_goals first | rw [Int.sign_eq_neg_one_of_neg a] at h ⊢ | rw [Int.sign_eq_one_of_pos a] at h ⊢ | skip
  all_goals first | rw [Int.sign_eq_neg_one_of_neg b] at h ⊢ | rw [Int.sign_eq_one_of_pos b] at h ⊢ | skip
  all_goals first | exact absurd rfl h | (rw [sg_lt (by omega)]; rfl) | (rw [sg_gt (a := x) (by omega)]; rfl) | (rw [sg_lt (a := x) (by omega)]; rfl) | (rw [sg_gt (a := 0) (by omega)]; rfl) | (rw [sg_lt (a := 0) (by omega)]; rfl)
/-- where they are the same the sizes tell it -/
theorem sg_size {x y : Int} (h : sg x.sign y.sign = 0) : sg x.natAbs y.natAbs * x.sign = sg x y := by
  have e : x.sign = y.sign := by
    unfold sg at h
    split at h
    · cases h
    · split at h
      · cases h
      · omega
  rcases Int.lt_trichotomy x 0 with a | a | a
  · rw [Int.sign_eq_neg_one_of_neg a] at e ⊢
    have b : y < 0 := Int.sign_eq_neg_one_iff_neg.1 e.symm
    unfold sg
    have h1 : ((x.natAbs : Int) < (y.natAbs : Int)) ↔ y < x := by omega
    have h2 : ((y.natAbs : Int) < (x.natAbs : Int)) ↔ x < y := by omega
    simp only [h1, h2]
    split <;> split <;> omega
  · subst a
    have b : y = 0 := Int.sign_eq_zero_iff_zero.1 (by rw [← e]; rfl)
    subst b; rfl
  · rw [Int.sign_eq_one_of_pos a] at e ⊢
    have b : 0 < y := Int.sign_eq_one_iff_pos.1 e.symm
    unfold sg
    have h1 : ((x.natAbs : Int) < (y.natAbs : Int)) ↔ x < y := by omega
    have h2 : ((y.natAbs : Int) < (x.natAbs : Int)) ↔ y < x := by omega
    simp only [h1, h2, Int.mul_one]

set_option maxHeartbeats 2000000 in
theorem Cmpw_W (x y : Int) (w : World) (hx : tl x.natAbs ≤ 5000) (hy : tl y.natAbs ≤ 5000) :
    Calls Tryz.prog 78 #[.string (W x), .string (W y)] w fun e w' => e = .returned (.tuple #[.int .i64 (sg x y), .int .i64 0]) ∧ Below w.heap.size w w' := by
  have HX : Hid _ := hx
  have HY : Hid _ := hy
  have VX : Hid _ := vl_W x
  have VY : Hid _ := vl_W y
  clear hx hy
  by_cases hc : sg x.sign y.sign = 0
  · have HE : Hid _ := sg_size hc
    have hw : IntKind.i64.wrap (sg x.natAbs y.natAbs * x.sign) = sg x.natAbs y.natAbs * x.sign := by
      rw [HE.out, IntKind.wrap_i64]
      have := sg_bd x y; omega
    go_enter Tryz.func78, Tryz.ntmps78
    go_wp2_with fail
    refine (both_W x y _ (by have := HX.out; omega) (by have := HY.out; omega)).mono ?_
    rintro e w1 ⟨rfl, HB⟩
    go_wp2_with fail
    go_region_with (first | (go_at_call 76; refine (sign_any _ _ _).mono ?_; rintro e w2 ⟨rfl, rfl⟩) | (go_at_call 101; refine (cmpInt_any _ _ _).mono ?_; rintro e w4 ⟨rfl, rfl⟩))
    all_goals rw [VX.out, VY.out]
    all_goals go_wp2_with fail
    all_goals refine (Compare_any _ _ _ (by have := HX.out; omega) (by have := HY.out; omega)).mono ?_
    all_goals rintro e w5 ⟨rfl, rfl⟩
    all_goals go_wp2_with fail
    all_goals refine (sign_any _ _ _).mono ?_
    all_goals rintro e w5 ⟨rfl, rfl⟩
    all_goals rw [VX.out]
    all_goals go_wp2
    all_goals go_ret2
    all_goals refine ⟨by rw [← HE.out]; rfl, ?_⟩
    all_goals (repeat' (first | exact HB | apply bl_alloc | apply bl_drew))
  · have HE : Hid _ := sg_sign hc
    have hc' : (sg x.sign y.sign == 0) = false := by simpa using hc
    have hc2 : (!(sg x.sign y.sign == 0)) = true := by rw [hc']; rfl
    go_enter Tryz.func78, Tryz.ntmps78
    go_wp2_with fail
    refine (both_W x y _ (by have := HX.out; omega) (by have := HY.out; omega)).mono ?_
    rintro e w1 ⟨rfl, HB⟩
    go_wp2_with fail
    go_region_with (first | (go_at_call 76; refine (sign_any _ _ _).mono ?_; rintro e w2 ⟨rfl, rfl⟩) | (go_at_call 101; refine (cmpInt_any _ _ _).mono ?_; rintro e w4 ⟨rfl, rfl⟩))
    all_goals rw [VX.out, VY.out]
    all_goals go_wp2
    all_goals go_ret2
    all_goals refine ⟨by rw [← HE.out]; rfl, ?_⟩
    all_goals (repeat' (first | exact HB | apply bl_alloc | apply bl_drew))

set_option maxHeartbeats 1000000 in
theorem Cmpw_no (s t : ByteArray) (w : World) (hs : s.size ≤ 40000) (ht : t.size ≤ 40000) (h : (wh s && wh t) = false) :
    Calls Tryz.prog 78 #[.string s, .string t] w fun e w' => e = .returned (.tuple #[.int .i64 0, .int .i64 2]) ∧ Below w.heap.size w w' := by
  have HX : Hid _ := hs
  have HY : Hid _ := ht
  have HW : Hid _ := h
  clear hs ht h
  go_enter Tryz.func78, Tryz.ntmps78
  go_wp2_with fail
  refine (both_any s t _ HX.out HY.out).mono ?_
  rintro e w1 ⟨b1, s1, b2, s2, rfl, HB⟩
  rw [HW.out]
  go_wp2
  go_ret2
  refine ⟨rfl, ?_⟩
  repeat' (first | exact HB | apply bl_alloc | apply bl_drew)

set_option maxHeartbeats 1000000 in
theorem Signw_no (s : ByteArray) (w : World) (hs : s.size ≤ 40000) (h : wh s = false) :
    Calls Tryz.prog 54 #[.string s] w fun e w' => e = .returned (.tuple #[.int .i64 0, .int .i64 2]) ∧ Below w.heap.size w w' := by
  have HX : Hid _ := hs
  have HW : Hid _ := h
  clear hs h
  go_enter Tryz.func54, Tryz.ntmps54
  go_wp2_with fail
  refine (parse_no s _ (by have := HX.out; omega) HW.out).mono ?_
  rintro e w1 ⟨rfl, rfl⟩
  go_wp2
  go_ret2
  refine ⟨rfl, ?_⟩
  repeat' (first | exact Below.refl _ _ | apply bl_alloc | apply bl_drew)

set_option maxHeartbeats 1000000 in
theorem Negw_no (s : ByteArray) (w : World) (hs : s.size ≤ 40000) (h : wh s = false) :
    Calls Tryz.prog 77 #[.string s] w fun e w' => e = .returned (.tuple #[.string ⟨#[]⟩, .int .i64 2]) ∧ Below w.heap.size w w' := by
  have HX : Hid _ := hs
  have HW : Hid _ := h
  clear hs h
  go_enter Tryz.func77, Tryz.ntmps77
  go_wp2_with fail
  refine (parse_no s _ (by have := HX.out; omega) HW.out).mono ?_
  rintro e w1 ⟨rfl, rfl⟩
  go_wp2
  go_ret2
  refine ⟨rfl, ?_⟩
  repeat' (first | exact Below.refl _ _ | apply bl_alloc | apply bl_drew)

set_option maxHeartbeats 1000000 in
theorem Signw_W (x : Int) (w : World) (hx : tl x.natAbs ≤ 5000) :
    Calls Tryz.prog 54 #[.string (W x)] w fun e w' => e = .returned (.tuple #[.int .i64 x.sign, .int .i64 0]) ∧ Below w.heap.size w w' := by
  have HX : Hid _ := hx
  have VX : Hid _ := vl_W x
  clear hx
  go_enter Tryz.func54, Tryz.ntmps54
  go_wp2_with fail
  refine (parse_W x _ (by have := HX.out; omega)).mono ?_
  rintro e w1 ⟨rfl, rfl⟩
  go_wp2_with fail
  refine (sign_any _ _ _).mono ?_
  rintro e w2 ⟨rfl, rfl⟩
  rw [VX.out]
  go_wp2
  go_ret2
  refine ⟨rfl, ?_⟩
  repeat' (first | exact Below.refl _ _ | apply bl_alloc | apply bl_drew)

set_option maxHeartbeats 1000000 in
theorem Rightw_is (s : ByteArray) (w : World) (hs : s.size ≤ 40000) :
    Calls Tryz.prog 72 #[.string s] w fun e w' => e = .returned (.bool (wh s)) ∧ Below w.heap.size w w' := by
  have HX : Hid _ := hs
  clear hs
  go_enter Tryz.func72, Tryz.ntmps72
  go_wp2_with fail
  refine (parse_all s _ HX.out).mono ?_
  rintro e w1 ⟨b, t, rfl, rfl⟩
  go_wp2
  go_ret
  refine ⟨rfl, ?_⟩
  repeat' (first | exact Below.refl _ _ | apply bl_alloc | apply bl_drew)

theorem W_gt (z : Int) : 0 < (W z).size := by have := tl_W z; have := tl_pos z.natAbs; omega

set_option maxHeartbeats 1000000 in
theorem Negw_W (x : Int) (w : World) (hx : tl x.natAbs ≤ 5000) :
    Calls Tryz.prog 77 #[.string (W x)] w fun e w' => e = .returned (.tuple #[.string (W (-x)), .int .i64 0]) ∧ Below w.heap.size w w' := by
  have HX : Hid _ := hx
  have VX : Hid _ := vl_W x
  have HZ : Hid ((W (-x)).size ≤ 6000) := by unfold Hid; have := W_size (-x); rw [Int.natAbs_neg] at this; omega
  clear hx
  go_enter Tryz.func77, Tryz.ntmps77
  go_wp2_with fail
  refine (parse_W x _ (by have := HX.out; omega)).mono ?_
  rintro e w1 ⟨rfl, rfl⟩
  go_wp2_with fail
  refine (negated_any _ _ _).mono ?_
  rintro e w2 ⟨rfl, rfl⟩
  go_wp2_with fail
  refine (text_num _ _ _ (by have := HX.out; omega)).mono ?_
  rintro e w3 ⟨rfl, rfl⟩
  rw [vl_not, VX.out]
  go_wp2_with fail
  refine (cloneStr_any (W (-x)) _ (by have := HZ.out; omega) (W_gt (-x))).mono ?_
  rintro e w4 ⟨rfl, h4⟩
  go_wp2
  go_ret2
  refine ⟨rfl, bl_trans ?_ h4⟩
  repeat' (first | exact Below.refl _ _ | apply bl_alloc | apply bl_drew)

end Go.Proofs.YtpmnfgbbkmodpaaGreatDoor
