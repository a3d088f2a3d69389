/-
  PACKAGE array IN LISTS OF RATIONALS: what its calls give at tensors, and what is refused. Conditions: sizes; the package's errors stand where they were laid.
-/
import Derived.Test.YtbfboippaejnmaaGreatDoorAs
namespace Go.Proofs.YtbfboippaejnmaaGreatDoor.Tn
set_option maxRecDepth 100000
open Go.RowKit Nm
set_option linter.unusedVariables false

/-! shapes of two numbers -/
theorem rgt_two (p q : Nat) : Sp.Rgt [(p : Int), (q : Int)] ↔ 1 ≤ p ∧ 1 ≤ q ∧ p * q ≤ 64 := by
  simp only [Sp.Rgt, Sp.nats, Sp.shz, List.map_cons, List.map_nil, List.length_cons, List.length_nil, List.mem_cons, List.not_mem_nil, or_false, forall_eq_or_imp, forall_eq, Int.toNat_natCast, Nat.mul_one]
  omega
theorem sz_two {p q : Nat} (h : Sp.Rgt [(p : Int), (q : Int)]) : Sp.szI [(p : Int), (q : Int)] = p * q := by
  rw [Sp.szI_of h]; simp [Sp.nats, Sp.shz]
theorem of_two {zs : List Int} (hr : Sp.Rgt zs) (hl : zs.length = 2) : ∃ p q : Nat, zs = [(p : Int), (q : Int)] := by
  match zs, hl with
  | [a, b], _ =>
    have h1 := hr.2.1 a (by simp)
    have h2 := hr.2.1 b (by simp)
    exact ⟨a.toNat, b.toNat, by rw [Int.toNat_of_nonneg (by omega), Int.toNat_of_nonneg (by omega)]⟩
theorem sl_two {w : World} {ao : Option Addr} {x y : Int} (h : Sp.Sl w ao [x, y]) : ∃ b off, ao = some ⟨b, off, none⟩ ∧ w.cell? ⟨b, off, none⟩ = some (.int .i64 x) ∧ w.cell? ⟨b, off + 1, none⟩ = some (.int .i64 y) := by
  obtain ⟨b, off, e, h0⟩ := h 0 (by simp)
  obtain ⟨b', off', e', h1⟩ := h 1 (by simp)
  rw [e] at e'
  cases e'
  exact ⟨b, off, e, by simpa using h0, by simpa using h1⟩
theorem Tt.two {w : World} {B : Nat} {a b : Option Addr} {p q m n : Nat} {qs : List Rat} {k : Nat} (h : Tt w B a b [(p : Int), (q : Int)] m n qs k) : qs.length = p * q ∧ n = p * q ∧ 1 ≤ p ∧ 1 ≤ q ∧ p * q ≤ 64 := by
  have hr := (rgt_two p q).1 h.tr.r
  have hl := h.tr.l
  rw [sz_two h.tr.r] at hl
  exact ⟨hl, by rw [← h.hn, hl], hr.1, hr.2.1, hr.2.2⟩

section
variable {a1 b1 a2 b2 : Option Addr} {B1 B2 k1 k2 N1 N2 : Nat} {qs rs : List Rat} {aF aZ : Addr} {w : World} {p n q : Nat}
theorem znum (c d i j : Nat) (h : Tt w B1 a1 b1 [(p : Int), (q : Int)] 2 N1 qs k1) (hi : i < p) (hj : j < q) :
    Calls Tryz.prog 36 #[.agg #[.slice a1 2 c, .slice b1 N1 d], .int .i64 (i : Int), .int .i64 (j : Int)] w fun e w' => e = .returned (.string (R (qs.getD (i * q + j) 0))) ∧ Below w.heap.size w w' := by
  obtain ⟨hl, hn, _, _, h64⟩ := h.two
  have hin := in_grid hi hj
  obtain ⟨x, y, rfl, x0, x1⟩ := sl_two h.tm.s
  obtain ⟨u, v, e, hc⟩ := row_str h.tm.r (i := i * q + j) (by rw [mapR_len]; omega)
  subst e
  rw [mapR_at qs (by omega)] at hc
  exact number_raw x y u v i j q N1 c d _ w (by omega) (by omega) (by omega) x1 hc
theorem sig_size {F : Nat → Rat} {k j : Nat} (h : ∀ i, i < n → Bd (F i) k) (hj : j ≤ n) (hk : n * (k + 1) + 1 ≤ 20000) : (R (sig j F)).size ≤ 50000 := by
  have hb := Bd.sig (n := j) (k := k) (f := F) fun i hi => h i (by omega)
  have : j * (k + 1) ≤ n * (k + 1) := Nat.mul_le_mul_right _ hj
  exact Bd.size hb (by omega)
theorem zrbc (c1 d1 c2 d2 i k : Nat) (h1 : Tt w B1 a1 b1 [(p : Int), (n : Int)] 2 N1 qs k1) (h2 : Tt w B2 a2 b2 [(n : Int), (q : Int)] 2 N2 rs k2) (hi : i < p) (hk : k < q) (hb : n * (k1 + k2 + 1) + 1 ≤ 20000) :
    Calls Tryz.prog 34 #[.agg #[.slice a1 2 c1, .slice b1 N1 d1], .int .i64 (i : Int), .agg #[.slice a2 2 c2, .slice b2 N2 d2], .int .i64 (k : Int)] w fun e w' => e = .returned (.string (R (sig n fun j => qs.getD (i * n + j) 0 * rs.getD (j * q + k) 0))) ∧ Below w.heap.size w w' := by
  obtain ⟨l1, e1, _, hn1, h64⟩ := h1.two
  obtain ⟨l2, e2, _, _, _⟩ := h2.two
  obtain ⟨x, y, ha, x0, x1⟩ := sl_two h1.tm.s
  have hn64 : n ≤ 64 := by
    have : 1 * n ≤ p * n := Nat.mul_le_mul_right _ (by omega)
    omega
  have hm : k1 + k2 + 1 ≤ n * (k1 + k2 + 1) := Nat.le_mul_of_pos_left _ hn1
  have bX : ∀ j, j < n → Bd (qs.getD (i * n + j) 0) k1 := fun j hj => h1.tr.b _ (mem_getD qs (by have := in_grid hi hj; omega))
  have bY : ∀ j, j < n → Bd (rs.getD (j * q + k) 0) k2 := fun j hj => h2.tr.b _ (mem_getD rs (by have := in_grid hj hk; omega))
  have bZ : ∀ j, j < n → Bd (qs.getD (i * n + j) 0 * rs.getD (j * q + k) 0) (k1 + k2) := fun j hj => (bX j hj).mul (bY j hj)
  have hX := fun (j : Nat) (v : World) (hj : j < n) (hv : Below w.heap.size w v) => znum c1 d1 i j (h1.below hv) hi hj
  have hY := fun (j : Nat) (v : World) (hj : j < n) (hv : Below w.heap.size w v) => znum c2 d2 j k (h2.below hv) hj hk
  subst ha
  exact rbc_raw x y c1 N1 d1 n N2 c2 d2 i k b1 a2 b2 (fun j => R (qs.getD (i * n + j) 0)) (fun j => R (rs.getD (j * q + k) 0)) (fun j => R (qs.getD (i * n + j) 0 * rs.getD (j * q + k) 0))
    (fun j => R (sig j fun j => qs.getD (i * n + j) 0 * rs.getD (j * q + k) 0)) w (by omega) x1 (show R (sig 0 _) = _ by rw [sig_zero]; decide +kernel) hX hY
    (fun j v hj => Mul_R _ _ v (Bd.size (bX j hj) (by omega)) (Bd.size (bY j hj) (by omega)))
    (fun j v hj => by
      have := Add_R (sig j fun j => qs.getD (i * n + j) 0 * rs.getD (j * q + k) 0) (qs.getD (i * n + j) 0 * rs.getD (j * q + k) 0) v (sig_size bZ (by omega) hb) (Bd.size (bZ j hj) (by omega))
      rw [← sig_succ j (fun j => qs.getD (i * n + j) 0 * rs.getD (j * q + k) 0)] at this
      exact this)
end

theorem cf33 : ∀ (args : Array Value) (w : World), (callFunc 33 args).run Tryz.prog w = .ok (.enter 33 args) w := fun a w => run_enter Tryz.func33 (by kernel_rfl) rfl a w
theorem cf35 : ∀ (args : Array Value) (w : World), (callFunc 35 args).run Tryz.prog w = .ok (.enter 35 args) w := fun a w => run_enter Tryz.func35 (by kernel_rfl) rfl a w
theorem clo33 (i k A B : Nat) (x1 x2 y1 y2 : Value) (t : ByteArray) (w : World) (h0 : w.cell? ⟨A, 0, none⟩ = some x1) (h1 : w.cell? ⟨A, 1, none⟩ = some x2) (h2 : w.cell? ⟨B, 0, none⟩ = some y1) (h3 : w.cell? ⟨B, 1, none⟩ = some y2)
    (hc : Calls Tryz.prog 34 #[.agg #[x1, x2], .int .i64 (i : Int), .agg #[y1, y2], .int .i64 (k : Int)] w fun e w' => e = .returned (.string t) ∧ Below w.heap.size w w') :
    Calls Tryz.prog 33 #[.int .i64 (i : Int), .int .i64 (k : Int), .pointer (some ⟨A, 0, none⟩), .pointer (some ⟨B, 0, none⟩)] w fun e w' => e = .returned (.string t) ∧ Below w.heap.size w w' := by
  go_enter Tryz.func33, Tryz.ntmps33
  go_wp2_with fail
  refine hc.mono ?_
  rintro e w1 ⟨rfl, hb⟩
  have HB : Hid _ := hb
  clear hb hc
  go_wp2
  go_ret
  exact ⟨rfl, HB.out⟩
theorem clo35 (i k A : Nat) (x1 x2 : Value) (t : ByteArray) (w : World) (h0 : w.cell? ⟨A, 0, none⟩ = some x1) (h1 : w.cell? ⟨A, 1, none⟩ = some x2)
    (hc : Calls Tryz.prog 36 #[.agg #[x1, x2], .int .i64 (k : Int), .int .i64 (i : Int)] w fun e w' => e = .returned (.string t) ∧ Below w.heap.size w w') :
    Calls Tryz.prog 35 #[.int .i64 (i : Int), .int .i64 (k : Int), .pointer (some ⟨A, 0, none⟩)] w fun e w' => e = .returned (.string t) ∧ Below w.heap.size w w' := by
  go_enter Tryz.func35, Tryz.ntmps35
  go_wp2_with fail
  refine hc.mono ?_
  rintro e w1 ⟨rfl, hb⟩
  have HB : Hid _ := hb
  clear hb hc
  go_wp2
  go_ret
  exact ⟨rfl, HB.out⟩

section
variable {a1 b1 a2 b2 : Option Addr} {B1 B2 k1 k2 N1 N2 N : Nat} {qs rs : List Rat} {aF aZ : Addr} {w : World} {p n q : Nat}
theorem sl_of_two {v : World} {b : Nat} {x y : Int} (g0 : v.cell? ⟨b, 0, none⟩ = some (.int .i64 x)) (g1 : v.cell? ⟨b, 1, none⟩ = some (.int .i64 y)) : Sp.Sl v (some ⟨b, 0, none⟩) [x, y] := row_sl (Row.two g0 g1)
theorem two_le {p q : Nat} (h : 1 ≤ p ∧ 1 ≤ q ∧ p * q ≤ 64) : p ≤ 64 ∧ q ≤ 64 := by
  have h1 : p * 1 ≤ p * q := Nat.mul_le_mul_left _ h.2.1
  have h2 : 1 * q ≤ p * q := Nat.mul_le_mul_right _ h.1
  omega
theorem tt_of {zs : List Int} {m : Nat} {a3 b3 : Option Addr} {ts : List Rat} {k : Nat} (hT : Tm w B1 a3 b3 zs (ts.map R)) (hr : Sp.Rgt zs) (hl : ts.length = Sp.szI zs) (hb : ∀ t, t ∈ ts → Bd t k) (hm : zs.length = m) (hn : ts.length = N) : Tt w B1 a3 b3 zs m N ts k := ⟨hT, ⟨hr, hl, hb⟩, hm, hn⟩
theorem mem_grid {α : Type} {F : Nat → Nat → α} {t : α} (h : t ∈ grid p q F) : ∃ i j, i < p ∧ j < q ∧ t = F i j := by
  obtain ⟨s, hs, rfl⟩ := List.mem_map.1 h
  have := grid_row (List.mem_range.1 hs)
  exact ⟨_, _, this.1, this.2.1, rfl⟩
theorem mm_bd (h1 : Tt w B1 a1 b1 [(p : Int), (n : Int)] 2 N1 qs k1) (h2 : Tt w B2 a2 b2 [(n : Int), (q : Int)] 2 N2 rs k2) : ∀ t, t ∈ mm p n q qs rs → Bd t (n * (k1 + k2 + 1) + 1) := by
  intro t ht
  obtain ⟨l1, _⟩ := h1.two
  obtain ⟨l2, _⟩ := h2.two
  obtain ⟨i, k, hi, hk, rfl⟩ := mem_grid ht
  exact Bd.sig fun j hj => (h1.tr.b _ (mem_getD qs (by have := in_grid hi hj; omega))).mul (h2.tr.b _ (mem_getD rs (by have := in_grid hj hk; omega)))
theorem zmm (c1 d1 c2 d2 : Nat) (hE : Er w aF aZ) (h1 : Tt w B1 a1 b1 [(p : Int), (n : Int)] 2 N1 qs k1) (h2 : Tt w B2 a2 b2 [(n : Int), (q : Int)] 2 N2 rs k2) (hpq : p * q ≤ 64) (hN : p * q = N) (hb : n * (k1 + k2 + 1) + 1 ≤ 20000) :
    Calls Tryz.prog 14 #[.agg #[.slice a1 2 c1, .slice b1 N1 d1], .agg #[.slice a2 2 c2, .slice b2 N2 d2]] w (Got w [(p : Int), (q : Int)] 2 N (mm p n q qs rs) (n * (k1 + k2 + 1) + 1)) := by
  obtain ⟨l1, e1, hp, hn1, h64⟩ := h1.two
  obtain ⟨l2, e2, _, hq, _⟩ := h2.two
  have hr : Sp.Rgt [(p : Int), (q : Int)] := (rgt_two p q).2 ⟨hp, hq, hpq⟩
  have hle := two_le ⟨hp, hq, hpq⟩
  have hm : k1 + k2 + 1 ≤ n * (k1 + k2 + 1) := Nat.le_mul_of_pos_left _ hn1
  have R1 := fun (v : World) (hv : Below w.heap.size w v) => zright c1 d1 (hE.below hv) (h1.below hv) (by omega)
  have R2 := fun (v : World) (hv : Below w.heap.size w v) => zright c2 d2 (hE.below hv) (h2.below hv) (by omega)
  have HC := fun (i k : Nat) (v : World) (hi : i < p) (hk : k < q) (hv : Below w.heap.size w v) => zrbc c1 d1 c2 d2 i k (h1.below hv) (h2.below hv) hi hk hb
  obtain ⟨x, y, ha, x0, x1⟩ := sl_two h1.tm.s
  obtain ⟨x', y', hb', y0, y1⟩ := sl_two h2.tm.s
  have hbd := mm_bd h1 h2
  subst ha hb'
  have key := mat_yes x y N1 c1 d1 x' y' N2 c2 d2 p n n q N b1 b2 ((mm p n q qs rs).map R) w R1 R2 x0 x1 y0 y1 (by simp)
    (fun v b g0 g1 => by
      have k := Sp.right_any (some ⟨b, 0, none⟩) [(p : Int), (q : Int)] 2 v (by simp) (sl_of_two g0 g1)
      rw [decide_eq_true hr] at k
      exact k)
    (fun v b hz g0 g1 => by
      have k := rows_raw b 0 2 p q 33 #[.pointer (some ⟨w.heap.size, 0, none⟩), .pointer (some ⟨w.heap.size + 1, 0, none⟩)] (fun i k => R (sig n fun j => qs.getD (i * n + j) 0 * rs.getD (j * q + k) 0)) v hpq hle.1 hle.2 g0 g1
        (fun v' hv' => by
          have k := Sp.size_any (some ⟨b, 0, none⟩) [(p : Int), (q : Int)] 2 v' (by simp) (sl_of_two (cell_below hv' g0) (cell_below hv' g1))
          rw [sz_two hr] at k
          exact k)
        cf33
        (fun i k v' hi hk hv' => by
          have hz' := hz.below hv'
          have := clo33 i k w.heap.size (w.heap.size + 1) _ _ _ _ _ v' hz'.a0 hz'.a1 hz'.b0 hz'.b1 (HC i k v' hi hk hz'.bl)
          simpa using this)
      rw [hN] at k
      have e : (mm p n q qs rs).map R = grid p q (fun i k => R (sig n fun j => qs.getD (i * n + j) 0 * rs.getD (j * q + k) 0)) := by unfold mm; rw [grid_map]
      rw [e]
      exact k)
  refine key.mono ?_
  rintro e w' ⟨a3, c3, b3, d3, rfl, hT, hB⟩
  exact ⟨a3, c3, b3, d3, rfl, tt_of hT hr (by rw [mm_len, sz_two hr]) hbd rfl (by rw [mm_len, hN]), hB⟩
theorem ztr (c1 d1 : Nat) (hE : Er w aF aZ) (h1 : Tt w B1 a1 b1 [(p : Int), (q : Int)] 2 N qs k1) (hk : k1 ≤ 20000) :
    Calls Tryz.prog 15 #[.agg #[.slice a1 2 c1, .slice b1 N d1]] w (Got w [(q : Int), (p : Int)] 2 N (tr p q qs) k1) := by
  obtain ⟨l1, e1, hp, hq, h64⟩ := h1.two
  have hr : Sp.Rgt [(q : Int), (p : Int)] := (rgt_two q p).2 ⟨hq, hp, by rw [Nat.mul_comm]; exact h64⟩
  have hle := two_le ⟨hp, hq, h64⟩
  have R1 := fun (v : World) (hv : Below w.heap.size w v) => zright c1 d1 (hE.below hv) (h1.below hv) hk
  have HC := fun (i k : Nat) (v : World) (hi : i < q) (hk : k < p) (hv : Below w.heap.size w v) => znum c1 d1 k i (h1.below hv) hk hi
  obtain ⟨x, y, ha, x0, x1⟩ := sl_two h1.tm.s
  have hbd : ∀ t, t ∈ tr p q qs → Bd t k1 := fun t ht => by
    obtain ⟨i, k, hi, hk, rfl⟩ := mem_grid ht
    exact h1.tr.b _ (mem_getD qs (by have := in_grid hk hi; omega))
  subst ha
  have hqp : q * p = N := by rw [e1, Nat.mul_comm]
  have key := tra_yes x y N c1 d1 p q N b1 ((tr p q qs).map R) w R1 x0 x1
    (fun v b hz g0 g1 => by
      have k := rows_raw b 0 2 q p 35 #[.pointer (some ⟨w.heap.size, 0, none⟩)] (fun r c => R (qs.getD (c * q + r) 0)) v (by rw [Nat.mul_comm]; exact h64) hle.2 hle.1 g0 g1
        (fun v' hv' => by
          have k := Sp.size_any (some ⟨b, 0, none⟩) [(q : Int), (p : Int)] 2 v' (by simp) (sl_of_two (cell_below hv' g0) (cell_below hv' g1))
          rw [sz_two hr] at k
          exact k)
        cf35
        (fun i k v' hi hk hv' => by
          have hz' := hz.below hv'
          have := clo35 i k w.heap.size _ _ _ v' hz'.a0 hz'.a1 (HC i k v' hi hk hz'.bl)
          simpa using this)
      rw [hqp] at k
      have e : (tr p q qs).map R = grid q p (fun r c => R (qs.getD (c * q + r) 0)) := by unfold tr; rw [grid_map]
      rw [e]
      exact k)
  refine key.mono ?_
  rintro e w' ⟨a3, c3, b3, d3, rfl, hT, hB⟩
  exact ⟨a3, c3, b3, d3, rfl, tt_of hT hr (by rw [tr_len, sz_two hr]) hbd rfl (by rw [tr_len, hqp]), hB⟩
end
end Go.Proofs.YtbfboippaejnmaaGreatDoor.Tn
