/-
  PRODUCTS; the calls of package nat but divisions; divisions by one limb. Conditions: each theorem's own.
-/
import Derived.Test.YtadgnafafdfioaaGreatDoorSum
import Derived.Test.YtadgnafafdfioaaGreatDoorNm
import Derived.Test.YtadgnafafdfioaaGreatDoorForm
import Derived.Deep.QuietTactic
import Derived.BigQuiet
namespace Go.Proofs.YtadgnafafdfioaaGreatDoor
section
set_option maxRecDepth 100000
open Go.RowKit Nm
set_option linter.unusedVariables false
end
end Go.Proofs.YtadgnafafdfioaaGreatDoor
namespace Go.Proofs.YtadgnafafdfioaaGreatDoor
section
set_option maxRecDepth 100000
open Go.RowKit Nm
set_option linter.unusedVariables false

theorem cmp_bytes : ∀ (l m : List UInt8), Dg l → Dg m → l.length = m.length → Lib.compareBytes l m = sg (dv l) (dv m) := by
  intro l
  induction l with
  | nil =>
    intro m _ _ h
    have hm : m = [] := List.length_eq_zero_iff.1 (by simpa using h.symm)
    subst hm; rfl
  | cons c l ih =>
    intro m hl hm h
    match m, h with
    | d :: m, h =>
      have h' : l.length = m.length := by simpa using h
      have a1 := dv_lt (l := l) (fun e he => hl e (by simp [he]))
      have a2 := dv_lt (l := m) (fun e he => hm e (by simp [he]))
      have b1 := hl c (by simp)
      have b2 := hm d (by simp)
      simp only [Lib.compareBytes]
      rw [dv_cons, dv_cons, h']
      rw [h'] at a1
      generalize 10 ^ m.length = P at *
      by_cases e1 : c < d
      · rw [if_pos e1]
        have e1' : c.toNat < d.toNat := e1
        have : (c.toNat - 48 + 1) * P ≤ (d.toNat - 48) * P := Nat.mul_le_mul_right _ (by omega)
        rw [Nat.add_mul, Nat.one_mul] at this
        unfold sg; rw [if_pos (by omega)]
      · rw [if_neg e1]
        by_cases e2 : d < c
        · rw [if_pos e2]
          have e2' : d.toNat < c.toNat := e2
          have : (d.toNat - 48 + 1) * P ≤ (c.toNat - 48) * P := Nat.mul_le_mul_right _ (by omega)
          rw [Nat.add_mul, Nat.one_mul] at this
          unfold sg; rw [if_neg (by omega), if_pos (by omega)]
        · rw [if_neg e2]
          have e3 : c.toNat = d.toNat := by
            have x1 : ¬ c.toNat < d.toNat := e1
            have x2 : ¬ d.toNat < c.toNat := e2
            omega
          rw [ih m (fun e he => hl e (by simp [he])) (fun e he => hm e (by simp [he])) h', e3]
          unfold sg
          have : ∀ k : Nat, (((k + dv l : Nat) : Int) < ((k + dv m : Nat) : Int) ↔ (dv l : Int) < (dv m : Int)) ∧ (((k + dv m : Nat) : Int) < ((k + dv l : Nat) : Int) ↔ (dv m : Int) < (dv l : Int)) := fun k => by omega
          simp only [this]

theorem sg_lt {a b : Int} (h : a < b) : sg a b = -1 := by simp [sg, h]
theorem sg_gt {a b : Int} (h : b < a) : sg a b = 1 := by unfold sg; rw [if_neg (by omega), if_pos h]
theorem sg_eq {a b : Int} (h : a = b) : sg a b = 0 := by unfold sg; rw [if_neg (by omega), if_neg (by omega)]

set_option maxHeartbeats 400000 in
theorem compareTexts_any (x y : Nat) (w : World) (hx : tl x ≤ 2500000) (hy : tl y ≤ 2500000) :
    Calls Tryz.prog 101 #[.string (S x), .string (S y)] w fun e w' => e = .returned (.int .i64 (sg x y)) ∧ w' = w := by
  have sx := S_size x
  have sy := S_size y
  have SX : Hid _ := sx
  have SY : Hid _ := sy
  clear sx sy
  rcases Nat.lt_trichotomy (tl x) (tl y) with c | c | c
  · have HR : Hid (sg x y = -1) := sg_lt (by
      rcases Nat.lt_or_ge x y with d | d
      · omega
      · have := tl_mono d; omega)
    have h1 : sg (S x).size (S y).size = -1 := sg_lt (by rw [SX.out, SY.out]; omega)
    go_enter Tryz.func101, Tryz.ntmps101
    go_wp2_with fail
    refine (cmpInt_any _ _ _).mono ?_
    rintro e w2 ⟨rfl, rfl⟩
    go_wp2
    go_ret
    exact ⟨by rw [HR.out]; rfl, rfl⟩
  · have HR : Hid (Lib.compareBytes (S x).data.toList (S y).data.toList = sg x y) := by
      show Lib.compareBytes (S x).data.toList (S y).data.toList = sg x y
      rw [S_data, S_data, cmp_bytes _ _ (rt_dg (rt_tx x)) (rt_dg (rt_tx y)) c, dv_tx, dv_tx]
    have h1 : sg (S x).size (S y).size = 0 := sg_eq (by rw [SX.out, SY.out]; omega)
    go_enter Tryz.func101, Tryz.ntmps101
    go_wp2_with fail
    refine (cmpInt_any _ _ _).mono ?_
    rintro e w2 ⟨rfl, rfl⟩
    go_wp2_with fail
    refine (stringsCompare_any _ _ _).mono ?_
    rintro e w2 ⟨rfl, rfl⟩
    rw [HR.out]
    go_wp2
    go_ret
    exact ⟨rfl, rfl⟩
  · have HR : Hid (sg x y = 1) := sg_gt (by
      rcases Nat.lt_or_ge y x with d | d
      · omega
      · have := tl_mono d; omega)
    have h1 : sg (S x).size (S y).size = 1 := sg_gt (by rw [SX.out, SY.out]; omega)
    go_enter Tryz.func101, Tryz.ntmps101
    go_wp2_with fail
    refine (cmpInt_any _ _ _).mono ?_
    rintro e w2 ⟨rfl, rfl⟩
    go_wp2
    go_ret
    exact ⟨by rw [HR.out]; rfl, rfl⟩

theorem rt_S (x : Nat) : rt (S x).data.toList = true := by rw [S_data]; exact rt_tx x
theorem dv_S (x : Nat) : dv (S x).data.toList = x := by rw [S_data]; exact dv_tx x

/-- a text, parsed -/
theorem parse_S (x : Nat) (w : World) (hx : tl x ≤ 500000) : Calls Tryz.prog 103 #[.string (S x)] w fun e w' => Res w x e w' := by
  refine (parse_any (S x) w (by rw [S_size]; exact hx) (rt_dg (rt_S x))).mono ?_
  rintro e w' ⟨g, n, cap, f, h1, h2, h3, h4, h5, h6, h7, h8, _⟩
  exact ⟨g, n, cap, f, h1, h2, h3, by omega, h5, h6, by rw [h7, dv_S], h8⟩

/-- limbs, told -/
theorem text_S (b off n cap : Nat) (f : Nat → Nat) (w : World) (hn : n ≤ 5000000) (hR : Rw w b off f n) (hN : Nrm f n) :
    Calls Tryz.prog 104 #[.slice (some ⟨b, off, none⟩) n cap] w fun e w' => e = .returned (.string (S (lv f n))) ∧ Below w.heap.size w w' := by
  rcases Nat.eq_zero_or_pos n with c | c
  · subst c
    refine (text_none _ _ _).mono ?_
    rintro e w' ⟨rfl, rfl⟩
    exact ⟨rfl, Below.refl _ _⟩
  · exact text_any b off n cap f w hn c hR hN

/-- a limb's number is at most the text's -/
theorem len_bd {f : Nat → Nat} {n x : Nat} (h : Nrm f n) (e : lv f n = x) : n ≤ tl x := by
  rcases Nat.eq_zero_or_pos n with c | c
  · omega
  · have h1 := h.hi c
    rw [e] at h1
    have h2 := lt_tl x
    rcases Nat.lt_or_ge (tl x) n with d | d
    · exfalso
      have h3 : 10 ^ tl x ≤ 10 ^ (n - 1) := Nat.pow_le_pow_right (by omega) (by omega)
      have h4 : 10 ^ (n - 1) ≤ 1000000000 ^ (n - 1) := Nat.pow_le_pow_left (by omega) _
      omega
    · exact d

set_option maxHeartbeats 1000000 in
theorem Compare_any (x y : Nat) (w : World) (hx : tl x ≤ 500000) (hy : tl y ≤ 500000) :
    Calls Tryz.prog 93 #[.string (S x), .string (S y)] w fun e w' => e = .returned (.tuple #[.int .i64 (sg x y), .int .i64 0]) ∧ w' = w := by
  have HX : Hid _ := S_size x
  have HY : Hid _ := S_size y
  go_enter Tryz.func93, Tryz.ntmps93
  go_wp2_with fail
  refine (bothRight_yes (S x) (S y) _ (by rw [HX.out]; omega) (by rw [HY.out]; omega) (rt_S x) (rt_S y)).mono ?_
  rintro e w2 ⟨rfl, rfl⟩
  go_wp2_with fail
  refine (compareTexts_any x y _ (by omega) (by omega)).mono ?_
  rintro e w2 ⟨rfl, rfl⟩
  go_wp2
  go_ret2
  exact ⟨rfl, rfl⟩
end
end Go.Proofs.YtadgnafafdfioaaGreatDoor
namespace Go.Proofs.YtadgnafafdfioaaGreatDoor
section
set_option maxRecDepth 100000
open Go.RowKit Nm
set_option linter.unusedVariables false

/-- nothing has turned but the count of draws -/
structure Sm (w w' : World) : Prop where
  os : w'.os = w.os
  tape : w'.tape = w.tape
  output : w'.output = w.output
  heap : w'.heap = w.heap

theorem Sm.refl (w : World) : Sm w w := ⟨rfl, rfl, rfl, rfl⟩
theorem Sm.trans {a b c : World} (h : Sm a b) (k : Sm b c) : Sm a c := ⟨k.os.trans h.os, k.tape.trans h.tape, k.output.trans h.output, k.heap.trans h.heap⟩
theorem Sm.drewN (w : World) (n : Nat) : Sm w (w.drewN n) := ⟨rfl, rfl, rfl, rfl⟩
theorem Sm.drew (w : World) : Sm w w.drew := ⟨rfl, rfl, rfl, rfl⟩
theorem Sm.below {w w' : World} (h : Sm w w') (B : Nat) : Below B w w' := ⟨h.os, h.tape, h.output, by rw [h.heap]; exact Nat.le_refl _, fun k _ => by rw [h.heap]⟩
theorem Rw.sm {w w' : World} {b off n : Nat} {f : Nat → Nat} (h : Rw w b off f n) (hs : Sm w w') : Rw w' b off f n := fun i hi => by rw [World.cell?_of_block (w := w) (a := ⟨b, off + i, none⟩) (by rw [hs.heap])]; exact h i hi
theorem Ow.sm {w w' : World} {k : IntKind} {b n : Nat} {f : Nat → Nat} (h : Ow w k b f n) (hs : Sm w w') : Ow w' k b f n :=
  ⟨fun i hi => by rw [World.cell?_of_block (w := w) (a := ⟨b, i, none⟩) (by rw [hs.heap])]; exact h.cell i hi, fun i => by rw [World.frozen?_of_block (w := w) (a := ⟨b, i, none⟩) (by rw [hs.heap])]; exact h.frz i, by rw [hs.heap]; exact h.lt⟩

set_option maxHeartbeats 1000000 in
theorem compare_any (b1 o1 n1 c1 b2 o2 n2 c2 : Nat) (f g : Nat → Nat) (w : World) (hn1 : n1 ≤ 5000000) (hn2 : n2 ≤ 5000000) (h1 : Rw w b1 o1 f n1) (h2 : Rw w b2 o2 g n2) (hf : Nrm f n1) (hg : Nrm g n2) :
    Calls Tryz.prog 109 #[.slice (some ⟨b1, o1, none⟩) n1 c1, .slice (some ⟨b2, o2, none⟩) n2 c2] w fun e w' => e = .returned (.int .i64 (sg (lv f n1 : Nat) (lv g n2 : Nat))) ∧ Sm w w' := by
  rcases Nat.lt_trichotomy n1 n2 with c | c | c
  · have HR : Hid (sg (lv f n1 : Nat) (lv g n2 : Nat) = -1) := sg_lt (by
      rcases Nat.lt_or_ge (lv f n1) (lv g n2) with d | d
      · omega
      · have := hg.len_le hf d; omega)
    have h1 : sg n1 n2 = -1 := sg_lt (by omega)
    go_enter Tryz.func109, Tryz.ntmps109
    go_wp2_with fail
    refine (cmpInt_any _ _ _).mono ?_
    rintro e w2 ⟨rfl, rfl⟩
    go_wp2
    go_ret
    exact ⟨by rw [HR.out]; rfl, Sm.refl _⟩
  · subst c
    have h1' : sg n1 n1 = 0 := sg_eq rfl
    go_enter Tryz.func109, Tryz.ntmps109
    go_wp2_with fail
    refine (cmpInt_any _ _ _).mono ?_
    rintro e w2 ⟨rfl, rfl⟩
    go_wp2_with fail
    go_loopw [6] (fun i wr => ∃ k : Nat, k ≤ n1 ∧ (k = 0 ∧ i = .int .i64 (-1) ∨ ∃ m, k = m + 1 ∧ i = .int .i64 (m : Nat)) ∧ (∀ i, k ≤ i → i < n1 → f i = g i) ∧ Sm w2 wr) (fun i _ => (intOf i + 1).toNat)
    case atStart =>
      refine ⟨n1, Nat.le_refl _, ?_, fun i a b => by omega, Sm.refl _⟩
      rcases Nat.eq_zero_or_pos n1 with d | d
      · exact Or.inl ⟨d, by subst d; rfl⟩
      · exact Or.inr ⟨n1 - 1, by omega, by go_num⟩
    case round =>
      obtain ⟨k, hk, hi, hz, hS⟩ := hrel
      have HZ : Hid _ := hz
      clear hz
      rcases hi with ⟨rfl, rfl⟩ | ⟨m, rfl, rfl⟩
      · have HR : Hid (sg (lv f n1 : Nat) (lv g n1 : Nat) = 0) := sg_eq (by rw [lv_congr (fun i hi => HZ.out i (by omega) hi)])
        go_wp2
        go_ret
        exact ⟨by rw [HR.out]; rfl, hS⟩
      · have r1 := (h1.sm hS) m (by omega)
        have r2 := (h2.sm hS) m (by omega)
        have m1 : (m : Int) < (n1 : Int) := by omega
        rcases Nat.lt_trichotomy (f m) (g m) with d | d | d
        · have HR : Hid (sg (lv f n1 : Nat) (lv g n1 : Nat) = -1) := sg_lt (by have := lv_less (n := n1) (k := m) (by omega) hf.1 (fun i a b => HZ.out i (by omega) b) d; omega)
          have hsg : sg (f m : Nat) (g m : Nat) = -1 := sg_lt (by omega)
          go_wp2_with fail
          go_quiet ((go_at_call 122; exact Calls.quiet_of_same (cmpInt64_any _ _ _)))
          go_wp2
          go_ret
          exact ⟨by rw [HR.out, ← hsg]; rfl, hS.trans (Sm.drewN _ _)⟩
        · have hsg : sg (f m : Nat) (g m : Nat) = 0 := sg_eq (by omega)
          have HD : Hid _ := d
          clear d
          go_wp2_with fail
          go_quiet ((go_at_call 122; exact Calls.quiet_of_same (cmpInt64_any _ _ _)))
          go_wp2
          go_roundw
          case rel =>
            refine ⟨m, by omega, ?_, fun i a b => ?_, hS.trans (Sm.drewN _ _)⟩
            · rcases Nat.eq_zero_or_pos m with e | e
              · exact Or.inl ⟨e, by subst e; rfl⟩
              · exact Or.inr ⟨m - 1, by omega, by go_num⟩
            · by_cases e : i = m
              · subst e; exact HD.out
              · exact HZ.out i (by omega) b
          case measure => simp [intOf]
        · have HR : Hid (sg (lv f n1 : Nat) (lv g n1 : Nat) = 1) := sg_gt (by have := lv_less (f := g) (g := f) (n := n1) (k := m) (by omega) hg.1 (fun i a b => (HZ.out i (by omega) b).symm) d; omega)
          have hsg : sg (f m : Nat) (g m : Nat) = 1 := sg_gt (by omega)
          go_wp2_with fail
          go_quiet ((go_at_call 122; exact Calls.quiet_of_same (cmpInt64_any _ _ _)))
          go_wp2
          go_ret
          exact ⟨by rw [HR.out, ← hsg]; rfl, hS.trans (Sm.drewN _ _)⟩
  · have HR : Hid (sg (lv f n1 : Nat) (lv g n2 : Nat) = 1) := sg_gt (by
      rcases Nat.lt_or_ge (lv g n2) (lv f n1) with d | d
      · omega
      · have := hf.len_le hg d; omega)
    have h1 : sg n1 n2 = 1 := sg_gt (by omega)
    go_enter Tryz.func109, Tryz.ntmps109
    go_wp2_with fail
    refine (cmpInt_any _ _ _).mono ?_
    rintro e w2 ⟨rfl, rfl⟩
    go_wp2
    go_ret
    exact ⟨by rw [HR.out]; rfl, Sm.refl _⟩

theorem vals_get (f : Nat → Nat) (n j : Nat) (u : Value) (h : (vals f n)[j]? = some u) : j < n ∧ u = .int .i64 (f j : Nat) := by
  unfold vals at h
  rw [List.getElem?_map] at h
  rcases Nat.lt_or_ge j n with c | c
  · rw [List.getElem?_range c] at h; simp at h; exact ⟨c, h.symm⟩
  · rw [List.getElem?_eq_none (by simpa using c)] at h; simp at h

theorem vals_one (f : Nat → Nat) (n : Nat) : ∀ u ∈ vals f n, u.oneCell' = true := by
  intro u hu
  unfold vals at hu
  obtain ⟨i, _, rfl⟩ := List.mem_map.1 hu
  rfl

theorem addr_add (b off j : Nat) : (⟨b, off, none⟩ : Addr).add j = ⟨b, off + j, none⟩ := by unfold Addr.add; split <;> simp_all

theorem Rw.news {w : World} {b off n : Nat} {f : Nat → Nat} (h : Rw w b off f n) : ∀ j u, (vals f n)[j]? = some u → w.cell? ((⟨b, off, none⟩ : Addr).add j) = some u := by
  intro j u hj
  obtain ⟨h1, rfl⟩ := vals_get f n j u hj
  rw [addr_add]; exact h j h1

theorem vals_len (f : Nat → Nat) (n : Nat) : (vals f n).length = n := by simp [vals]

/-- what is owned, as numbers -/
theorem Ow.of_vals {w : World} {base e n cap g : Nat} {f : Nat → Nat} (h : w.ownsRow base e 1 (.slice (some ⟨g, 0, none⟩) n cap) n (vals f n)) : Ow w .i64 g f n :=
  ⟨fun i hi => by rw [h.cellAt i (by omega)]; simp [vals, hi], fun i => h.frozenAt i, (h.lt g rfl).2⟩

set_option maxHeartbeats 1000000 in
theorem clone_any (b off n cap : Nat) (f : Nat → Nat) (w : World) (hn : n ≤ 5000000) (hR : Rw w b off f n) :
    Calls Tryz.prog 124 #[.slice (some ⟨b, off, none⟩) n cap] w fun e w' => ∃ g c, e = .returned (.slice (some ⟨g, 0, none⟩) n c) ∧ Ow w' .i64 g f n ∧ n ≤ c ∧ w.heap.size ≤ g ∧ Below w.heap.size w w' ∧ Shp w' g c := by
  obtain ⟨i0, hi, hz0, hz1, hz2⟩ := info_parts Tryz.info2
  have hnil := fun (w : World) => Lib.run_eql_slice_nil (P := Tryz.prog) w 133 2 (some ⟨b, off, none⟩) n cap 0 0 Tryz.underlying133
  have hmade : (w.alloc (.cells #[] 2)).ownsRow w.heap.size 2 1 (.slice (some ⟨w.heap.size, 0, none⟩) 0 0) 0 [] := World.ownsRow_made w #[] 0 (Nat.le_refl _) (by simp) (by simp)
  have hR' := hR.below' ((Below.refl w.heap.size w).alloc (Nat.le_refl _) (.cells #[] 2))
  go_enter Tryz.func124, Tryz.ntmps124
  go_wp2_with (first | (at_builtin; refine wpList_append_own _ rfl _ _ 133 rfl w.heap.size 2 i0 (.int .i64 0) 1 8 Tryz.underlying133 hi hz0 hz1 hz2 rfl (by decide) _ _ _ rfl hmade ⟨b, off, none⟩ n cap (vals f n) rfl (by rw [vals_len]; omega) hR'.news (vals_one f n) (by unfold maxLen; omega) (by omega) (by simp) ?_))
  intro v w1 hown hgrow hnn
  have hex : ∃ g c, v = .slice (some ⟨g, 0, none⟩) n c ∧ n ≤ c ∧ w.heap.size ≤ g := by
    rcases hown.2 with ⟨h1, _⟩ | ⟨g, c, cur, h1, h2, h3, h4, _⟩
    · exact absurd h1 hnn
    · exact ⟨g, c, by simpa using h1, by omega, h2⟩
  obtain ⟨g, c, rfl, hc, hg⟩ := hex
  have hO := Ow.of_vals hown
  have hShp := Shp.of_own hown
  have hB : Below w.heap.size w w1 := ((Below.refl w.heap.size w).alloc (Nat.le_refl _) _).grown hgrow (by simp) (fun k h => by simp [Value.ownBlock] at h; omega)
  clear hown hgrow hnn hnil hmade
  go_wp2
  go_ret
  exact ⟨g, c, rfl, hO, hc, hg, hB, hShp⟩

set_option maxHeartbeats 1000000 in
theorem divideByLimb_any (b off n cap d : Nat) (f : Nat → Nat) (w : World) (hn : n ≤ 2000000) (hd0 : 0 < d) (hd : d < 1000000000) (hR : Rw w b off f n) (hf : ∀ i, i < n → f i < 1000000000) :
    Calls Tryz.prog 125 #[.slice (some ⟨b, off, none⟩) n cap, .int .i64 d] w fun e w' => ∃ g m c q, e = .returned (.tuple #[.slice (some ⟨g, 0, none⟩) m c, .int .i64 (lv f n % d : Nat)]) ∧ Ow w' .i64 g q m ∧ m ≤ c ∧ c ≤ 5000000 ∧ w.heap.size ≤ g ∧ Nrm q m ∧ lv q m = lv f n / d ∧ Below w.heap.size w w' ∧ Shp w' g c := by
  obtain ⟨i0, hi, hz0, hz1, hz2⟩ := info_parts Tryz.info2
  go_enter Tryz.func125, Tryz.ntmps125
  go_wp2_with (first | (at_make; refine wpList_make_full _ rfl _ _ 133 rfl w.heap.size 2 i0 (.int .i64 0) 1 Tryz.underlying133 hi hz0 hz1 _ _ _ _ n rfl rfl (by omega) (by omega) (by rw [hz2]; omega) (by unfold maxLen; omega) (Nat.le_refl _) ?_))
  intro w1 hown1 hgrow1
  go_wp2_with fail
  have hO1 := Ow.of_own hown1
  have hS1 := Shp.of_own hown1
  have hB1 : Below w.heap.size w w1 := (Below.refl _ _).grown hgrow1 (Nat.le_refl _) (fun k h => by cases h)
  clear hown1 hgrow1
  go_loopw [5, 6] (fun l i wr => ∃ k q r, k ≤ n ∧ (k = 0 ∧ i = .int .i64 (-1) ∨ ∃ m, k = m + 1 ∧ i = .int .i64 (m : Nat)) ∧ l = .int .i64 (r : Nat) ∧ Ow wr .i64 w.heap.size q n ∧ DivI q f n d k r ∧ Below w.heap.size w wr ∧ Shp wr w.heap.size n) (fun _ i _ => (intOf i + 1).toNat)
  case atStart =>
    refine ⟨n, fun _ => 0, 0, Nat.le_refl _, ?_, rfl, hO1, DivI.start hd0, hB1, hS1⟩
    rcases Nat.eq_zero_or_pos n with e | e
    · exact Or.inl ⟨e, by subst e; rfl⟩
    · exact Or.inr ⟨n - 1, by omega, by go_num⟩
  case round =>
    obtain ⟨k, q, r, hk, hi, rfl, hO, hI, hB, hSh⟩ := hrel
    clear hO1 hB1
    have hr := hI.rest
    rcases hi with ⟨rfl, rfl⟩ | ⟨m, rfl, rfl⟩
    · have HV : Hid _ := hI.done
      go_wp2_with fail
      refine (trim_any w.heap.size 0 n n _ _ (by omega) (Nat.le_refl _) (by omega) hO.rw).mono ?_
      rintro e w2 ⟨⟨m, hm, hzero, htop, rfl⟩, rfl⟩
      go_wp2
      go_ret2
      exact ⟨w.heap.size, m, n, q, by rw [← HV.out.2]; rfl, ⟨fun i hi => hO.cell i (by omega), hO.frz, hO.lt⟩, hm, by omega, Nat.le_refl _, ⟨fun i hi => hI.lim i (by omega) (by omega), htop⟩, by rw [← lv_cut hm hzero, HV.out.1], hB, hSh⟩
    · have r1 := (hR.below' hB) m (by omega)
      have x1 := hf m (by omega)
      have hcl := hO.cell m (by omega)
      have hfz := hO.frz m
      obtain ⟨hst, hq⟩ := hI.step (by omega) x1 hd0
      have hst2 := hO.store (j := m) (by omega) ((r * 1000000000 + f m) / d)
      go_wp2_with fail
      go_region
      go_wp2
      go_roundw
      case rel =>
        refine ⟨m, _, _, by omega, ?_, ?_, ?_, hst, ?_, (hSh.setCell _ _).drew⟩
        · rcases Nat.eq_zero_or_pos m with e | e
          · exact Or.inl ⟨e, by subst e; rfl⟩
          · exact Or.inr ⟨m - 1, by omega, by go_num⟩
        · simp
        · simpa using hst2.drew
        · exact (hB.drew.setCell (Nat.le_refl _) _)
      case measure => simp [intOf]
end
end Go.Proofs.YtadgnafafdfioaaGreatDoor
